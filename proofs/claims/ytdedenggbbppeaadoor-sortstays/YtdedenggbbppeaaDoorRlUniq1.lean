/-
  CONTRACT of the function value within rel.Unique.
-/
import Derived.Test.YtdedenggbbppeaaDoorRlSetOp
set_option linter.unusedVariables false
namespace Go.Proofs.YtdedenggbbppeaaDoor
set_option maxRecDepth 100000
open Go.RowKit Go.WideShapes

/-- all but one block is as it was -/
def ButOne (w w' : World) (b : Nat) : Prop := w.heap.size ≤ w'.heap.size ∧ w'.os = w.os ∧ w'.tape = w.tape ∧ w'.output = w.output ∧ ∀ c, c < w.heap.size → c ≠ b → w'.heap[c]? = w.heap[c]?
end Go.Proofs.YtdedenggbbppeaaDoor
