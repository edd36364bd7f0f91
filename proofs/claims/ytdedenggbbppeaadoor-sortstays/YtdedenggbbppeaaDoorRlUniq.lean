/-
  CONTRACT of the document's answer UniqueOf.
-/
import Derived.Test.YtdedenggbbppeaaDoorRlFirst
import Derived.Test.YtdedenggbbppeaaDoorRlChain
set_option linter.unusedVariables false
namespace Go.Proofs.YtdedenggbbppeaaDoor
set_option maxRecDepth 100000
open Go.RowKit Go.WideShapes

/-- what is told -/
def uniF (C : Nat → ByteArray) (n : Nat) (R : Nat → Row) (m : Nat) (O : Nat → ByteArray) (ko : Nat) : Int :=
  if relF C n R m = 0 then (if foundB C n O ko = true then 0 else 9) else relF C n R m
theorem its_chain {w w' : World} {v : Value} {n : Nat} {X : Nat → It} (h : ItsIs w v n X) (hb : Chain w w') : ItsIs w' v n X := h.below hb
end Go.Proofs.YtdedenggbbppeaaDoor
