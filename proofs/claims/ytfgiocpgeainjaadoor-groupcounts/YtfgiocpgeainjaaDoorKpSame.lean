/-
  CONTRACTS: the same rows (pleacherkeep.sameRows, by slices.EqualFunc and slices.Equal).
-/
import Derived.Test.YtfgiocpgeainjaaDoorRlMem
import Derived.Deep.QuietTactic
import Derived.BigQuiet
set_option linter.unusedVariables false
namespace Go.Proofs.YtfgiocpgeainjaaDoor
set_option maxRecDepth 100000
open Go.RowKit

theorem drawn_keep2 {w wr : World} {b o q : Nat} (h : wr = w.drewN q) : wr.cell? ⟨b, o, none⟩ = w.cell? ⟨b, o, none⟩ := by rw [h]; simp
theorem its_drawn {w : World} {u : Value} {n : Nat} {X : Nat → It} (h : ItsIs w u n X) : ∀ q, ItsIs (w.drewN q) u n X
  | 0 => h
  | q + 1 => (its_drawn h q).drew
end Go.Proofs.YtfgiocpgeainjaaDoor
