/-
  CONTRACTS of package core: the names of a clause.
-/
import Derived.Test.YtkhlfdnlpimojaaDoorLcI
set_option linter.unusedVariables false
namespace Go.Proofs.YtkhlfdnlpimojaaDoor
set_option maxRecDepth 100000
open Go.RowKit Go.WideShapes

set_option maxHeartbeats 1600000 in
theorem namesOf_none (b off : Nat) (k : Int) (nm a : ByteArray) (w : World) (h : ClAt w b off k nm a) (h1 : ¬ k = 1) (h2 : ¬ k = 2) :
    Calls Tryd.prog 41 #[.pointer (some ⟨b, off, none⟩)] w fun e w' => e = .returned (.slice none 0 0) ∧ w' = w := by
  obtain ⟨c0, c1, c2⟩ := h
  have g1 : (k == 1) = false := by simpa using h1
  have g2 : (k == 2) = false := by simpa using h2
  clear h1 h2
  go_enter Tryd.func41, Tryd.ntmps41
  go_wp2
  go_ret
  exact ⟨rfl, rfl⟩
set_option maxHeartbeats 3200000 in
theorem namesOf_for (b off : Nat) (nm a : ByteArray) (w : World) (h : ClAt w b off 1 nm a) :
    Calls Tryd.prog 41 #[.pointer (some ⟨b, off, none⟩)] w fun e w' => ∃ n0, e = .returned (.slice (some ⟨w.heap.size, 0, none⟩) 2 2) ∧ w' = (w.drewN n0).alloc (.cells #[.string nm, .string a] 9) := by
  obtain ⟨c0, c1, c2⟩ := h
  go_enter Tryd.func41, Tryd.ntmps41
  go_upto_region 3 with fail
  go_region
  all_goals go_wp2
  all_goals go_ret
  all_goals exact ⟨1, rfl, rfl⟩
end Go.Proofs.YtkhlfdnlpimojaaDoor
