/-
  THE TABLE OF INPUTS (package run), whole: what the row lists gives what the walks ask.
-/
import Derived.Test.YtkcejelmohameaaGreatDoorRcAlone
import Derived.Test.YtkcejelmohameaaGreatDoorStRng
import Derived.Lay
set_option linter.unusedVariables false
namespace Go.Proofs.YtkcejelmohameaaGreatDoor
set_option maxRecDepth 100000
open Go.RowKit Go.ChangeShapes Go.WideShapes

theorem gInsA : Tryz.prog.globalNamed "pleacher/run.inputs" = some 0 := by kernel_rfl
theorem gInsAType : (Tryz.prog.globals[0]?).map (·.type) = some 83 := by kernel_rfl
def insAL : List Int := [0, 0, 1, 1, 2, 2, 2, 2, 1, 1, 1, 1, 1, 2, 0, 1]
theorem insA_data : (Rows.laid_pleacher_run_inputs : DataW Unit) = Lib.tabData .i64 insAL := by kernel_rfl
theorem cellA_lt {w : World} {b o : Nat} {v : Value} (h : w.cell? ⟨b, o, none⟩ = some v) : b < w.heap.size := by
  by_cases hb : b < w.heap.size
  · exact hb
  · simp [World.cell?, Array.getElem?_eq_none (Nat.le_of_not_lt hb)] at h
/-- what a row lists gives the table of inputs -/
theorem insA_of {W : World} {l : List (String × DataW Unit)} (hL : laidMet Tryz.prog l W) (he : ("pleacher/run.inputs", Rows.laid_pleacher_run_inputs) ∈ l) : InTabA W := by
  obtain ⟨g, t, cs, fuel, p, hg, hty, hvar, hd⟩ := Lib.laidMet.reads hL he
  obtain rfl := Option.some.inj (gInsA.symm.trans hg)
  obtain rfl := Option.some.inj (gInsAType.symm.trans hty)
  rw [insA_data] at hd
  have hT : Lib.TabIs Tryz.prog W "pleacher/run.inputs" .i64 insAL := by
    unfold Lib.TabIs
    rw [hvar, ← Lib.cells_of_tab Tryz.underlying83 Tryz.underlying3 (by kernel_rfl) (by kernel_rfl) hd]
  have hc : ∀ k : Nat, 1 ≤ k → k ≤ 15 → W.cell? ⟨0, k, none⟩ = some (.int .i64 (inC (k : Int) : Nat)) := fun k h1 h2 => by
    have h : k = 1 ∨ k = 2 ∨ k = 3 ∨ k = 4 ∨ k = 5 ∨ k = 6 ∨ k = 7 ∨ k = 8 ∨ k = 9 ∨ k = 10 ∨ k = 11 ∨ k = 12 ∨ k = 13 ∨ k = 14 ∨ k = 15 := by omega
    rcases h with rfl | rfl | rfl | rfl | rfl | rfl | rfl | rfl | rfl | rfl | rfl | rfl | rfl | rfl | rfl
    · exact hT.cell gInsA 1 (by decide)
    · exact hT.cell gInsA 2 (by decide)
    · exact hT.cell gInsA 3 (by decide)
    · exact hT.cell gInsA 4 (by decide)
    · exact hT.cell gInsA 5 (by decide)
    · exact hT.cell gInsA 6 (by decide)
    · exact hT.cell gInsA 7 (by decide)
    · exact hT.cell gInsA 8 (by decide)
    · exact hT.cell gInsA 9 (by decide)
    · exact hT.cell gInsA 10 (by decide)
    · exact hT.cell gInsA 11 (by decide)
    · exact hT.cell gInsA 12 (by decide)
    · exact hT.cell gInsA 13 (by decide)
    · exact hT.cell gInsA 14 (by decide)
    · exact hT.cell gInsA 15 (by decide)
  exact ⟨hc, cellA_lt (hc 1 (by decide) (by decide))⟩
end Go.Proofs.YtkcejelmohameaaGreatDoor
