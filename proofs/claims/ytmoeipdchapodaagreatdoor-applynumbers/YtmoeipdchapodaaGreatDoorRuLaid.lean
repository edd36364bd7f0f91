/-
  THE TABLE OF INPUTS (package run): what the row lists gives what the walks ask.
-/
import Derived.Test.YtmoeipdchapodaaGreatDoorRuNum
import Derived.Test.YtmoeipdchapodaaGreatDoorLaidS
import Derived.Lay
namespace Go.Proofs.YtmoeipdchapodaaGreatDoor
set_option maxRecDepth 100000
open Go.RowKit Go.ChangeShapes Go.WideShapes

theorem gIns : Tryz.prog.globalNamed "pleacher/run.inputs" = some 0 := by kernel_rfl
theorem gInsType : (Tryz.prog.globals[0]?).map (·.type) = some 102 := by kernel_rfl
def insL : List Int := [0, 0, 1, 1, 2, 2, 2, 2, 1, 1, 1, 1, 1, 2, 0, 1]
theorem ins_data : (Rows.laid_pleacher_run_inputs : DataW Unit) = Lib.tabData .i64 insL := by kernel_rfl
theorem cell_lt {w : World} {b o : Nat} {v : Value} (h : w.cell? ⟨b, o, none⟩ = some v) : b < w.heap.size := by
  by_cases hb : b < w.heap.size
  · exact hb
  · simp [World.cell?, Array.getElem?_eq_none (Nat.le_of_not_lt hb)] at h
/-- what a row lists gives the table of inputs -/
theorem ins_of {W : World} {l : List (String × DataW Unit)} (hL : laidMet Tryz.prog l W) (he : ("pleacher/run.inputs", Rows.laid_pleacher_run_inputs) ∈ l) : InTab W := by
  obtain ⟨g, t, cs, fuel, p, hg, hty, hvar, hd⟩ := Lib.laidMet.reads hL he
  obtain rfl := Option.some.inj (gIns.symm.trans hg)
  obtain rfl := Option.some.inj (gInsType.symm.trans hty)
  rw [ins_data] at hd
  have hT : Lib.TabIs Tryz.prog W "pleacher/run.inputs" .i64 insL := by
    unfold Lib.TabIs
    rw [hvar, ← Lib.cells_of_tab Tryz.underlying102 Tryz.underlying3 (by kernel_rfl) (by kernel_rfl) hd]
  have h1 := hT.cell gIns 1 (by decide)
  have h2 := hT.cell gIns 11 (by decide)
  exact ⟨h1, h2, cell_lt h1⟩
end Go.Proofs.YtmoeipdchapodaaGreatDoor
