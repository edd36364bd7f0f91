/-
  THE TABLE OF POWERS (strconv) AND THE ERROR ErrSyntax: what the row lists gives what the walks ask.
-/
import Derived.Test.YtmoeipdchapodaaGreatDoorRuNum
import Derived.Test.YtmoeipdchapodaaGreatDoorLaidS
import Derived.Lay
import Derived.Test.YtmoeipdchapodaaGreatDoorRuRelB
import Derived.LaidLaws
import Derived.FnData
namespace Go.Proofs.YtmoeipdchapodaaGreatDoor
set_option maxRecDepth 100000
open Go.RowKit Go.ChangeShapes Go.WideShapes

theorem gIns : Tryz.prog.globalNamed "pleacher/run.inputs" = some 0 := by kernel_rfl
theorem gInsType : (Tryz.prog.globals[0]?).map (·.type) = some 102 := by kernel_rfl
def insL : List Int := [0, 0, 1, 1, 2, 2, 2, 2, 1, 1, 1, 1, 1, 2, 0, 1]
theorem ins_data : (Rows.laid_pleacher_run_inputs : DataW Unit) = Lib.tabData .i64 insL := by kernel_rfl
theorem cell_lt {w : World} {b o : Nat} {v : Value} (h : w.cell? ⟨b, o, none⟩ = some v) : b < w.heap.size := by
  by_cases hb : b < w.heap.size
  · exact hb
  · simp [World.cell?, Array.getElem?_eq_none (Nat.le_of_not_lt hb)] at h
/-- what a row lists gives the table of inputs -/
theorem ins_of {W : World} {l : List (String × DataW Unit)} (hL : laidMet Tryz.prog l W) (he : ("pleacher/run.inputs", Rows.laid_pleacher_run_inputs) ∈ l) : InTab W := by
  obtain ⟨g, t, cs, fuel, p, hg, hty, hvar, hd⟩ := Lib.laidMet.reads hL he
  obtain rfl := Option.some.inj (gIns.symm.trans hg)
  obtain rfl := Option.some.inj (gInsType.symm.trans hty)
  rw [ins_data] at hd
  have hT : Lib.TabIs Tryz.prog W "pleacher/run.inputs" .i64 insL := by
    unfold Lib.TabIs
    rw [hvar, ← Lib.cells_of_tab Tryz.underlying102 Tryz.underlying3 (by kernel_rfl) (by kernel_rfl) hd]
  have h1 := hT.cell gIns 1 (by decide)
  have h2 := hT.cell gIns 11 (by decide)
  exact ⟨h1, h2, cell_lt h1⟩
end Go.Proofs.YtmoeipdchapodaaGreatDoor
namespace Go.Proofs.YtmoeipdchapodaaGreatDoor
set_option maxRecDepth 100000
open Go.RowKit Go.ChangeShapes Go.WideShapes

theorem gPow : Tryz.prog.globalNamed "internal/strconv.uint64pow10" = some 4 := by kernel_rfl
theorem gPowType : (Tryz.prog.globals[4]?).map (·.type) = some 272 := by kernel_rfl
theorem pow_data : (Rows.laid_internal_strconv_uint64pow10 : DataW Unit) = Lib.tabData .u64 Lib.pow10Tab := by kernel_rfl
theorem gErr : Tryz.prog.globalNamed "strconv.ErrSyntax" = some 5 := by kernel_rfl
theorem gErrType : (Tryz.prog.globals[5]?).map (·.type) = some 126 := by kernel_rfl
theorem pow_of {W : World} {l : List (String × DataW Unit)} (hL : laidMet Tryz.prog l W) (he : ("internal/strconv.uint64pow10", Rows.laid_internal_strconv_uint64pow10) ∈ l) : ∀ W', Below W.heap.size W W' → Lib.TabIs Tryz.prog W' "internal/strconv.uint64pow10" .u64 Lib.pow10Tab := by
  obtain ⟨g, t, cs, fuel, p, hg, hty, hvar, hd⟩ := Lib.laidMet.reads hL he
  obtain rfl := Option.some.inj (gPow.symm.trans hg)
  obtain rfl := Option.some.inj (gPowType.symm.trans hty)
  rw [pow_data] at hd
  have hT : Lib.TabIs Tryz.prog W "internal/strconv.uint64pow10" .u64 Lib.pow10Tab := by
    unfold Lib.TabIs
    rw [hvar, ← Lib.cells_of_tab Tryz.underlying272 Tryz.underlying231 (by kernel_rfl) (by kernel_rfl) hd]
  have hlt := cell_lt (hT.cell gPow 0 (by decide))
  intro W' hb
  unfold Lib.TabIs World.var? at hT ⊢
  rw [gPow] at hT ⊢
  simp only [Option.bind_some] at hT ⊢
  rw [hb.block _ hlt]
  exact hT
theorem err_of {W : World} {l : List (String × DataW Unit)} (hL : laidMet Tryz.prog l W) (he : ("strconv.ErrSyntax", Rows.laid_strconv_ErrSyntax) ∈ l) : ∃ ev, (∀ W', Below W.heap.size W W' → W'.cell? ⟨5, 0, none⟩ = some ev) ∧ (ev = .nilIface ∨ ∃ te pe, ev = .iface te pe) := by
  obtain ⟨g, t, cs, fuel, p, hg, hty, hvar, hd⟩ := Lib.laidMet.reads hL he
  obtain rfl := Option.some.inj (gErr.symm.trans hg)
  obtain rfl := Option.some.inj (gErrType.symm.trans hty)
  obtain ⟨f1, u, v, hc, _⟩ := iface_of_trod Tryz.underlying126 hd
  have h0 := World.var?_cell gErr hvar 0
  have hc0 : cs[0]? = some (.iface u v) := by
    rw [← Array.getElem?_toList, hc]
    rfl
  rw [hc0] at h0
  exact ⟨_, fun W' hb => (hb.cell (p := ⟨5, 0, none⟩) (cell_lt h0)).trans h0, .inr ⟨u, v, rfl⟩⟩
end Go.Proofs.YtmoeipdchapodaaGreatDoor
