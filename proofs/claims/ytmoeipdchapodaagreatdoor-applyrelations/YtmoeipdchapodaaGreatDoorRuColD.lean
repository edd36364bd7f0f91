/-
  CONTRACTS of package run at a plan of two ops, a table and a function of its two columns: what is refused of each op.
-/
import Derived.Test.YtmoeipdchapodaaGreatDoorRuCol
import Derived.Deep.QuietTactic
import Derived.Deep.Cut
import Derived.BigQuiet
import Derived.Deep.RegionLaw
import Derived.Laws.EntriesVeiled
import Derived.Test.YtmoeipdchapodaaGreatDoorRuColC
set_option linter.unusedVariables false
namespace Go.Proofs.YtmoeipdchapodaaGreatDoor
set_option maxRecDepth 100000
open Go.RowKit Go.WideShapes

set_option maxHeartbeats 3200000 in
theorem checkTable_is (pb cb qb rb ib rcap : Nat) (x y : It) (fn : ByteArray) (w : World) (h : PlS w pb cb qb rb ib rcap x y fn) (hx : ¬ x.kind = 1) (hy : ¬ y.kind = 1) (hT : ∀ W, Below w.heap.size w W → Tabs W) :
    Calls Tryz.prog 75 #[.agg #[.slice (some ⟨cb, 0, none⟩) 2 3, .slice (some ⟨qb, 0, none⟩) 1 1]] w fun e w' => e = .returned (.int .i64 (tabF x y)) ∧ Below w.heap.size w w' := by
  have CK : Hid (∀ W, Below w.heap.size w W → Calls Tryz.prog 107 #[.agg #[.slice (some ⟨cb, 0, none⟩) 2 3, .slice (some ⟨qb, 0, none⟩) 1 1]] W fun e w' => e = .returned (.int .i64 (tabF x y)) ∧ Below W.heap.size W w') := fun W hW => by
    have k := relCheck_is _ _ 2 1 C2 (R1 x y) W (h.strs.below hW) (h.rel.below hW) fine2 (fineR h.sx h.sy) (hT W hW)
    rw [relF_tab] at k
    exact k
  have HP : Hid (∀ W, Below w.heap.size w W → PlS W pb cb qb rb ib rcap x y fn) := fun W hW => h.below hW
  have hx1 : (x.kind == 1) = false := by simpa using hx
  have hy1 : (y.kind == 1) = false := by simpa using hy
  have hrm : rcap ≤ 9223372036854775807 := by have := h.rm; unfold maxLen at this; omega
  have hrc := h.rc
  clear h hT hx hy
  by_cases ht : tabF x y = 0
  rotate_left
  · have ht1 : (tabF x y == 0) = false := by simpa using ht
    generalize tabF x y = R at *
    clear ht
    go_enter Tryz.func75, Tryz.ntmps75
    go_wp2_with (go_at_call 107; refine (CK.out _ ?_).mono ?_; (· (focus (repeat (first | exact Below.refl _ _ | exact Hid.out (by assumption) | refine Below.setCell ?_ (by first | omega | (simp <;> omega)) _ | refine Below.alloc ?_ (by first | omega | (simp <;> omega)) _)))); rintro e w1 ⟨rfl, hb1⟩; have HB1 : Hid (Below w.heap.size w w1) := Below.trans (by (focus (repeat (first | exact Below.refl _ _ | exact Hid.out (by assumption) | refine Below.setCell ?_ (by first | omega | (simp <;> omega)) _ | refine Below.alloc ?_ (by first | omega | (simp <;> omega)) _)))) (hb1.mono (by first | omega | (simp <;> omega))); clear hb1)
    go_ret
    exact ⟨rfl, HB1.out⟩
  · rw [ht] at CK ⊢
    clear ht
    go_enter Tryz.func75, Tryz.ntmps75
    go_wp2_with (go_at_call 107; refine (CK.out _ ?_).mono ?_; (· (focus (repeat (first | exact Below.refl _ _ | exact Hid.out (by assumption) | refine Below.setCell ?_ (by first | omega | (simp <;> omega)) _ | refine Below.alloc ?_ (by first | omega | (simp <;> omega)) _)))); rintro e w1 ⟨rfl, hb1⟩; have HB1 : Hid (Below w.heap.size w w1) := Below.trans (by (focus (repeat (first | exact Below.refl _ _ | exact Hid.out (by assumption) | refine Below.setCell ?_ (by first | omega | (simp <;> omega)) _ | refine Below.alloc ?_ (by first | omega | (simp <;> omega)) _)))) (hb1.mono (by first | omega | (simp <;> omega))); have HR1 : Hid (w1.heap[w.heap.size]? = some (.cells #[.slice (some ⟨cb, 0, none⟩) 2 3, .slice (some ⟨qb, 0, none⟩) 1 1] 36)) := (hb1.block _ (by first | omega | (simp <;> omega))).trans (alloc_newN rfl); obtain ⟨q0, q1, q2, q3, q4⟩ := blk2 HR1.out; clear hb1)
    have hP := HP.out w1 HB1.out
    obtain ⟨r0, _, r1⟩ := blk1 hP.rows
    obtain ⟨_, _, _, _, x0, x1, x2, y0, y1, y2, rlt, _, _, _, _, _⟩ := hP
    refine LoopN.wp 2 (LoopN.next ?_)
    go_wp2
    refine LoopN.wp 3 (LoopN.next ?_)
    go_wp2
    refine LoopN.next ?_
    go_wp2
    refine LoopN.next ?_
    go_wp2
    refine LoopN.next ?_
    go_wp2
    go_ret
    refine ⟨rfl, ?_⟩
    (focus (repeat (first | exact Below.refl _ _ | exact Hid.out (by assumption) | refine Below.setCell ?_ (by first | omega | (simp <;> omega)) _ | refine Below.alloc ?_ (by first | omega | (simp <;> omega)) _)))
end Go.Proofs.YtmoeipdchapodaaGreatDoor
set_option linter.unusedVariables false
namespace Go.Proofs.YtmoeipdchapodaaGreatDoor
set_option maxRecDepth 100000
open Go.RowKit Go.WideShapes

/-- the table of how many inputs there are -/
def InTab (w : World) : Prop := w.cell? ⟨0, 1, none⟩ = some (.int .i64 0) ∧ w.cell? ⟨0, 11, none⟩ = some (.int .i64 1) ∧ 0 < w.heap.size
theorem InTab.below {w w' : World} (h : InTab w) (hb : Below w.heap.size w w') : InTab w' := ⟨(hb.cell (p := ⟨0, 1, none⟩) h.2.2).trans h.1, (hb.cell (p := ⟨0, 11, none⟩) h.2.2).trans h.2.1, Nat.lt_of_lt_of_le h.2.2 hb.size⟩
set_option maxHeartbeats 3200000 in
theorem checkAlone_table (pb cb qb rb ib rcap M : Nat) (x y : It) (fn : ByteArray) (w : World) (h : PlS w pb cb qb rb ib rcap x y fn) (hx : ¬ x.kind = 1) (hy : ¬ y.kind = 1) (hI : InTab w) (hT : ∀ W, Below w.heap.size w W → Tabs W) :
    Calls Tryz.prog 21 #[.pointer (some ⟨pb, 0, none⟩), .int .i64 0, .map (some M)] w fun e w' => e = .returned (.int .i64 (tabF x y)) ∧ Below w.heap.size w w' := by
  obtain ⟨hpb, d0, d1, d2, d3, d4, d5, d6, d7, d8, d9, d10, d11, d12, _⟩ := h.cells
  have CK : Hid (∀ W, Below w.heap.size w W → Calls Tryz.prog 75 #[.agg #[.slice (some ⟨cb, 0, none⟩) 2 3, .slice (some ⟨qb, 0, none⟩) 1 1]] W fun e w' => e = .returned (.int .i64 (tabF x y)) ∧ Below W.heap.size W w') := fun W hW => checkTable_is pb cb qb rb ib rcap x y fn W (h.below hW) hx hy (fun W' hW' => hT W' (hW.trans (hW'.mono hW.size)))
  obtain ⟨j1, j11, jz⟩ := hI
  clear h hT hx hy d2 d3 d4 d5 d6 d7 d8 d9 d10
  generalize tabF x y = R at *
  go_enter Tryz.func21, Tryz.ntmps21
  go_upto_region 3 with fail
  go_quiet (fail)
  obtain ⟨V, hV⟩ : ∃ W, W = w.drewN nq := ⟨_, rfl⟩
  have hVc : ∀ x, V.cell? x = w.cell? x := fun x => by rw [hV]; rfl
  have HBV : Hid (Below w.heap.size w V) := by rw [hV]; exact drewN_below _ _ _
  rw [← hV]
  rw [← hVc] at d0 d1 d11 d12 j1 j11
  have hpb2 : pb < V.heap.size := by rw [hV]; exact hpb
  clear hV hVc
  go_wp2
  refine LoopN.wp 1 (LoopN.next ?_)
  go_wp2_with (go_at_call 75; refine (CK.out _ HBV.out).mono ?_; rintro e w1 ⟨rfl, hb1⟩; have HB1 : Hid (Below w.heap.size w w1) := HBV.out.trans (hb1.mono HBV.out.size); clear hb1)
  go_ret
  exact ⟨rfl, HB1.out⟩
set_option maxHeartbeats 3200000 in
theorem checkAlone_apply (pb cb qb rb ib rcap M : Nat) (x y : It) (fn : ByteArray) (V0 : ByteArray → Option Value) (F : FuncId) (caps : Array Value) (L : List FnE) (w : World) (h : PlS w pb cb qb rb ib rcap x y fn) (hI : InTab w) (hF : FnS w M V0 L) (hg : V0 fn = some (.agg #[.int .i64 2, .func (.func F) #[] caps])) :
    Calls Tryz.prog 21 #[.pointer (some ⟨pb, 13, none⟩), .int .i64 1, .map (some M)] w fun e w' => e = .returned (.int .i64 0) ∧ Below w.heap.size w w' := by
  obtain ⟨hpb, _, _, _, _, _, _, _, _, _, _, _, _, _, d13, d14, d15, d16, d17, d18, d19, _⟩ := h.cells
  obtain ⟨i0, _, i1⟩ := blk1 h.ins
  have HL : Hid (∀ W, Below w.heap.size w W → (Instr.lookup 66 (.map (some M)) (.string fn) true).run Tryz.prog W = .ok (.tuple #[.agg #[.int .i64 2, .func (.func F) #[] caps], .bool true]) W) := fun W hW => by
    have k := ((hF.below hW).vm.look h.fs Tryz.underlying66 (z := .agg #[.int .i64 0, .nilFunc]) (by kernel_rfl)).2
    rw [hg] at k
    exact k
  obtain ⟨j1, j11, jz⟩ := hI
  clear h d15 d16 d17 d18 hF hg
  go_enter Tryz.func21, Tryz.ntmps21
  go_upto_region 3 with fail
  go_quiet (fail)
  obtain ⟨V, hV⟩ : ∃ W, W = w.drewN nq := ⟨_, rfl⟩
  have hVc : ∀ x, V.cell? x = w.cell? x := fun x => by rw [hV]; rfl
  have HBV : Hid (Below w.heap.size w V) := by rw [hV]; exact drewN_below _ _ _
  rw [← hV]
  rw [← hVc] at d13 d14 d19 j1 j11 i0
  have hpb2 : pb < V.heap.size := by rw [hV]; exact hpb
  have hib2 : ib < V.heap.size := by rw [hV]; exact i1
  have hl := HL.out V HBV.out
  clear hV hVc
  go_wp2
  refine LoopN.wp 2 (LoopN.next ?_)
  go_wp2
  refine LoopN.next ?_
  go_wp2
  go_ret
  refine ⟨rfl, ?_⟩
  have hVz := HBV.out.size
  (focus (repeat (first | exact Below.refl _ _ | exact Hid.out (by assumption) | refine Below.setCell ?_ (by first | omega | (simp <;> omega)) _ | refine Below.alloc ?_ (by first | omega | (simp <;> omega)) _)))
end Go.Proofs.YtmoeipdchapodaaGreatDoor
