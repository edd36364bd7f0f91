/-
  CONTRACTS of package run at a plan of two ops, a table and a function of its two columns: its columns, whole.
-/
import Derived.Test.YtmoeipdchapodaaGreatDoorRuColD
import Derived.Test.YtmoeipdchapodaaGreatDoorRuColF
import Derived.Deep.RegionHeld3
import Derived.Deep.QuietTactic
import Derived.Deep.Cut
import Derived.BigQuiet
import Derived.Deep.RegionLaw
import Derived.Laws.EntriesVeiled
set_option linter.unusedVariables false
namespace Go.Proofs.YtmoeipdchapodaaGreatDoor
set_option maxRecDepth 100000
open Go.RowKit Go.WideShapes

/-- the name is one of a function of two arguments, that is made of something -/
structure FnOk (fn : ByteArray) (e : FnE) : Prop where
  mem : e ∈ fnL
  name : e.name = fn
  args : e.args = 2
theorem FnOk.at_ {fn : ByteArray} {e : FnE} (h : FnOk fn e) {W : World} {M : Nat} {V : ByteArray → Option Value} (hF : FnS W M V fnL) : ∃ b, V fn = some (.agg #[.int .i64 2, .func (.func e.f) #[] (ptrs b e.caps.length).toArray]) ∧ ∀ i (h : i < e.caps.length), W.heap[b + i]? = some (.cells #[e.caps[i].1] e.caps[i].2) := by
  obtain ⟨b, h1, h2⟩ := hF.ents e h.mem
  rw [h.name, h.args] at h1
  exact ⟨b, h1, fun i hi => (h2 i hi).2⟩
theorem blk4 {w : World} {b : Nat} {x y z t : Value} {T : TypeId} (h : w.heap[b]? = some (.cells #[x, y, z, t] T)) : w.cell? ⟨b, 0, none⟩ = some x ∧ w.cell? ⟨b, 1, none⟩ = some y ∧ w.cell? ⟨b, 2, none⟩ = some z ∧ w.cell? ⟨b, 3, none⟩ = some t ∧ w.frozen? ⟨b, 0, none⟩ = false ∧ w.frozen? ⟨b, 1, none⟩ = false ∧ w.frozen? ⟨b, 2, none⟩ = false ∧ w.frozen? ⟨b, 3, none⟩ = false ∧ b < w.heap.size :=
  ⟨by rw [Lib.cell_of_heap h]; rfl, by rw [Lib.cell_of_heap h]; rfl, by rw [Lib.cell_of_heap h]; rfl, by rw [Lib.cell_of_heap h]; rfl, Lib.frozen_of_heap h _, Lib.frozen_of_heap h _, Lib.frozen_of_heap h _, Lib.frozen_of_heap h _, (Array.getElem?_eq_some_iff.1 h).1⟩
set_option maxHeartbeats 12800000 in
theorem cols_is (pb cb qb rb ib rcap : Nat) (x y : It) (fn : ByteArray) (e0 : FnE) (w : World) (h : PlS w pb cb qb rb ib rcap x y fn) (hx : ¬ x.kind = 1) (hy : ¬ y.kind = 1) (hI : InTab w) (hT : ∀ W, Below w.heap.size w W → Tabs W) (hfn : FnOk fn e0) :
    Calls Tryz.prog 15 #[.slice (some ⟨pb, 0, none⟩) 2 2] w fun e w' => (∃ a n k, e = .returned (.tuple #[.slice a n k, .int .i64 (tabF x y)])) ∧ Below w.heap.size w w' := by
  have CF : Hid (∀ W, Calls Tryz.prog 20 #[] W fun e w' => e = .returned (.map (some W.heap.size)) ∧ (∃ V, FnS w' W.heap.size V fnL) ∧ Below W.heap.size W w') := fun W => functions_is W
  have HP : Hid (∀ W, Below w.heap.size w W → PlS W pb cb qb rb ib rcap x y fn) := fun W hW => h.below hW
  have HI : Hid (∀ W, Below w.heap.size w W → InTab W) := fun W hW => hI.below hW
  have HT : Hid (∀ W, Below w.heap.size w W → Tabs W) := hT
  have HTT : Hid (∀ W, Below w.heap.size w W → ∀ W', Below W.heap.size W W' → Tabs W') := fun W hW W' hW' => hT W' (hW.trans (hW'.mono hW.size))
  have HFN : Hid (FnOk fn e0) := hfn
  have C0 : Hid (∀ W M, Below w.heap.size w W → Calls Tryz.prog 21 #[.pointer (some ⟨pb, 0, none⟩), .int .i64 0, .map (some M)] W fun e w' => e = .returned (.int .i64 (tabF x y)) ∧ Below W.heap.size W w') := fun W M hW => checkAlone_table pb cb qb rb ib rcap M x y fn W (HP.out W hW) hx hy (HI.out W hW) (HTT.out W hW)
  have C1 : Hid (∀ W tv, Below w.heap.size w W → Calls Tryz.prog 23 #[.pointer (some ⟨pb, 0, none⟩), tv] W fun e w' => e = .returned (.slice (some ⟨W.heap.size, 0, none⟩) 0 0) ∧ Below W.heap.size W w') := fun W tv hW => inputsOf_none pb cb qb rb ib rcap x y fn tv W (HP.out W hW)
  have C2' : Hid (∀ W M iv, Below w.heap.size w W → Calls Tryz.prog 22 #[.pointer (some ⟨pb, 0, none⟩), M, iv] W fun e w' => ∃ a cap, e = .returned (.tuple #[.agg #[.slice a 2 cap, .slice none 0 0], .int .i64 0]) ∧ StrsFrom w' W.heap.size (.slice a 2 cap) 2 C2 ∧ Below W.heap.size W w') := fun W M iv hW => outline_table pb cb qb rb ib rcap x y fn M iv W (HP.out W hW) (HTT.out W hW)
  have hmk := mk_rels2
  have hmc := mk_cols2
  clear hx hy hI hT hfn h
  by_cases ht : tabF x y = 0
  rotate_left
  · have ht1 : (tabF x y == 0) = false := by simpa using ht
    generalize tabF x y = R at *
    clear ht C1 C2'
    go_enter Tryz.func15, Tryz.ntmps15
    go_wp2_with (go_at_call 20; refine (CF.out _).mono ?_; rintro e w1 ⟨rfl, ⟨V0, hV0⟩, hb1⟩; have HB1 : Hid (Below w.heap.size w w1) := hb1; have hz1 := hb1.size; clear hb1 CF hV0)
    refine LoopN.wp 1 (LoopN.next ?_)
    go_wp2_with (go_at_call 21; refine (C0.out _ _ ?_).mono ?_; (· (focus (repeat (first | exact Below.refl _ _ | exact Hid.out (by assumption) | refine Below.setCell ?_ (by first | omega | (simp <;> omega)) _ | refine Below.alloc ?_ (by first | omega | (simp <;> omega)) _)))); rintro e w2 ⟨rfl, hb2⟩; have HB2 : Hid (Below w.heap.size w w2) := Below.trans (by (focus (repeat (first | exact Below.refl _ _ | exact Hid.out (by assumption) | refine Below.setCell ?_ (by first | omega | (simp <;> omega)) _ | refine Below.alloc ?_ (by first | omega | (simp <;> omega)) _)))) (hb2.mono (by first | omega | (simp <;> omega))); clear hb2)
    go_ret2
    exact ⟨⟨_, _, _, rfl⟩, HB2.out⟩
  · rw [ht] at C0 ⊢
    clear ht
    go_enter Tryz.func15, Tryz.ntmps15
    go_wp2_with (go_at_call 20; refine (CF.out _).mono ?_; rintro e w1 ⟨rfl, ⟨V0, hV0⟩, hb1⟩; have HB1 : Hid (Below w.heap.size w w1) := hb1; have HV1 : Hid (FnS w1 w.heap.size V0 fnL) := hV0; have hz1 := hb1.size; clear hb1 CF hV0)
    refine LoopN.wp 3 (LoopN.next ?_)
    go_upto_region 18 with (first
      | (go_at_call 21; refine (C0.out _ _ ?_).mono ?_; (· (focus (repeat (first | exact Below.refl _ _ | exact Hid.out (by assumption) | refine Below.setCell ?_ (by first | omega | (simp <;> omega)) _ | refine Below.alloc ?_ (by first | omega | (simp <;> omega)) _)))); rintro e w2 ⟨rfl, hb2⟩; have HB2 : Hid (Below w.heap.size w w2) := Below.trans (by (focus (repeat (first | exact Below.refl _ _ | exact Hid.out (by assumption) | refine Below.setCell ?_ (by first | omega | (simp <;> omega)) _ | refine Below.alloc ?_ (by first | omega | (simp <;> omega)) _)))) (hb2.mono (by first | omega | (simp <;> omega))); have HU2 : Hid (Below w1.heap.size w1 w2) := Below.trans (by (focus (repeat (first | exact Below.refl _ _ | exact Hid.out (by assumption) | refine Below.setCell ?_ (by first | omega | (simp <;> omega)) _ | refine Below.alloc ?_ (by first | omega | (simp <;> omega)) _)))) (hb2.mono (by first | omega | (simp <;> omega))); have HK2 : Hid (w2.heap[w1.heap.size]? = some (.cells #[.slice none 0 0, .slice none 0 0, .slice none 0 0, .slice none 0 0] 36)) := (hb2.block _ (by first | omega | (simp <;> omega))).trans (alloc_old (alloc_newN rfl)); have HL2 : Hid (w2.heap[w1.heap.size + 1]? = some (.cells #[.slice none 0 0, .slice none 0 0] 32)) := (hb2.block _ (by first | omega | (simp <;> omega))).trans (alloc_newN (by simp)); have hz2 : w1.heap.size + 2 ≤ w2.heap.size := (by have := hb2.size; simp at this; omega); clear hb2 C0)
      | (go_at_call 23; refine (C1.out _ _ HB2.out).mono ?_; rintro e w3 ⟨rfl, hb3⟩; have HB3 : Hid (Below w.heap.size w w3) := HB2.out.trans (hb3.mono HB2.out.size); have HU3 : Hid (Below w1.heap.size w1 w3) := HU2.out.trans (hb3.mono HU2.out.size); have HK3 : Hid (w3.heap[w1.heap.size]? = some (.cells #[.slice none 0 0, .slice none 0 0, .slice none 0 0, .slice none 0 0] 36)) := (hb3.block _ (by first | omega | (simp <;> omega))).trans HK2.out; have HL3 : Hid (w3.heap[w1.heap.size + 1]? = some (.cells #[.slice none 0 0, .slice none 0 0] 32)) := (hb3.block _ (by first | omega | (simp <;> omega))).trans HL2.out; have hz3 : w1.heap.size + 2 ≤ w3.heap.size := (by have := hb3.size; omega); clear hb3 C1)
      | (go_at_call 22; refine (C2'.out _ _ _ HB3.out).mono ?_; rintro e w4 ⟨a4, k4, rfl, hs4, hb4⟩; have HB4 : Hid (Below w.heap.size w w4) := HB3.out.trans (hb4.mono HB3.out.size); have HU4 : Hid (Below w1.heap.size w1 w4) := HU3.out.trans (hb4.mono HU3.out.size); have HK4 : Hid (w4.heap[w1.heap.size]? = some (.cells #[.slice none 0 0, .slice none 0 0, .slice none 0 0, .slice none 0 0] 36)) := (hb4.block _ (by first | omega | (simp <;> omega))).trans HK3.out; have HL4 : Hid (w4.heap[w1.heap.size + 1]? = some (.cells #[.slice none 0 0, .slice none 0 0] 32)) := (hb4.block _ (by first | omega | (simp <;> omega))).trans HL3.out; have HS4 : Hid (StrsFrom w4 (w1.heap.size + 2) (.slice a4 2 k4) 2 C2) := strs_ahead hs4 hz3; have hz4 : w1.heap.size + 2 ≤ w4.heap.size := (by have := hb4.size; omega); clear hb4 hs4 C2'))
    obtain ⟨X, hX⟩ : ∃ W, W = w4.alloc (.cells #[.slice a4 2 k4, .slice none 0 0] 36) := ⟨_, rfl⟩
    have HBX : Hid (Below w.heap.size w X) := by rw [hX]; (focus (repeat (first | exact Below.refl _ _ | exact Hid.out (by assumption) | refine Below.setCell ?_ (by first | omega | (simp <;> omega)) _ | refine Below.alloc ?_ (by first | omega | (simp <;> omega)) _)))
    have HUX : Hid (Below w1.heap.size w1 X) := by rw [hX]; (focus (repeat (first | exact Below.refl _ _ | exact Hid.out (by assumption) | refine Below.setCell ?_ (by first | omega | (simp <;> omega)) _ | refine Below.alloc ?_ (by first | omega | (simp <;> omega)) _)))
    have HKX : Hid (X.heap[w1.heap.size]? = some (.cells #[.slice none 0 0, .slice none 0 0, .slice none 0 0, .slice none 0 0] 36)) := by rw [hX]; exact alloc_old HK4.out
    have HLX : Hid (X.heap[w1.heap.size + 1]? = some (.cells #[.slice none 0 0, .slice none 0 0] 32)) := by rw [hX]; exact alloc_old HL4.out
    have HRX : Hid (X.heap[w4.heap.size]? = some (.cells #[.slice a4 2 k4, .slice none 0 0] 36)) := by rw [hX]; exact alloc_newN rfl
    have HSX : Hid (StrsFrom X (w1.heap.size + 2) (.slice a4 2 k4) 2 C2) := by rw [hX]; exact HS4.out.below ((Below.refl _ _).alloc (Nat.le_refl _) _)
    rw [← hX]
    clear hX HB4 HU4 HK4 HL4 HS4 HB3 HU3 HK3 HL3 HB2 HU2 HK2 HL2
    obtain ⟨t0, t1, t2, t3, u0, u1, u2, u3, tz⟩ := blk4 HKX.out
    obtain ⟨l0, l1, v0, v1, lz⟩ := blk2 HLX.out
    obtain ⟨r0, r1, _, _, rz⟩ := blk2 HRX.out
    have hne1 : ¬ w4.heap.size = w1.heap.size := by omega
    have hne2 : ¬ w4.heap.size = w1.heap.size + 1 := by omega
    go_region
    obtain ⟨Y, hY⟩ : ∃ W, W = (((X.setCell ⟨w1.heap.size, 0, none⟩ (.slice a4 2 k4)).setCell ⟨w1.heap.size, 1, none⟩ (.slice none 0 0)).setCell ⟨w1.heap.size + 1, 0, none⟩ (.slice a4 2 k4)).drew := ⟨_, rfl⟩
    have HBY : Hid (Below w.heap.size w Y) := by rw [hY]; exact (((HBX.out.setCell (by first | omega | (simp <;> omega)) _).setCell (by first | omega | (simp <;> omega)) _).setCell (by first | omega | (simp <;> omega)) _).trans (drew_below _ _)
    have HUY : Hid (Below w1.heap.size w1 Y) := by rw [hY]; exact (((HUX.out.setCell (by first | omega | (simp <;> omega)) _).setCell (by first | omega | (simp <;> omega)) _).setCell (by first | omega | (simp <;> omega)) _).trans (drew_below _ _)
    have HKY : Hid (Y.heap[w1.heap.size]? = some (.cells #[.slice a4 2 k4, .slice none 0 0, .slice none 0 0, .slice none 0 0] 36)) := by
      have k := set_other (b := w1.heap.size + 1) (j := 0) (v := .slice a4 2 k4) (set_same (set_same HKX.out 0 (.slice a4 2 k4)) 1 (.slice none 0 0)) (by omega)
      rw [hY]; exact k
    have HLY : Hid (Y.heap[w1.heap.size + 1]? = some (.cells #[.slice a4 2 k4, .slice none 0 0] 32)) := by
      have k := set_same (set_other (b := w1.heap.size) (j := 1) (v := .slice none 0 0) (set_other (b := w1.heap.size) (j := 0) (v := .slice a4 2 k4) HLX.out (by omega)) (by omega)) 0 (.slice a4 2 k4)
      rw [hY]; exact k
    have HSY : Hid (StrsIs Y (.slice a4 2 k4) 2 C2) := by rw [hY]; exact (((HSX.out.setCell (by simp) _).setCell (by simp) _).setCell (by simp) _).is
    rw [← hY]
    clear hY HBX HUX HKX HLX HRX HSX t0 t1 t2 t3 u0 u1 u2 u3 tz l0 l1 v0 v1 lz r0 r1 rz hne1 hne2 hz2 hz3 hz4
    obtain ⟨bF, hg, _⟩ := HFN.out.at_ HV1.out
    generalize (ptrs bF e0.caps.length).toArray = caps at hg
    have HG : Hid (V0 fn = some (.agg #[.int .i64 2, .func (.func e0.f) #[] caps])) := hg
    clear hg
    have HW1 : Hid (∀ W, Below w1.heap.size w1 W → Below w.heap.size w W) := fun W hW => HB1.out.trans (hW.mono hz1)
    have D0 : Hid (∀ W, Below w1.heap.size w1 W → Calls Tryz.prog 21 #[.pointer (some ⟨pb, 13, none⟩), .int .i64 1, .map (some w.heap.size)] W fun e w' => e = .returned (.int .i64 0) ∧ Below W.heap.size W w') := fun W hW => checkAlone_apply pb cb qb rb ib rcap w.heap.size x y fn V0 e0.f caps fnL W (HP.out W (HW1.out W hW)) (HI.out W (HW1.out W hW)) (HV1.out.below hW) HG.out
    have D1 : Hid (∀ W, Below w1.heap.size w1 W → W.heap[w1.heap.size]? = some (.cells #[.slice a4 2 k4, .slice none 0 0, .slice none 0 0, .slice none 0 0] 36) → Calls Tryz.prog 23 #[.pointer (some ⟨pb, 13, none⟩), .slice (some ⟨w1.heap.size, 0, none⟩) 2 2] W fun e w' => e = .returned (.slice (some ⟨W.heap.size, 0, none⟩) 1 1) ∧ w'.heap[W.heap.size]? = some (.cells #[.slice a4 2 k4, .slice none 0 0] 36) ∧ Below W.heap.size W w') := fun W hW hk => by
      obtain ⟨t0, t1, _, _, _, _, _, _, tz⟩ := blk4 hk
      exact inputsOf_one pb cb qb rb ib rcap x y fn w1.heap.size a4 none 2 k4 0 0 W (HP.out W (HW1.out W hW)) tz t0 t1
    have D2 : Hid (∀ W tb, Below w1.heap.size w1 W → StrsIs W (.slice a4 2 k4) 2 C2 → W.heap[tb]? = some (.cells #[.slice a4 2 k4, .slice none 0 0] 36) → Calls Tryz.prog 22 #[.pointer (some ⟨pb, 13, none⟩), .map (some w.heap.size), .slice (some ⟨tb, 0, none⟩) 1 1] W fun e w' => ∃ a cap, e = .returned (.tuple #[.agg #[.slice a 3 cap, .slice none 0 0], .int .i64 0]) ∧ StrsFrom w' W.heap.size (.slice a 3 cap) 3 C3 ∧ Below W.heap.size W w') := fun W tb hW hs hk => outline_apply pb cb qb rb ib rcap w.heap.size tb x y fn V0 e0.f caps fnL a4 k4 W (HP.out W (HW1.out W hW)) (HV1.out.below hW) HG.out hs hk (HTT.out W (HW1.out W hW))
    have hzY : w1.heap.size + 1 < Y.heap.size := (Array.getElem?_eq_some_iff.1 HLY.out).1
    have hzP := (HP.out Y HBY.out).cells.1
    go_wp2
    refine LoopN.next ?_
    go_upto_region 18 with (first
      | (go_at_call 21; refine (D0.out _ HUY.out).mono ?_; rintro e w2 ⟨rfl, hb2⟩; have HU2 : Hid (Below w1.heap.size w1 w2) := HUY.out.trans (hb2.mono (by first | omega | (simp <;> omega))); have HK2 : Hid (w2.heap[w1.heap.size]? = some (.cells #[.slice a4 2 k4, .slice none 0 0, .slice none 0 0, .slice none 0 0] 36)) := (hb2.block _ (by first | omega | (simp <;> omega))).trans HKY.out; have HL2 : Hid (w2.heap[w1.heap.size + 1]? = some (.cells #[.slice a4 2 k4, .slice none 0 0] 32)) := (hb2.block _ (by first | omega | (simp <;> omega))).trans HLY.out; have HS2 : Hid (StrsIs w2 (.slice a4 2 k4) 2 C2) := HSY.out.below hb2; have hz2 : w1.heap.size + 1 < w2.heap.size := (by have := hb2.size; omega); clear hb2 D0)
      | (go_at_call 23; refine (D1.out _ HU2.out HK2.out).mono ?_; rintro e w3 ⟨rfl, hi3, hb3⟩; have HU3 : Hid (Below w1.heap.size w1 w3) := HU2.out.trans (hb3.mono (by first | omega | (simp <;> omega))); have HK3 : Hid (w3.heap[w1.heap.size]? = some (.cells #[.slice a4 2 k4, .slice none 0 0, .slice none 0 0, .slice none 0 0] 36)) := (hb3.block _ (by first | omega | (simp <;> omega))).trans HK2.out; have HL3 : Hid (w3.heap[w1.heap.size + 1]? = some (.cells #[.slice a4 2 k4, .slice none 0 0] 32)) := (hb3.block _ (by first | omega | (simp <;> omega))).trans HL2.out; have HS3 : Hid (StrsIs w3 (.slice a4 2 k4) 2 C2) := HS2.out.below hb3; have HI3 : Hid (w3.heap[w2.heap.size]? = some (.cells #[.slice a4 2 k4, .slice none 0 0] 36)) := hi3; have hz3 : w1.heap.size + 1 < w3.heap.size := (by have := hb3.size; omega); clear hb3 hi3 D1)
      | (go_at_call 22; refine (D2.out _ _ HU3.out HS3.out HI3.out).mono ?_; rintro e w4 ⟨a5, k5, rfl, hs4, hb4⟩; have HU4 : Hid (Below w1.heap.size w1 w4) := HU3.out.trans (hb4.mono (by first | omega | (simp <;> omega))); have HK4 : Hid (w4.heap[w1.heap.size]? = some (.cells #[.slice a4 2 k4, .slice none 0 0, .slice none 0 0, .slice none 0 0] 36)) := (hb4.block _ (by first | omega | (simp <;> omega))).trans HK3.out; have HL4 : Hid (w4.heap[w1.heap.size + 1]? = some (.cells #[.slice a4 2 k4, .slice none 0 0] 32)) := (hb4.block _ (by first | omega | (simp <;> omega))).trans HL3.out; have HS4 : Hid (StrsFrom w4 (w1.heap.size + 2) (.slice a5 3 k5) 3 C3) := strs_ahead hs4 (by first | omega | (simp <;> omega)); have hz4 : w1.heap.size + 2 ≤ w4.heap.size := (by have := hb4.size; omega); clear hb4 hs4 D2))
    obtain ⟨X, hX⟩ : ∃ W, W = w4.alloc (.cells #[.slice a5 3 k5, .slice none 0 0] 36) := ⟨_, rfl⟩
    have HUX : Hid (Below w1.heap.size w1 X) := by rw [hX]; (focus (repeat (first | exact Below.refl _ _ | exact Hid.out (by assumption) | refine Below.setCell ?_ (by first | omega | (simp <;> omega)) _ | refine Below.alloc ?_ (by first | omega | (simp <;> omega)) _)))
    have HKX : Hid (X.heap[w1.heap.size]? = some (.cells #[.slice a4 2 k4, .slice none 0 0, .slice none 0 0, .slice none 0 0] 36)) := by rw [hX]; exact alloc_old HK4.out
    have HLX : Hid (X.heap[w1.heap.size + 1]? = some (.cells #[.slice a4 2 k4, .slice none 0 0] 32)) := by rw [hX]; exact alloc_old HL4.out
    have HRX : Hid (X.heap[w4.heap.size]? = some (.cells #[.slice a5 3 k5, .slice none 0 0] 36)) := by rw [hX]; exact alloc_newN rfl
    have HSX : Hid (StrsFrom X (w1.heap.size + 2) (.slice a5 3 k5) 3 C3) := by rw [hX]; exact HS4.out.below ((Below.refl _ _).alloc (Nat.le_refl _) _)
    rw [← hX]
    clear hX HU4 HK4 HL4 HS4 HU3 HK3 HL3 HS3 HI3 HU2 HK2 HL2 HS2 HBY HUY HKY HLY HSY
    obtain ⟨t0, t1, t2, t3, u0, u1, u2, u3, tz⟩ := blk4 HKX.out
    obtain ⟨l0, l1, v0, v1, lz⟩ := blk2 HLX.out
    obtain ⟨r0, r1, _, _, rz⟩ := blk2 HRX.out
    have hne1 : ¬ w4.heap.size = w1.heap.size := by omega
    have hne2 : ¬ w4.heap.size = w1.heap.size + 1 := by omega
    go_region
    obtain ⟨Y2, hY⟩ : ∃ W, W = (((X.setCell ⟨w1.heap.size, 2, none⟩ (.slice a5 3 k5)).setCell ⟨w1.heap.size, 3, none⟩ (.slice none 0 0)).setCell ⟨w1.heap.size + 1, 1, none⟩ (.slice a5 3 k5)).drew := ⟨_, rfl⟩
    have HUY : Hid (Below w1.heap.size w1 Y2) := by rw [hY]; exact (((HUX.out.setCell (by first | omega | (simp <;> omega)) _).setCell (by first | omega | (simp <;> omega)) _).setCell (by first | omega | (simp <;> omega)) _).trans (drew_below _ _)
    have HLY : Hid (Y2.heap[w1.heap.size + 1]? = some (.cells #[.slice a4 2 k4, .slice a5 3 k5] 32)) := by
      have k := set_same (set_other (b := w1.heap.size) (j := 3) (v := .slice none 0 0) (set_other (b := w1.heap.size) (j := 2) (v := .slice a5 3 k5) HLX.out (by omega)) (by omega)) 1 (.slice a5 3 k5)
      rw [hY]; exact k
    have HSY : Hid (StrsIs Y2 (.slice a5 3 k5) 3 C3) := by rw [hY]; exact (((HSX.out.setCell (by simp) _).setCell (by simp) _).setCell (by simp) _).is
    rw [← hY]
    clear hY HUX HKX HLX HRX HSX t0 t1 t2 t3 u0 u1 u2 u3 tz l0 l1 v0 v1 lz r0 r1 rz hne1 hne2 hz2 hz3 hz4 hzP
    obtain ⟨l0, l1, _, _, lz⟩ := blk2 HLY.out
    have CP : Hid (Calls Tryz.prog 24 #[.slice a5 3 k5, .slice (some ⟨Y2.heap.size, 0, none⟩) 2 2] (Y2.alloc (.cells #[.string ⟨#[112, 111, 115]⟩, .string ⟨#[105, 116, 101, 109]⟩] 9)) fun e w' => e = .returned (.tuple #[.slice (some ⟨(Y2.alloc (.cells #[.string ⟨#[112, 111, 115]⟩, .string ⟨#[105, 116, 101, 109]⟩] 9)).heap.size, 0, none⟩) 2 2, .int .i64 0]) ∧ w'.heap[(Y2.alloc (.cells #[.string ⟨#[112, 111, 115]⟩, .string ⟨#[105, 116, 101, 109]⟩] 9)).heap.size]? = some (.cells #[.int .i64 0, .int .i64 1] 3) ∧ Below (Y2.alloc (.cells #[.string ⟨#[112, 111, 115]⟩, .string ⟨#[105, 116, 101, 109]⟩] 9)).heap.size (Y2.alloc (.cells #[.string ⟨#[112, 111, 115]⟩, .string ⟨#[105, 116, 101, 109]⟩] 9)) w') :=
      places_is _ 3 C3 Y2.heap.size 2 _ (HSY.out.below ((Below.refl _ _).alloc (Nat.le_refl _) _)) col_pos3 col_item3 (Nat.le_refl _) (by unfold maxLen; omega) (by simp) (by simp) (by simp)
    go_wp2
    refine LoopN.next ?_
    go_wp2_with (go_at_call 24; refine CP.out.mono ?_; rintro e w5 ⟨rfl, _, hb5⟩; have HU5 : Hid (Below w1.heap.size w1 w5) := (HUY.out.alloc HUY.out.size _).trans (hb5.mono (by first | omega | (simp <;> omega))); clear hb5)
    go_ret2
    exact ⟨⟨_, _, _, rfl⟩, HW1.out _ HU5.out⟩
end Go.Proofs.YtmoeipdchapodaaGreatDoor
