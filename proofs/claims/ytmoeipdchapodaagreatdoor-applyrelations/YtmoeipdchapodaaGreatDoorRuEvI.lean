/-
  CONTRACTS of package run at a plan of two ops, a table and a function of its two columns: its evaluation, op by op.
-/
import Derived.Test.YtmoeipdchapodaaGreatDoorRuColC
import Derived.Test.YtmoeipdchapodaaGreatDoorRuColA
import Derived.Deep.QuietTactic
import Derived.Deep.Cut
import Derived.BigQuiet
import Derived.Deep.RegionLaw
import Derived.Laws.EntriesVeiled
import Derived.Test.YtmoeipdchapodaaGreatDoorRuEvH
import Derived.Test.YtmoeipdchapodaaGreatDoorRuColG
set_option linter.unusedVariables false
namespace Go.Proofs.YtmoeipdchapodaaGreatDoor
set_option maxRecDepth 100000
open Go.RowKit Go.WideShapes

set_option maxHeartbeats 3200000 in
theorem lastUses_is (pb cb qb rb ib rcap : Nat) (x y : It) (fn : ByteArray) (w : World) (h : PlS w pb cb qb rb ib rcap x y fn) :
    Calls Tryz.prog 26 #[.slice (some ⟨pb, 0, none⟩) 2 2] w fun e w' => e = .returned (.slice (some ⟨w.heap.size, 0, none⟩) 2 2) ∧ w'.heap[w.heap.size]? = some (.cells #[.int .i64 1, .int .i64 1] 3) ∧ Below w.heap.size w w' := by
  obtain ⟨hpb, d0, d1, _, _, _, _, _, _, _, _, _, _, _, d13, d14, _⟩ := h.cells
  obtain ⟨i0, _, i1⟩ := blk1 h.ins
  have hmk := mk_ints2
  clear h
  go_enter Tryz.func26, Tryz.ntmps26
  go_wp2
  refine LoopN.wp 3 (LoopN.next ?_)
  go_wp2
  refine LoopN.wp 1 (LoopN.next ?_)
  go_wp2
  refine LoopN.next ?_
  go_wp2
  refine LoopN.wp 2 (LoopN.next ?_)
  go_wp2
  refine LoopN.next ?_
  go_wp2
  refine LoopN.next ?_
  go_wp2
  go_ret
  exact ⟨rfl, alloc_newN rfl, (Below.refl _ _).alloc (Nat.le_refl _) _⟩
end Go.Proofs.YtmoeipdchapodaaGreatDoor
set_option linter.unusedVariables false
namespace Go.Proofs.YtmoeipdchapodaaGreatDoor
set_option maxRecDepth 100000
open Go.RowKit Go.WideShapes

set_option maxHeartbeats 12800000 in
theorem eval_is (pb cb qb rb ib rcap ob : Nat) (x y : It) (fn : ByteArray) (e0 : FnE) (E : Int) (Q : Nat → Value → Value → World → Prop) (w : World) (h : PlS w pb cb qb rb ib rcap x y fn) (hfn : FnOk fn e0)
    (hap : ∀ W ca ck q2 rb' ro' rk' b, Below w.heap.size w W → StrsIs W (.slice ca 2 ck) 2 C2 → W.heap[q2]? = some (.cells #[.slice (some ⟨rb', ro', none⟩) 2 rk'] 33) → TwoAt W rb' ro' x y → 2 ≤ rk' → rk' ≤ maxLen → (∀ i (h : i < e0.caps.length), W.heap[b + i]? = some (.cells #[e0.caps[i].1] e0.caps[i].2)) → Calls Tryz.prog 86 #[.pointer (some ⟨ob, 0, none⟩), .agg #[.slice ca 2 ck, .slice (some ⟨q2, 0, none⟩) 1 1], .string ⟨#[118]⟩, .func (.func e0.f) #[] (ptrs b e0.caps.length).toArray, .slice (some ⟨cb, 0, none⟩) 2 3] W fun e w' => ∃ c1 c2 c3 e1 e2 e3, e = .returned (.tuple #[.agg #[.slice c1 c2 c3, .slice e1 e2 e3], .int .i64 E]) ∧ Q W.heap.size (.slice c1 c2 c3) (.slice e1 e2 e3) w' ∧ Below W.heap.size W w')
    (hkeep : ∀ B c q w' w'', Q B c q w' → w'.heap.size ≤ w''.heap.size → (∀ b, B ≤ b → b < w'.heap.size → w''.heap[b]? = w'.heap[b]?) → Q B c q w'') :
    Calls Tryz.prog 17 #[.pointer (some ⟨ob, 0, none⟩), .slice (some ⟨pb, 0, none⟩) 2 2] w fun e w' => ∃ c1 c2 c3 e1 e2 e3 B, Q B (.slice c1 c2 c3) (.slice e1 e2 e3) w' ∧ w.heap.size ≤ B ∧ (E = 0 ∧ e = .returned (.tuple #[.agg #[.slice c1 c2 c3, .slice e1 e2 e3], .int .i64 0]) ∨ E ≠ 0 ∧ e = .returned (.tuple #[.agg #[.slice none 0 0, .slice none 0 0], .int .i64 E])) ∧ Below w.heap.size w w' := by
  have CF : Hid (∀ W, Calls Tryz.prog 20 #[] W fun e w' => e = .returned (.map (some W.heap.size)) ∧ (∃ V, FnS w' W.heap.size V fnL) ∧ Below W.heap.size W w') := fun W => functions_is W
  have HP : Hid (∀ W, Below w.heap.size w W → PlS W pb cb qb rb ib rcap x y fn) := fun W hW => h.below hW
  have CL : Hid (∀ W, Below w.heap.size w W → Calls Tryz.prog 26 #[.slice (some ⟨pb, 0, none⟩) 2 2] W fun e w' => e = .returned (.slice (some ⟨W.heap.size, 0, none⟩) 2 2) ∧ w'.heap[W.heap.size]? = some (.cells #[.int .i64 1, .int .i64 1] 3) ∧ Below W.heap.size W w') := fun W hW => lastUses_is pb cb qb rb ib rcap x y fn W (HP.out W hW)
  have C1 : Hid (∀ W tv, Below w.heap.size w W → Calls Tryz.prog 23 #[.pointer (some ⟨pb, 0, none⟩), tv] W fun e w' => e = .returned (.slice (some ⟨W.heap.size, 0, none⟩) 0 0) ∧ Below W.heap.size W w') := fun W tv hW => inputsOf_none pb cb qb rb ib rcap x y fn tv W (HP.out W hW)
  have C2' : Hid (∀ W ov M iv, Below w.heap.size w W → Calls Tryz.prog 27 #[ov, .pointer (some ⟨pb, 0, none⟩), M, iv] W _) := fun W ov M iv hW => tell_table pb cb qb rb ib rcap x y fn ov M iv W (HP.out W hW)
  have HAP := hidR hap
  have HK := hidR hkeep
  have HFN := hidR hfn
  have hmk := mk_rels2
  obtain ⟨hpb, d0, d1, _⟩ := h.cells
  have HD : Hid (∀ W, Below w.heap.size w W → pb < W.heap.size ∧ W.cell? ⟨pb, 1, none⟩ = some (.slice none 0 0) ∧ W.cell? ⟨pb, 14, none⟩ = some (.slice (some ⟨ib, 0, none⟩) 1 1) ∧ W.cell? ⟨ib, 0, none⟩ = some (.int .i64 0) ∧ ib < W.heap.size) := fun W hW => by
    obtain ⟨g1, _, g2, _, _, _, _, _, _, _, _, _, _, _, _, g3, _⟩ := (h.below hW).cells
    obtain ⟨i0, _, i1⟩ := blk1 (h.below hW).ins
    exact ⟨g1, g2, g3, i0, i1⟩
  clear hap hkeep hfn h d0 d1
  go_enter Tryz.func17, Tryz.ntmps17
  go_wp2_with (first
    | (go_at_call 20; refine (CF.out _).mono ?_; rintro e w1 ⟨rfl, ⟨V0, hV0⟩, hb1⟩; have HB1 : Hid (Below w.heap.size w w1) := Below.trans (by (focus (repeat (first | exact Below.refl _ _ | exact Hid.out (by assumption) | refine Below.setCell ?_ (by first | omega | (simp <;> omega)) _ | refine Below.alloc ?_ (by first | omega | (simp <;> omega)) _ | refine Below.trans ?_ (drew_belowE _ _))))) (hb1.mono (by first | omega | (simp <;> omega))); have HV1 : Hid (FnS w1 (w.heap.size + 1) V0 fnL) := (by have k := hV0; simp at k; exact k); have HA1 : Hid (w1.heap[w.heap.size]? = some (.cells #[.slice none 0 0, .slice none 0 0] 36)) := (hb1.block _ (by first | omega | (simp <;> omega))).trans (alloc_newN rfl); have hz1 := hb1.size; simp at hz1; clear hb1 CF hV0)
    | (go_at_call 26; refine (CL.out _ ?_).mono ?_; (· (focus (repeat (first | exact Below.refl _ _ | exact Hid.out (by assumption) | refine Below.setCell ?_ (by first | omega | (simp <;> omega)) _ | refine Below.alloc ?_ (by first | omega | (simp <;> omega)) _ | refine Below.trans ?_ (drew_belowE _ _))))); rintro e w2 ⟨rfl, hl2, hb2⟩; have HX2 : Hid (Below w1.heap.size w1 w2) := Below.trans ((Below.refl _ _).alloc (Nat.le_refl _) _) (hb2.mono (by first | omega | (simp <;> omega))); have HT2 : Hid (w2.heap[w1.heap.size]? = some (.cells #[.slice none 0 0, .slice none 0 0, .slice none 0 0, .slice none 0 0] 36)) := (hb2.block _ (by first | omega | (simp <;> omega))).trans (alloc_newN rfl); have HL2 : Hid (w2.heap[w1.heap.size + 1]? = some (.cells #[.int .i64 1, .int .i64 1] 3)) := (by have k := hl2; simp at k; exact k); have hz2 : w1.heap.size + 1 < w2.heap.size := (Array.getElem?_eq_some_iff.1 HL2.out).1; clear hb2 hl2 CL))
  have HWB : Hid (∀ W, Below w1.heap.size w1 W → Below w.heap.size w W) := fun W hW => HB1.out.trans (hW.mono HB1.out.size)
  have HAB : Hid (∀ W, Below w1.heap.size w1 W → W.heap[w.heap.size]? = some (.cells #[.slice none 0 0, .slice none 0 0] 36)) := fun W hW => blk_below hW hz1 HA1.out
  have HVB : Hid (∀ W, Below w1.heap.size w1 W → FnS W (w.heap.size + 1) V0 fnL) := fun W hW => HV1.out.below hW
  clear HB1 HA1 HV1
  obtain ⟨W3, hW3⟩ : ∃ W, W = w2.alloc (.cells #[.slice none 0 0, .slice none 0 0] 36) := ⟨_, rfl⟩
  have HX3 : Hid (Below w1.heap.size w1 W3) := by rw [hW3]; (focus (repeat (first | exact Below.refl _ _ | exact Hid.out (by assumption) | refine Below.setCell ?_ (by first | omega | (simp <;> omega)) _ | refine Below.alloc ?_ (by first | omega | (simp <;> omega)) _ | refine Below.trans ?_ (drew_belowE _ _))))
  have HT3 : Hid (W3.heap[w1.heap.size]? = some (.cells #[.slice none 0 0, .slice none 0 0, .slice none 0 0, .slice none 0 0] 36)) := by rw [hW3]; exact alloc_old HT2.out
  have HL3 : Hid (W3.heap[w1.heap.size + 1]? = some (.cells #[.int .i64 1, .int .i64 1] 3)) := by rw [hW3]; exact alloc_old HL2.out
  have HG3 : Hid (W3.heap[w2.heap.size]? = some (.cells #[.slice none 0 0, .slice none 0 0] 36)) := by rw [hW3]; exact alloc_newN rfl
  have hz3 : W3.heap.size = w2.heap.size + 1 := by rw [hW3]; simp
  rw [← hW3]
  clear hW3 HX2 HT2 HL2
  refine LoopN.wp 3 (LoopN.next ?_)
  go_wp2_with (first
    | (go_at_call 23; refine (C1.out _ _ (HWB.out _ HX3.out)).mono ?_; rintro e w4 ⟨rfl, hb4⟩; have HU4 : Hid (Below W3.heap.size W3 w4) := hb4; have HX4 : Hid (Below w1.heap.size w1 w4) := HX3.out.trans (hb4.mono HX3.out.size); have hz4 := hb4.size; clear hb4)
    | (go_at_call 27; refine (C2'.out _ _ _ _ (HWB.out _ HX4.out)).mono ?_; rintro e w5 ⟨cb', co', ck', qb', rb', ro', rk', rfl, h1, h2, h3, h4, h5, h6, h7, h8, hb5⟩; have HU5 : Hid (Below W3.heap.size W3 w5) := HU4.out.trans (hb5.mono hz4); have HX5 : Hid (Below w1.heap.size w1 w5) := HX4.out.trans (hb5.mono HX4.out.size); have hz5 := hb5.size; obtain ⟨oc, hoc⟩ := blk_some (b := cb') (w := w5) (by obtain ⟨_, _, e1, _, _, _, e2⟩ := h1; obtain ⟨_, _, rfl, e3, _⟩ := e2 (by omega); simp at e1; omega); obtain ⟨orr, hor⟩ := blk_some h3.lt; have H1 := hidR h1; have H2 := hidR h2; have H3 := hidR h3; have HC5 := hidR hoc; have HO5 := hidR hor; have HT5 := hidR (blk_below HU5.out (by omega) HT3.out); have HL5 := hidR (blk_below HU5.out (by omega) HL3.out); have HG5 := hidR (blk_below HU5.out (by omega) HG3.out); obtain ⟨t0, t1, t2, t3, t4, t5, t6, t7, t8⟩ := blk4 HT5.out; obtain ⟨l0, l1, _, _, l4⟩ := blk2 HL5.out; obtain ⟨g0, g1, g2, g3, g4⟩ := blk2 HG5.out; obtain ⟨p0, p1, p2, p3, p4⟩ := HD.out w5 (HWB.out _ HX5.out); clear hb5 h1 h2 h3 hoc hor HU4 HX4 C1 C2'))
  obtain ⟨W6, hW6⟩ : ∃ W, W = ((w5.setCell ⟨w1.heap.size, 0, none⟩ (.slice (some ⟨cb', co', none⟩) 2 ck')).setCell ⟨w1.heap.size, 1, none⟩ (.slice (some ⟨qb', 0, none⟩) 1 1)).alloc (.cells #[.slice (some ⟨cb', co', none⟩) 2 ck', .slice (some ⟨qb', 0, none⟩) 1 1] 36) := ⟨_, rfl⟩
  have HX6 : Hid (Below w1.heap.size w1 W6) := by rw [hW6]; (focus (repeat (first | exact Below.refl _ _ | exact Hid.out (by assumption) | refine Below.setCell ?_ (by first | omega | (simp <;> omega)) _ | refine Below.alloc ?_ (by first | omega | (simp <;> omega)) _ | refine Below.trans ?_ (drew_belowE _ _))))
  have HR6 : Hid (W6.heap[w5.heap.size]? = some (.cells #[.slice (some ⟨cb', co', none⟩) 2 ck', .slice (some ⟨qb', 0, none⟩) 1 1] 36)) := by rw [hW6]; exact alloc_newN (by simp)
  have HT6 : Hid (W6.heap[w1.heap.size]? = some (.cells #[.slice (some ⟨cb', co', none⟩) 2 ck', .slice (some ⟨qb', 0, none⟩) 1 1, .slice none 0 0, .slice none 0 0] 36)) := by rw [hW6]; exact alloc_old (set_same (set_same HT5.out 0 _) 1 _)
  have HL6 : Hid (W6.heap[w1.heap.size + 1]? = some (.cells #[.int .i64 1, .int .i64 1] 3)) := by rw [hW6]; exact alloc_old (set_two_other HL5.out (by omega))
  have HG6 : Hid (W6.heap[w2.heap.size]? = some (.cells #[.slice none 0 0, .slice none 0 0] 36)) := by rw [hW6]; exact alloc_old (set_two_other HG5.out (by omega))
  have HC6 : Hid (W6.heap[cb']? = some oc) := by rw [hW6]; exact alloc_old (set_two_other HC5.out (by omega))
  have HO6 : Hid (W6.heap[rb']? = some orr) := by rw [hW6]; exact alloc_old (set_two_other HO5.out (by omega))
  have HQ6 : Hid (W6.heap[qb']? = some (.cells #[.slice (some ⟨rb', ro', none⟩) 2 rk'] 33)) := by rw [hW6]; exact alloc_old (set_two_other H2.out (by omega))
  rw [← hW6]
  clear hW6 HX5 HU5 HT5 HL5 HG5 H2 t0 t1 t2 t3 t4 t5 t6 t7 t8 l0 l1 l4 g0 g1 g2 g3 g4 p0 p1 p2 p3 p4
  obtain ⟨p0, p1, p2, p3, p4⟩ := HD.out W6 (HWB.out _ HX6.out)
  obtain ⟨r0, r1, _, _, r4⟩ := blk2 HR6.out
  obtain ⟨g0, g1, g2, g3, g4⟩ := blk2 HG6.out
  refine LoopN.wp 1 (LoopN.next ?_)
  go_wp2_with fail
  obtain ⟨W7, hW7⟩ : ∃ W, W = (W6.setCell ⟨w2.heap.size, 0, none⟩ (.slice (some ⟨cb', co', none⟩) 2 ck')).setCell ⟨w2.heap.size, 1, none⟩ (.slice (some ⟨qb', 0, none⟩) 1 1) := ⟨_, rfl⟩
  have HX7 : Hid (Below w1.heap.size w1 W7) := by rw [hW7]; (focus (repeat (first | exact Below.refl _ _ | exact Hid.out (by assumption) | refine Below.setCell ?_ (by first | omega | (simp <;> omega)) _ | refine Below.alloc ?_ (by first | omega | (simp <;> omega)) _ | refine Below.trans ?_ (drew_belowE _ _))))
  have HT7 : Hid (W7.heap[w1.heap.size]? = some (.cells #[.slice (some ⟨cb', co', none⟩) 2 ck', .slice (some ⟨qb', 0, none⟩) 1 1, .slice none 0 0, .slice none 0 0] 36)) := by rw [hW7]; exact set_two_other HT6.out (by omega)
  have HL7 : Hid (W7.heap[w1.heap.size + 1]? = some (.cells #[.int .i64 1, .int .i64 1] 3)) := by rw [hW7]; exact set_two_other HL6.out (by omega)
  have HG7 : Hid (W7.heap[w2.heap.size]? = some (.cells #[.slice (some ⟨cb', co', none⟩) 2 ck', .slice (some ⟨qb', 0, none⟩) 1 1] 36)) := by rw [hW7]; exact set_two HG6.out
  have HC7 : Hid (StrsIs W7 (.slice (some ⟨cb', co', none⟩) 2 ck') 2 C2) := by rw [hW7]; exact strs_blk H1.out HC5.out (set_two_other HC6.out (by omega))
  have HO7 : Hid (TwoAt W7 rb' ro' x y) := by rw [hW7]; exact two_blk H3.out HO5.out (set_two_other HO6.out (by omega))
  have HQ7 : Hid (W7.heap[qb']? = some (.cells #[.slice (some ⟨rb', ro', none⟩) 2 rk'] 33)) := by rw [hW7]; exact set_two_other HQ6.out (by omega)
  rw [← hW7]
  clear hW7 HX6 HT6 HL6 HG6 HC6 HO6 HQ6 H1 H3 HC5 HO5 HR6 p0 p1 p2 p3 p4 r0 r1 r4 g0 g1 g2 g3 g4
  have hz7 : w2.heap.size < W7.heap.size := (Array.getElem?_eq_some_iff.1 HG7.out).1
  have D1 : Hid (Calls Tryz.prog 23 #[.pointer (some ⟨pb, 13, none⟩), .slice (some ⟨w1.heap.size, 0, none⟩) 2 2] W7 fun e w' => e = .returned (.slice (some ⟨W7.heap.size, 0, none⟩) 1 1) ∧ w'.heap[W7.heap.size]? = some (.cells #[.slice (some ⟨cb', co', none⟩) 2 ck', .slice (some ⟨qb', 0, none⟩) 1 1] 36) ∧ Below W7.heap.size W7 w') := by
    obtain ⟨t0, t1, _, _, _, _, _, _, t8⟩ := blk4 HT7.out
    exact inputsOf_one pb cb qb rb ib rcap x y fn w1.heap.size _ _ 2 ck' 1 1 W7 (HP.out W7 (HWB.out W7 HX7.out)) t8 t0 t1
  have D2 : Hid (∀ W, Below w1.heap.size w1 W → Below W7.heap.size W7 W → W.heap[W7.heap.size]? = some (.cells #[.slice (some ⟨cb', co', none⟩) 2 ck', .slice (some ⟨qb', 0, none⟩) 1 1] 36) → Calls Tryz.prog 27 #[.pointer (some ⟨ob, 0, none⟩), .pointer (some ⟨pb, 13, none⟩), .map (some (w.heap.size + 1)), .slice (some ⟨W7.heap.size, 0, none⟩) 1 1] W fun e w' => ∃ c1 c2 c3 e1 e2 e3 E', e = .returned (.tuple #[.agg #[.slice c1 c2 c3, .slice e1 e2 e3], .int .i64 E']) ∧ (E' = E ∧ ∃ B, W.heap.size + 1 ≤ B ∧ Q B (.slice c1 c2 c3) (.slice e1 e2 e3) w') ∧ Below W.heap.size W w') := fun W hX hU hi => by
    obtain ⟨b, hb1, hb2⟩ := HFN.out.at_ (HVB.out W hX)
    refine tell_apply pb cb qb rb ib rcap (w.heap.size + 1) W7.heap.size qb' ob x y fn V0 e0.f _ fnL _ ck' (fun c q E' w' => E' = E ∧ ∃ B, W.heap.size + 1 ≤ B ∧ Q B c q w') W (HP.out W (HWB.out W hX)) (HVB.out W hX) hb1 hi ?_ ?_
    · intro W' hW' hs
      have hq := blk_below hU (Array.getElem?_eq_some_iff.1 HQ7.out).1 HQ7.out
      refine (HAP.out W' _ ck' qb' rb' ro' rk' b ((HWB.out W hX).trans (hW'.mono (HWB.out W hX).size)) ((HC7.out.below hU).below hW') (blk_below hW' (Array.getElem?_eq_some_iff.1 hq).1 hq) ((HO7.out.below hU).below hW') h4 h5 (fun i hi' => blk_below hW' (Array.getElem?_eq_some_iff.1 (hb2 i hi')).1 (hb2 i hi'))).mono ?_
      rintro e w' ⟨c1, c2, c3, e1, e2, e3, rfl, hq', hb'⟩
      exact ⟨c1, c2, c3, e1, e2, e3, E, rfl, ⟨rfl, W'.heap.size, hs, hq'⟩, hb'⟩
    · rintro c q E' w' u v hs ⟨hE, B, hB, hQ⟩
      exact ⟨hE, B, hB, HK.out B c q w' _ hQ (by simp) (fun b h1 h2 => by rw [Below.heap_setCell _ _ _ _ (by simp; omega), Below.heap_setCell _ _ _ _ (by simp; omega)])⟩
  refine LoopN.next ?_
  by_cases hE : E = 0
  · subst hE
    go_wp2_with (first
      | (go_at_call 23; refine D1.out.mono ?_; rintro e w8 ⟨rfl, hi8, hb8⟩; have HX8 : Hid (Below w1.heap.size w1 w8) := HX7.out.trans (hb8.mono HX7.out.size); have HU8 := hidR hb8; have HI8 := hidR hi8; have hz8 := (Array.getElem?_eq_some_iff.1 hi8).1; clear hb8 hi8)
      | (go_at_call 27; refine (D2.out w8 HX8.out HU8.out HI8.out).mono ?_; rintro e w9 ⟨c1, c2, c3, e1, e2, e3, E', rfl, ⟨hE', B, hB, hQ⟩, hb9⟩; subst hE'; have HX9 : Hid (Below w1.heap.size w1 w9) := HX8.out.trans (hb9.mono HX8.out.size); have HU9 : Hid (Below W7.heap.size W7 w9) := HU8.out.trans (hb9.mono (Nat.le_of_lt hz8)); have hz9 := hb9.size; have HQ9 := hidR hQ; have hBw : w.heap.size + 2 ≤ B ∧ w1.heap.size < B ∧ w2.heap.size < B := ⟨by omega, by omega, by omega⟩; obtain ⟨hB1, hB2, hB3⟩ := hBw; have HT9 := hidR (blk_below HU9.out (by omega) HT7.out); have HL9 := hidR (blk_below HU9.out (by omega) HL7.out); have HG9 := hidR (blk_below HU9.out (by omega) HG7.out); have HA9 := hidR (HAB.out w9 HX9.out); obtain ⟨t0, t1, t2, t3, t4, t5, t6, t7, t8⟩ := blk4 HT9.out; obtain ⟨l0, l1, _, _, l4⟩ := blk2 HL9.out; obtain ⟨g0, g1, g2, g3, g4⟩ := blk2 HG9.out; obtain ⟨q0, q1, q2, q3, q4⟩ := blk2 HA9.out; obtain ⟨p0, p1, p2, p3, p4⟩ := HD.out w9 (HWB.out _ HX9.out); clear hb9 hQ HX8 HU8 HI8 D1 D2))
    obtain ⟨W10, hW10⟩ : ∃ W, W = w9.alloc (.cells #[.slice c1 c2 c3, .slice e1 e2 e3] 36) := ⟨_, rfl⟩
    have HX10 : Hid (Below w1.heap.size w1 W10) := by rw [hW10]; (focus (repeat (first | exact Below.refl _ _ | exact Hid.out (by assumption) | refine Below.setCell ?_ (by first | omega | (simp <;> omega)) _ | refine Below.alloc ?_ (by first | omega | (simp <;> omega)) _ | refine Below.trans ?_ (drew_belowE _ _))))
    have HR10 : Hid (W10.heap[w9.heap.size]? = some (.cells #[.slice c1 c2 c3, .slice e1 e2 e3] 36)) := by rw [hW10]; exact alloc_newN rfl
    have HT10 : Hid (W10.heap[w1.heap.size]? = some (.cells #[.slice (some ⟨cb', co', none⟩) 2 ck', .slice (some ⟨qb', 0, none⟩) 1 1, .slice none 0 0, .slice none 0 0] 36)) := by rw [hW10]; exact alloc_old HT9.out
    have HL10 : Hid (W10.heap[w1.heap.size + 1]? = some (.cells #[.int .i64 1, .int .i64 1] 3)) := by rw [hW10]; exact alloc_old HL9.out
    have HG10 : Hid (W10.heap[w2.heap.size]? = some (.cells #[.slice (some ⟨cb', co', none⟩) 2 ck', .slice (some ⟨qb', 0, none⟩) 1 1] 36)) := by rw [hW10]; exact alloc_old HG9.out
    have HQ10 : Hid (Q B (.slice c1 c2 c3) (.slice e1 e2 e3) W10) := by rw [hW10]; exact HK.out B _ _ _ _ HQ9.out (by simp) (fun b k1 k2 => by obtain ⟨o, ho⟩ := blk_some k2; rw [ho]; exact alloc_old ho)
    have hz10 : W10.heap.size = w9.heap.size + 1 := by rw [hW10]; simp
    rw [← hW10]
    clear hW10 HX9 HU9 HT9 HL9 HG9 HQ9 t0 t1 t2 t3 t4 t5 t6 t7 t8 l0 l1 l4 g0 g1 g2 g3 g4 p0 p1 p2 p3 p4 q0 q1 q2 q3 q4
    obtain ⟨p0, p1, p2, p3, p4⟩ := HD.out W10 (HWB.out _ HX10.out)
    obtain ⟨t0, t1, t2, t3, t4, t5, t6, t7, t8⟩ := blk4 HT10.out
    obtain ⟨l0, l1, _, _, l4⟩ := blk2 HL10.out
    refine LoopN.wp 2 (LoopN.next ?_)
    go_wp2_with fail
    obtain ⟨W11, hW11⟩ : ∃ W, W = (W10.setCell ⟨w1.heap.size, 0, none⟩ (.slice none 0 0)).setCell ⟨w1.heap.size, 1, none⟩ (.slice none 0 0) := ⟨_, rfl⟩
    have HX11 : Hid (Below w1.heap.size w1 W11) := by rw [hW11]; (focus (repeat (first | exact Below.refl _ _ | exact Hid.out (by assumption) | refine Below.setCell ?_ (by first | omega | (simp <;> omega)) _ | refine Below.alloc ?_ (by first | omega | (simp <;> omega)) _ | refine Below.trans ?_ (drew_belowE _ _))))
    have HR11 : Hid (W11.heap[w9.heap.size]? = some (.cells #[.slice c1 c2 c3, .slice e1 e2 e3] 36)) := by rw [hW11]; exact set_two_other HR10.out (by omega)
    have HG11 : Hid (W11.heap[w2.heap.size]? = some (.cells #[.slice (some ⟨cb', co', none⟩) 2 ck', .slice (some ⟨qb', 0, none⟩) 1 1] 36)) := by rw [hW11]; exact set_two_other HG10.out (by omega)
    have HQ11 : Hid (Q B (.slice c1 c2 c3) (.slice e1 e2 e3) W11) := by rw [hW11]; exact HK.out B _ _ _ _ HQ10.out (by simp) (fun b k1 k2 => by obtain ⟨o, ho⟩ := blk_some k2; rw [ho]; exact set_two_other ho (by omega))
    have hz11 : W11.heap.size = W10.heap.size := by rw [hW11]; simp
    rw [← hW11]
    clear hW11 HX10 HR10 HT10 HL10 HG10 HQ10 t0 t1 t2 t3 t4 t5 t6 t7 t8 l0 l1 l4 p0 p1 p2 p3 p4
    obtain ⟨r0, r1, _, _, r4⟩ := blk2 HR11.out
    obtain ⟨g0, g1, g2, g3, g4⟩ := blk2 HG11.out
    refine LoopN.next ?_
    go_wp2_with fail
    obtain ⟨W12, hW12⟩ : ∃ W, W = (W11.setCell ⟨w2.heap.size, 0, none⟩ (.slice c1 c2 c3)).setCell ⟨w2.heap.size, 1, none⟩ (.slice e1 e2 e3) := ⟨_, rfl⟩
    have HX12 : Hid (Below w1.heap.size w1 W12) := by rw [hW12]; (focus (repeat (first | exact Below.refl _ _ | exact Hid.out (by assumption) | refine Below.setCell ?_ (by first | omega | (simp <;> omega)) _ | refine Below.alloc ?_ (by first | omega | (simp <;> omega)) _ | refine Below.trans ?_ (drew_belowE _ _))))
    have HG12 : Hid (W12.heap[w2.heap.size]? = some (.cells #[.slice c1 c2 c3, .slice e1 e2 e3] 36)) := by rw [hW12]; exact set_two HG11.out
    have HQ12 : Hid (Q B (.slice c1 c2 c3) (.slice e1 e2 e3) W12) := by rw [hW12]; exact HK.out B _ _ _ _ HQ11.out (by simp) (fun b k1 k2 => by obtain ⟨o, ho⟩ := blk_some k2; rw [ho]; exact set_two_other ho (by omega))
    have HA12 := hidR (HAB.out W12 HX12.out)
    have HB12 := hidR (HWB.out W12 HX12.out)
    rw [← hW12]
    clear hW12 HX11 HR11 HG11 HQ11 r0 r1 r4 g0 g1 g2 g3 g4
    obtain ⟨g0, g1, _, _, g4⟩ := blk2 HG12.out
    obtain ⟨q0, q1, q2, q3, q4⟩ := blk2 HA12.out
    refine LoopN.next ?_
    go_wp2_with fail
    refine bodyPost_ret (v := .tuple #[.agg #[.slice c1 c2 c3, .slice e1 e2 e3], .int .i64 0]) (by simp [results, Tryz.results17, go_sem, q0, q1]) rfl ⟨c1, c2, c3, e1, e2, e3, B, ?_, by omega, by first | rfl | exact .inl ⟨rfl, rfl⟩, ?_⟩
    · exact HK.out B _ _ _ _ HQ12.out (by simp) (fun b k1 k2 => by obtain ⟨o, ho⟩ := blk_some k2; rw [ho]; exact set_two_other ho (by omega))
    · (focus (repeat (first | exact Below.refl _ _ | exact Hid.out (by assumption) | refine Below.setCell ?_ (by first | omega | (simp <;> omega)) _ | refine Below.alloc ?_ (by first | omega | (simp <;> omega)) _ | refine Below.trans ?_ (drew_belowE _ _))))
  · have hE1 : (E == 0) = false := by simpa using hE
    go_wp2_with (first
      | (go_at_call 23; refine D1.out.mono ?_; rintro e w8 ⟨rfl, hi8, hb8⟩; have HX8 : Hid (Below w1.heap.size w1 w8) := HX7.out.trans (hb8.mono HX7.out.size); have HU8 := hidR hb8; have HI8 := hidR hi8; have hz8 := (Array.getElem?_eq_some_iff.1 hi8).1; clear hb8 hi8)
      | (go_at_call 27; refine (D2.out w8 HX8.out HU8.out HI8.out).mono ?_; rintro e w9 ⟨c1, c2, c3, e1, e2, e3, E', rfl, ⟨hE', B, hB, hQ⟩, hb9⟩; subst hE'; have HX9 : Hid (Below w1.heap.size w1 w9) := HX8.out.trans (hb9.mono HX8.out.size); have HU9 : Hid (Below W7.heap.size W7 w9) := HU8.out.trans (hb9.mono (Nat.le_of_lt hz8)); have hz9 := hb9.size; have HQ9 := hidR hQ; have hBw : w.heap.size + 2 ≤ B ∧ w1.heap.size < B ∧ w2.heap.size < B := ⟨by omega, by omega, by omega⟩; obtain ⟨hB1, hB2, hB3⟩ := hBw; have HT9 := hidR (blk_below HU9.out (by omega) HT7.out); have HL9 := hidR (blk_below HU9.out (by omega) HL7.out); have HG9 := hidR (blk_below HU9.out (by omega) HG7.out); have HA9 := hidR (HAB.out w9 HX9.out); obtain ⟨t0, t1, t2, t3, t4, t5, t6, t7, t8⟩ := blk4 HT9.out; obtain ⟨l0, l1, _, _, l4⟩ := blk2 HL9.out; obtain ⟨g0, g1, g2, g3, g4⟩ := blk2 HG9.out; obtain ⟨q0, q1, q2, q3, q4⟩ := blk2 HA9.out; obtain ⟨p0, p1, p2, p3, p4⟩ := HD.out w9 (HWB.out _ HX9.out); clear hb9 hQ HX8 HU8 HI8 D1 D2))
    obtain ⟨W10, hW10⟩ : ∃ W, W = ((w9.setCell ⟨w.heap.size, 0, none⟩ (.slice none 0 0)).setCell ⟨w.heap.size, 1, none⟩ (.slice none 0 0)).alloc (.cells #[.slice c1 c2 c3, .slice e1 e2 e3] 36) := ⟨_, rfl⟩
    have HB9 := hidR (HWB.out w9 HX9.out)
    have HB10 : Hid (Below w.heap.size w W10) := by rw [hW10]; (focus (repeat (first | exact Below.refl _ _ | exact Hid.out (by assumption) | refine Below.setCell ?_ (by first | omega | (simp <;> omega)) _ | refine Below.alloc ?_ (by first | omega | (simp <;> omega)) _ | refine Below.trans ?_ (drew_belowE _ _))))
    have HA10 : Hid (W10.heap[w.heap.size]? = some (.cells #[.slice none 0 0, .slice none 0 0] 36)) := by rw [hW10]; exact alloc_old (set_two HA9.out)
    have HQ10 : Hid (Q B (.slice c1 c2 c3) (.slice e1 e2 e3) W10) := by rw [hW10]; exact HK.out B _ _ _ _ HQ9.out (by simp) (fun b k1 k2 => by obtain ⟨o, ho⟩ := blk_some k2; rw [ho]; exact alloc_old (set_two_other ho (by omega)))
    rw [← hW10]
    clear hW10 q0 q1 q2 q3 q4
    obtain ⟨q0, q1, _, _, q4⟩ := blk2 HA10.out
    refine bodyPost_ret (v := .tuple #[.agg #[.slice none 0 0, .slice none 0 0], .int .i64 E']) (by simp [results, Tryz.results17, go_sem, q0, q1]) rfl ⟨c1, c2, c3, e1, e2, e3, B, HQ10.out, by omega, by first | exact .inr ⟨hE, rfl⟩ | rfl | simp [hE], HB10.out⟩
end Go.Proofs.YtmoeipdchapodaaGreatDoor
