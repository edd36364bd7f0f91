/-
  CONTRACTS of package run at a plan of two ops, a table and a function of its two columns: run.Eval.
-/
import Derived.Test.YtmoeipdchapodaaGreatDoorRuEvI
set_option linter.unusedVariables false
namespace Go.Proofs.YtmoeipdchapodaaGreatDoor
set_option maxRecDepth 100000
open Go.RowKit Go.WideShapes

set_option maxHeartbeats 1600000 in
theorem storeCheck_nil (w : World) : Calls Tryz.prog 14 #[.slice none 0 0] w fun e w' => e = .returned (.int .i64 0) ∧ Below w.heap.size w w' := by
  go_enter Tryz.func14, Tryz.ntmps14
  go_wp2
  refine LoopN.wp 1 (LoopN.next ?_)
  go_wp2
  go_ret
  exact ⟨rfl, Below.refl _ _⟩
set_option maxHeartbeats 1600000 in
theorem growN_nil (w : World) : Calls Tryz.prog 25 #[.slice none 0 0, .int .i64 0] w fun e w' => e = .returned (.slice none 0 0) ∧ Below w.heap.size w w' := by
  go_enter Tryz.func25, Tryz.ntmps25
  go_wp2
  go_ret
  exact ⟨rfl, Below.refl _ _⟩
set_option maxHeartbeats 3200000 in
theorem concatN_nil (bb : Nat) (w : World) (T : TypeId) (h : w.heap[bb]? = some (.cells #[.slice none 0 0] T)) : Calls Tryz.prog 16 #[.slice (some ⟨bb, 0, none⟩) 1 1] w fun e w' => e = .returned (.slice none 0 0) ∧ Below w.heap.size w w' := by
  obtain ⟨k0, _, k1⟩ := blk1 h
  have HH := hidR h
  have CG : Hid (∀ W, Calls Tryz.prog 25 #[.slice none 0 0, .int .i64 0] W fun e w' => e = .returned (.slice none 0 0) ∧ Below W.heap.size W w') := growN_nil
  clear h
  go_enter Tryz.func16, Tryz.ntmps16
  go_wp2
  refine LoopN.wp 2 (LoopN.next ?_)
  go_wp2
  refine LoopN.next ?_
  go_wp2_with (go_at_call 25; refine (CG.out _).mono ?_; rintro e w1 ⟨rfl, hb1⟩; have HB1 := hidR hb1; obtain ⟨m0, _, m1⟩ := blk1 (blk_below hb1 k1 HH.out); clear hb1)
  refine LoopN.wp 2 (LoopN.next ?_)
  go_wp2
  refine LoopN.next ?_
  go_wp2
  go_ret
  exact ⟨rfl, HB1.out⟩
end Go.Proofs.YtmoeipdchapodaaGreatDoor
set_option linter.unusedVariables false
namespace Go.Proofs.YtmoeipdchapodaaGreatDoor
set_option maxRecDepth 100000
open Go.RowKit Go.WideShapes

set_option maxHeartbeats 6400000 in
theorem Eval_bad (pb cb qb rb ib rcap : Nat) (x y : It) (fn : ByteArray) (e0 : FnE) (w : World) (h : PlS w pb cb qb rb ib rcap x y fn) (hx : ¬ x.kind = 1) (hy : ¬ y.kind = 1) (hI : InTab w) (hT : ∀ W, Below w.heap.size w W → Tabs W) (hfn : FnOk fn e0) (ht : ¬ tabF x y = 0) :
    Calls Tryz.prog 13 #[.slice (some ⟨pb, 0, none⟩) 2 2, .slice none 0 0] w fun e w' => e = .returned (.tuple #[.agg #[.slice none 0 0, .slice none 0 0], .slice none 0 0, .int .i64 (tabF x y)]) ∧ Below w.heap.size w w' := by
  have CS : Hid (∀ W, Calls Tryz.prog 14 #[.slice none 0 0] W fun e w' => e = .returned (.int .i64 0) ∧ Below W.heap.size W w') := storeCheck_nil
  have CC : Hid (∀ W, Below w.heap.size w W → Calls Tryz.prog 15 #[.slice (some ⟨pb, 0, none⟩) 2 2] W fun e w' => (∃ a n k, e = .returned (.tuple #[.slice a n k, .int .i64 (tabF x y)])) ∧ Below W.heap.size W w') := fun W hW => cols_is pb cb qb rb ib rcap x y fn e0 W (h.below hW) hx hy (hI.below hW) (fun W' hW' => hT W' (hW.trans (hW'.mono hW.size))) hfn
  have ht1 : (tabF x y == 0) = false := by simpa using ht
  generalize tabF x y = R at *
  clear h hx hy hI hT hfn
  go_enter Tryz.func13, Tryz.ntmps13
  go_wp2_with (first
    | (go_at_call 14; refine (CS.out _).mono ?_; rintro e w1 ⟨rfl, hb1⟩; have HB1 : Hid (Below w.heap.size w w1) := Below.trans (by (focus (repeat (first | exact Below.refl _ _ | exact Hid.out (by assumption) | refine Below.setCell ?_ (by first | omega | (simp <;> omega)) _ | refine Below.alloc ?_ (by first | omega | (simp <;> omega)) _ | refine Below.trans ?_ (drew_belowE _ _))))) (hb1.mono (by first | omega | (simp <;> omega))); have HA1 : Hid (w1.heap[w.heap.size]? = some (.cells #[.slice none 0 0, .slice none 0 0] 36)) := (hb1.block _ (by first | omega | (simp <;> omega))).trans (alloc_newN rfl); have hz1 := (Array.getElem?_eq_some_iff.1 HA1.out).1; clear hb1)
    | (go_at_call 15; refine (CC.out w1 HB1.out).mono ?_; rintro e w2 ⟨⟨ka, kn, kk, rfl⟩, hb2⟩; have HB2 : Hid (Below w.heap.size w w2) := HB1.out.trans (hb2.mono HB1.out.size); have HA2 := hidR (blk_below hb2 hz1 HA1.out); obtain ⟨q0, q1, q2, q3, q4⟩ := blk2 HA2.out; have hz2 := hb2.size; clear hb2 HB1 HA1))
  refine bodyPost_ret (v := .tuple #[.agg #[.slice none 0 0, .slice none 0 0], .slice none 0 0, .int .i64 R]) (by simp [results, Tryz.results13, go_sem, q0, q1]) rfl ⟨rfl, ?_⟩
  (focus (repeat (first | exact Below.refl _ _ | exact Hid.out (by assumption) | refine Below.setCell ?_ (by first | omega | (simp <;> omega)) _ | refine Below.alloc ?_ (by first | omega | (simp <;> omega)) _ | refine Below.trans ?_ (drew_belowE _ _))))
set_option maxHeartbeats 6400000 in
theorem Eval_is (pb cb qb rb ib rcap : Nat) (x y : It) (fn : ByteArray) (e0 : FnE) (E : Int) (Q : Nat → Value → Value → World → Prop) (w : World) (h : PlS w pb cb qb rb ib rcap x y fn) (hx : ¬ x.kind = 1) (hy : ¬ y.kind = 1) (hI : InTab w) (hT : ∀ W, Below w.heap.size w W → Tabs W) (hfn : FnOk fn e0) (ht : tabF x y = 0)
    (hap : ∀ ob W ca ck q2 rb' ro' rk' b, Below w.heap.size w W → StrsIs W (.slice ca 2 ck) 2 C2 → W.heap[q2]? = some (.cells #[.slice (some ⟨rb', ro', none⟩) 2 rk'] 33) → TwoAt W rb' ro' x y → 2 ≤ rk' → rk' ≤ maxLen → (∀ i (h : i < e0.caps.length), W.heap[b + i]? = some (.cells #[e0.caps[i].1] e0.caps[i].2)) → Calls Tryz.prog 86 #[.pointer (some ⟨ob, 0, none⟩), .agg #[.slice ca 2 ck, .slice (some ⟨q2, 0, none⟩) 1 1], .string ⟨#[118]⟩, .func (.func e0.f) #[] (ptrs b e0.caps.length).toArray, .slice (some ⟨cb, 0, none⟩) 2 3] W fun e w' => ∃ c1 c2 c3 e1 e2 e3, e = .returned (.tuple #[.agg #[.slice c1 c2 c3, .slice e1 e2 e3], .int .i64 E]) ∧ Q W.heap.size (.slice c1 c2 c3) (.slice e1 e2 e3) w' ∧ Below W.heap.size W w')
    (hkeep : ∀ B c q w' w'', Q B c q w' → w'.heap.size ≤ w''.heap.size → (∀ b, B ≤ b → b < w'.heap.size → w''.heap[b]? = w'.heap[b]?) → Q B c q w'') :
    Calls Tryz.prog 13 #[.slice (some ⟨pb, 0, none⟩) 2 2, .slice none 0 0] w fun e w' => ∃ c1 c2 c3 e1 e2 e3 B, Q B (.slice c1 c2 c3) (.slice e1 e2 e3) w' ∧ w.heap.size ≤ B ∧ (E = 0 ∧ e = .returned (.tuple #[.agg #[.slice c1 c2 c3, .slice e1 e2 e3], .slice none 0 0, .int .i64 0]) ∨ E ≠ 0 ∧ e = .returned (.tuple #[.agg #[.slice none 0 0, .slice none 0 0], .slice none 0 0, .int .i64 E])) ∧ Below w.heap.size w w' := by
  have CS : Hid (∀ W, Calls Tryz.prog 14 #[.slice none 0 0] W fun e w' => e = .returned (.int .i64 0) ∧ Below W.heap.size W w') := storeCheck_nil
  have CC : Hid (∀ W, Below w.heap.size w W → Calls Tryz.prog 15 #[.slice (some ⟨pb, 0, none⟩) 2 2] W fun e w' => (∃ a n k, e = .returned (.tuple #[.slice a n k, .int .i64 0])) ∧ Below W.heap.size W w') := fun W hW => by
    have k := cols_is pb cb qb rb ib rcap x y fn e0 W (h.below hW) hx hy (hI.below hW) (fun W' hW' => hT W' (hW.trans (hW'.mono hW.size))) hfn
    rw [ht] at k
    exact k
  have CN : Hid (∀ W bb T, W.heap[bb]? = some (.cells #[.slice none 0 0] T) → Calls Tryz.prog 16 #[.slice (some ⟨bb, 0, none⟩) 1 1] W fun e w' => e = .returned (.slice none 0 0) ∧ Below W.heap.size W w') := fun W bb T hh => concatN_nil bb W T hh
  have CE : Hid (∀ W ob, Below w.heap.size w W → Calls Tryz.prog 17 #[.pointer (some ⟨ob, 0, none⟩), .slice (some ⟨pb, 0, none⟩) 2 2] W fun e w' => ∃ c1 c2 c3 e1 e2 e3 B, Q B (.slice c1 c2 c3) (.slice e1 e2 e3) w' ∧ W.heap.size ≤ B ∧ (E = 0 ∧ e = .returned (.tuple #[.agg #[.slice c1 c2 c3, .slice e1 e2 e3], .int .i64 0]) ∨ E ≠ 0 ∧ e = .returned (.tuple #[.agg #[.slice none 0 0, .slice none 0 0], .int .i64 E])) ∧ Below W.heap.size W w') := fun W ob hW => eval_is pb cb qb rb ib rcap ob x y fn e0 E Q W (h.below hW) hfn (fun W' ca ck q2 rb' ro' rk' b hW' => hap ob W' ca ck q2 rb' ro' rk' b (hW.trans (hW'.mono hW.size))) hkeep
  have HK := hidR hkeep
  clear h hx hy hI hT hfn hap hkeep ht
  by_cases hE : E = 0
  · subst hE
    go_enter Tryz.func13, Tryz.ntmps13
    go_upto_region 11 with (first
    | (go_at_call 14; refine (CS.out _).mono ?_; rintro e w1 ⟨rfl, hb1⟩; have HB1 : Hid (Below w.heap.size w w1) := Below.trans (by (focus (repeat (first | exact Below.refl _ _ | exact Hid.out (by assumption) | refine Below.setCell ?_ (by first | omega | (simp <;> omega)) _ | refine Below.alloc ?_ (by first | omega | (simp <;> omega)) _ | refine Below.trans ?_ (drew_belowE _ _))))) (hb1.mono (by first | omega | (simp <;> omega))); have HA1 : Hid (w1.heap[w.heap.size]? = some (.cells #[.slice none 0 0, .slice none 0 0] 36)) := (hb1.block _ (by first | omega | (simp <;> omega))).trans (alloc_newN rfl); have hz1 := (Array.getElem?_eq_some_iff.1 HA1.out).1; clear hb1)
    | (go_at_call 15; refine (CC.out w1 HB1.out).mono ?_; rintro e w2 ⟨⟨ka, kn, kk, rfl⟩, hb2⟩; have HB2 : Hid (Below w.heap.size w w2) := HB1.out.trans (hb2.mono HB1.out.size); have HA2 := hidR (blk_below hb2 hz1 HA1.out); obtain ⟨q0, q1, q2, q3, q4⟩ := blk2 HA2.out; have hz2 := hb2.size; clear hb2 HB1 HA1)
    | (go_at_call 16; refine (CN.out _ _ _ (alloc_newN rfl)).mono ?_; rintro e w3 ⟨rfl, hb3⟩; have HB3 : Hid (Below w.heap.size w w3) := Below.trans (by (focus (repeat (first | exact Below.refl _ _ | exact Hid.out (by assumption) | refine Below.setCell ?_ (by first | omega | (simp <;> omega)) _ | refine Below.alloc ?_ (by first | omega | (simp <;> omega)) _ | refine Below.trans ?_ (drew_belowE _ _))))) (hb3.mono (by first | omega | (simp <;> omega))); have HA3 := hidR (blk_below hb3 (by first | omega | (simp <;> omega)) (alloc_old HA2.out)); have hz3 := hb3.size; simp at hz3; clear hb3)
    | (go_at_call 17; refine (CE.out _ _ ?_).mono ?_; (· (focus (repeat (first | exact Below.refl _ _ | exact Hid.out (by assumption) | refine Below.setCell ?_ (by first | omega | (simp <;> omega)) _ | refine Below.alloc ?_ (by first | omega | (simp <;> omega)) _ | refine Below.trans ?_ (drew_belowE _ _))))); rintro e w4 ⟨c1, c2, c3, e1, e2, e3, B, hQ, hB, hor, hb4⟩; simp at hB; have HB4 : Hid (Below w.heap.size w w4) := Below.trans (by (focus (repeat (first | exact Below.refl _ _ | exact Hid.out (by assumption) | refine Below.setCell ?_ (by first | omega | (simp <;> omega)) _ | refine Below.alloc ?_ (by first | omega | (simp <;> omega)) _ | refine Below.trans ?_ (drew_belowE _ _))))) (hb4.mono (by first | omega | (simp <;> omega))); have HA4 := hidR (blk_below hb4 (by first | omega | (simp <;> omega)) (alloc_old HA3.out)); have HF4 := hidR (blk_below hb4 (by first | omega | (simp <;> omega)) (alloc_newN rfl)); have HQ4 := hidR hQ; have hz4 := hb4.size; simp at hz4; obtain ⟨y0, y1, y2, y3, y4⟩ := blk2 HA4.out; obtain ⟨f0, _, _, _, _, _, _, _, f1⟩ := blk4 HF4.out; (first | (obtain ⟨_, rfl⟩ | ⟨hn, _⟩ := hor; rotate_left; exact absurd rfl hn) | (obtain ⟨hn, _⟩ | ⟨_, rfl⟩ := hor; exact absurd hn hE)); clear hb4 hQ))
    obtain ⟨W5, hW5⟩ : ∃ W, W = w4.alloc (.cells #[.slice c1 c2 c3, .slice e1 e2 e3] 36) := ⟨_, rfl⟩
    have HB5 : Hid (Below w.heap.size w W5) := by rw [hW5]; (focus (repeat (first | exact Below.refl _ _ | exact Hid.out (by assumption) | refine Below.setCell ?_ (by first | omega | (simp <;> omega)) _ | refine Below.alloc ?_ (by first | omega | (simp <;> omega)) _ | refine Below.trans ?_ (drew_belowE _ _))))
    have HR5 : Hid (W5.heap[w4.heap.size]? = some (.cells #[.slice c1 c2 c3, .slice e1 e2 e3] 36)) := by rw [hW5]; exact alloc_newN rfl
    have HA5 : Hid (W5.heap[w.heap.size]? = some (.cells #[.slice none 0 0, .slice none 0 0] 36)) := by rw [hW5]; exact alloc_old HA4.out
    have HF5 := hidR (alloc_old (o := .cells #[.slice c1 c2 c3, .slice e1 e2 e3] 36) HF4.out)
    have HQ5 : Hid (Q B (.slice c1 c2 c3) (.slice e1 e2 e3) W5) := by rw [hW5]; exact HK.out B _ _ _ _ HQ4.out (by simp) (fun b k1 k2 => by obtain ⟨o, ho⟩ := blk_some k2; rw [ho]; exact alloc_old ho)
    unfold Hid at HF5; rw [← hW5] at HF5; replace HF5 := hidR HF5
    rw [← hW5]
    clear hW5 y0 y1 y2 y3 y4 f0 f1
    obtain ⟨y0, y1, y2, y3, y4⟩ := blk2 HA5.out
    obtain ⟨r0, r1, _, _, r4⟩ := blk2 HR5.out
    obtain ⟨f0, _, _, _, _, _, _, _, f1⟩ := blk4 HF5.out
    go_region
    go_wp2_with fail
    refine bodyPost_ret (v := .tuple #[.agg #[.slice c1 c2 c3, .slice e1 e2 e3], .slice none 0 0, .int .i64 0]) (by simp [results, Tryz.results13, go_sem, y0, y1]) rfl ⟨c1, c2, c3, e1, e2, e3, B, ?_, by omega, by first | rfl | exact .inl ⟨rfl, rfl⟩ | exact .inl ⟨trivial, rfl⟩ | simp, ?_⟩
    · exact HK.out B _ _ _ _ HQ5.out (by simp) (fun b k1 k2 => by obtain ⟨o, ho⟩ := blk_some k2; rw [ho]; (focus (repeat (first | exact ho | with_reducible refine blk_drew ?_ | with_reducible refine set_other ?_ (by omega)))))
    · (focus (repeat (first | exact Below.refl _ _ | exact Hid.out (by assumption) | refine Below.setCell ?_ (by first | omega | (simp <;> omega)) _ | refine Below.alloc ?_ (by first | omega | (simp <;> omega)) _ | refine Below.trans ?_ (drew_belowE _ _))))
  · have hE1 : (E == 0) = false := by simpa using hE
    go_enter Tryz.func13, Tryz.ntmps13
    go_wp2_with (first
    | (go_at_call 14; refine (CS.out _).mono ?_; rintro e w1 ⟨rfl, hb1⟩; have HB1 : Hid (Below w.heap.size w w1) := Below.trans (by (focus (repeat (first | exact Below.refl _ _ | exact Hid.out (by assumption) | refine Below.setCell ?_ (by first | omega | (simp <;> omega)) _ | refine Below.alloc ?_ (by first | omega | (simp <;> omega)) _ | refine Below.trans ?_ (drew_belowE _ _))))) (hb1.mono (by first | omega | (simp <;> omega))); have HA1 : Hid (w1.heap[w.heap.size]? = some (.cells #[.slice none 0 0, .slice none 0 0] 36)) := (hb1.block _ (by first | omega | (simp <;> omega))).trans (alloc_newN rfl); have hz1 := (Array.getElem?_eq_some_iff.1 HA1.out).1; clear hb1)
    | (go_at_call 15; refine (CC.out w1 HB1.out).mono ?_; rintro e w2 ⟨⟨ka, kn, kk, rfl⟩, hb2⟩; have HB2 : Hid (Below w.heap.size w w2) := HB1.out.trans (hb2.mono HB1.out.size); have HA2 := hidR (blk_below hb2 hz1 HA1.out); obtain ⟨q0, q1, q2, q3, q4⟩ := blk2 HA2.out; have hz2 := hb2.size; clear hb2 HB1 HA1)
    | (go_at_call 16; refine (CN.out _ _ _ (alloc_newN rfl)).mono ?_; rintro e w3 ⟨rfl, hb3⟩; have HB3 : Hid (Below w.heap.size w w3) := Below.trans (by (focus (repeat (first | exact Below.refl _ _ | exact Hid.out (by assumption) | refine Below.setCell ?_ (by first | omega | (simp <;> omega)) _ | refine Below.alloc ?_ (by first | omega | (simp <;> omega)) _ | refine Below.trans ?_ (drew_belowE _ _))))) (hb3.mono (by first | omega | (simp <;> omega))); have HA3 := hidR (blk_below hb3 (by first | omega | (simp <;> omega)) (alloc_old HA2.out)); have hz3 := hb3.size; simp at hz3; clear hb3)
    | (go_at_call 17; refine (CE.out _ _ ?_).mono ?_; (· (focus (repeat (first | exact Below.refl _ _ | exact Hid.out (by assumption) | refine Below.setCell ?_ (by first | omega | (simp <;> omega)) _ | refine Below.alloc ?_ (by first | omega | (simp <;> omega)) _ | refine Below.trans ?_ (drew_belowE _ _))))); rintro e w4 ⟨c1, c2, c3, e1, e2, e3, B, hQ, hB, hor, hb4⟩; simp at hB; have HB4 : Hid (Below w.heap.size w w4) := Below.trans (by (focus (repeat (first | exact Below.refl _ _ | exact Hid.out (by assumption) | refine Below.setCell ?_ (by first | omega | (simp <;> omega)) _ | refine Below.alloc ?_ (by first | omega | (simp <;> omega)) _ | refine Below.trans ?_ (drew_belowE _ _))))) (hb4.mono (by first | omega | (simp <;> omega))); have HA4 := hidR (blk_below hb4 (by first | omega | (simp <;> omega)) (alloc_old HA3.out)); have HF4 := hidR (blk_below hb4 (by first | omega | (simp <;> omega)) (alloc_newN rfl)); have HQ4 := hidR hQ; have hz4 := hb4.size; simp at hz4; obtain ⟨y0, y1, y2, y3, y4⟩ := blk2 HA4.out; obtain ⟨f0, _, _, _, _, _, _, _, f1⟩ := blk4 HF4.out; (first | (obtain ⟨_, rfl⟩ | ⟨hn, _⟩ := hor; rotate_left; exact absurd rfl hn) | (obtain ⟨hn, _⟩ | ⟨_, rfl⟩ := hor; exact absurd hn hE)); clear hb4 hQ))
    obtain ⟨W5, hW5⟩ : ∃ W, W = ((w4.setCell ⟨w.heap.size, 0, none⟩ (.slice none 0 0)).setCell ⟨w.heap.size, 1, none⟩ (.slice none 0 0)).alloc (.cells #[.slice none 0 0, .slice none 0 0] 36) := ⟨_, rfl⟩
    have HB5 : Hid (Below w.heap.size w W5) := by rw [hW5]; (focus (repeat (first | exact Below.refl _ _ | exact Hid.out (by assumption) | refine Below.setCell ?_ (by first | omega | (simp <;> omega)) _ | refine Below.alloc ?_ (by first | omega | (simp <;> omega)) _ | refine Below.trans ?_ (drew_belowE _ _))))
    have HA5 : Hid (W5.heap[w.heap.size]? = some (.cells #[.slice none 0 0, .slice none 0 0] 36)) := by rw [hW5]; exact alloc_old (set_two HA4.out)
    have HQ5 : Hid (Q B (.slice c1 c2 c3) (.slice e1 e2 e3) W5) := by rw [hW5]; exact HK.out B _ _ _ _ HQ4.out (by simp) (fun b k1 k2 => by obtain ⟨o, ho⟩ := blk_some k2; rw [ho]; exact alloc_old (set_two_other ho (by omega)))
    rw [← hW5]
    clear hW5 y0 y1 y2 y3 y4
    obtain ⟨y0, y1, _, _, y4⟩ := blk2 HA5.out
    refine bodyPost_ret (v := .tuple #[.agg #[.slice none 0 0, .slice none 0 0], .slice none 0 0, .int .i64 E]) (by simp [results, Tryz.results13, go_sem, y0, y1]) rfl ⟨c1, c2, c3, e1, e2, e3, B, HQ5.out, by omega, by first | exact .inr ⟨hE, rfl⟩ | rfl | simp [hE], HB5.out⟩
end Go.Proofs.YtmoeipdchapodaaGreatDoor
