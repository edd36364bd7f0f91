/-
  CONTRACTS of package run at a plan of two ops, a table and a function of its two columns: its evaluation: a copy of the table.
-/
import Derived.Test.YtmoeipdchapodaaGreatDoorRuEvE
import Derived.Test.YtmoeipdchapodaaGreatDoorRlOf
set_option linter.unusedVariables false
namespace Go.Proofs.YtmoeipdchapodaaGreatDoor
set_option maxRecDepth 100000
open Go.RowKit Go.WideShapes

theorem size1 {a b : Nat} (h : a + 1 ≤ b) : a < b := h
/-- texts lie there still, if their block does -/
theorem strs_blk {w w' : World} {cb co n k : Nat} {C : Nat → ByteArray} {o : Obj} (h : StrsIs w (.slice (some ⟨cb, co, none⟩) n k) n C) (h1 : w.heap[cb]? = some o) (h2 : w'.heap[cb]? = some o) : StrsIs w' (.slice (some ⟨cb, co, none⟩) n k) n C := by
  obtain ⟨a, cap, e, q1, q2, q3, q4⟩ := h
  refine ⟨a, cap, e, q1, q2, q3, fun h0 => ?_⟩
  obtain ⟨b, off, rfl, k1, k2⟩ := q4 h0
  simp at e
  obtain ⟨⟨rfl, rfl⟩, rfl⟩ := e
  exact ⟨cb, co, rfl, (Array.getElem?_eq_some_iff.1 h2).1, fun i hi => (World.cell?_of_block (a := ⟨cb, co + i, none⟩) (h2.trans h1.symm)).trans (k2 i hi)⟩
theorem two_blk {w w' : World} {b o : Nat} {x y : It} {ob : Obj} (h : TwoAt w b o x y) (h1 : w.heap[b]? = some ob) (h2 : w'.heap[b]? = some ob) : TwoAt w' b o x y :=
  have e := fun o => World.cell?_of_block (a := ⟨b, o, none⟩) (h2.trans h1.symm)
  ⟨(e _).trans h.x0, (e _).trans h.x1, (e _).trans h.x2, (e _).trans h.y0, (e _).trans h.y1, (e _).trans h.y2, (Array.getElem?_eq_some_iff.1 h2).1⟩
theorem blk_some {w : World} {b : Nat} (h : b < w.heap.size) : ∃ o, w.heap[b]? = some o := ⟨_, Array.getElem?_eq_getElem h⟩
/-- a copy of two items -/
theorem two_of {w : World} {base : Nat} {v : Value} {x y : It} (h : ItsApart w base none v 2 (fun i => if i = 0 then x else y)) : ∃ b o k, v = .slice (some ⟨b, o, none⟩) 2 k ∧ 2 ≤ k ∧ k ≤ maxLen ∧ base ≤ b ∧ TwoAt w b o x y := by
  obtain ⟨a, k, rfl, h1, h2, _, h3⟩ := h
  obtain ⟨b, o, rfl, h4, h5, _, h6⟩ := h3 (by omega)
  obtain ⟨x0, x1, x2⟩ := h6 0 (by omega)
  obtain ⟨y0, y1, y2⟩ := h6 1 (by omega)
  exact ⟨b, o, k, rfl, h1, h2, h5, ⟨x0, x1, x2, y0, y1, y2, h4⟩⟩
theorem strs_of {w : World} {base : Nat} {v : Value} (h : StrsFrom w base v 2 C2) : ∃ cb co k, v = .slice (some ⟨cb, co, none⟩) 2 k ∧ base ≤ cb ∧ cb < w.heap.size ∧ StrsIs w v 2 C2 := by
  have hi := h.is
  obtain ⟨a, k, rfl, h1, h2, _, h3⟩ := h
  obtain ⟨b, o, rfl, h4, h5, _⟩ := h3 (by omega)
  exact ⟨b, o, k, rfl, by omega, by omega, hi⟩
theorem keep_set {w : World} {b c o : Nat} {v x : Value} (hne : c ≠ b) (h : w.cell? ⟨c, o, none⟩ = some v) (hs : c < w.heap.size) : (w.setCell ⟨b, 0, none⟩ x).cell? ⟨c, o, none⟩ = some v ∧ c < (w.setCell ⟨b, 0, none⟩ x).heap.size :=
  ⟨(World.cell?_of_block (a := ⟨c, o, none⟩) (Below.heap_setCell _ _ _ _ (by simpa using hne))).trans h, by simpa using hs⟩
set_option maxHeartbeats 12800000 in
theorem copied_is (ca : Option Addr) (ck qb rb ro rk : Nat) (x y : It) (w : World) (hc : StrsIs w (.slice ca 2 ck) 2 C2) (hq : w.heap[qb]? = some (.cells #[.slice (some ⟨rb, ro, none⟩) 2 rk] 33)) (hr : TwoAt w rb ro x y) (hrk : 2 ≤ rk) (hrm : rk ≤ maxLen) :
    Calls Tryz.prog 84 #[.agg #[.slice ca 2 ck, .slice (some ⟨qb, 0, none⟩) 1 1]] w fun e w' => ∃ cb' co' ck' qb' rb' ro' rk', e = .returned (.agg #[.slice (some ⟨cb', co', none⟩) 2 ck', .slice (some ⟨qb', 0, none⟩) 1 1]) ∧ StrsIs w' (.slice (some ⟨cb', co', none⟩) 2 ck') 2 C2 ∧ w'.heap[qb']? = some (.cells #[.slice (some ⟨rb', ro', none⟩) 2 rk'] 33) ∧ TwoAt w' rb' ro' x y ∧ 2 ≤ rk' ∧ rk' ≤ maxLen ∧ w.heap.size ≤ cb' ∧ w.heap.size ≤ qb' ∧ w.heap.size ≤ rb' ∧ Below w.heap.size w w' := by
  have CC1 : Hid (∀ W bb, Below w.heap.size w W → (∃ T, W.heap[bb]? = some (.cells #[.slice ca 2 ck] T)) → Calls Tryz.prog 111 #[.slice (some ⟨bb, 0, none⟩) 1 1] W fun e w' => ∃ cb co cap, e = .returned (.slice (some ⟨cb, co, none⟩) 2 cap) ∧ W.heap.size ≤ cb ∧ cb < w'.heap.size ∧ StrsIs w' (.slice (some ⟨cb, co, none⟩) 2 cap) 2 C2 ∧ Below W.heap.size W w') := fun W bb hW hex => by
    obtain ⟨T, hbb0⟩ := hex
    obtain ⟨k0, _, hbb⟩ := blk1 hbb0
    refine Calls.mono (concatS_one bb 0 1 _ 2 C2 W (Nat.le_refl _) (by unfold maxLen; omega) hbb k0 (hc.below hW) (by omega)) ?_
    rintro e w' ⟨u, rfl, h1, _, h2⟩
    obtain ⟨cb, co, k, rfl, h3, h4, h5⟩ := strs_of h1
    exact ⟨cb, co, k, rfl, h3, h4, h5, h2⟩
  have CC2 : Hid (∀ W bb, Below w.heap.size w W → (∃ T, W.heap[bb]? = some (.cells #[.slice (some ⟨rb, ro, none⟩) 2 rk] T)) → Calls Tryz.prog 121 #[.slice (some ⟨bb, 0, none⟩) 1 1] W fun e w' => ∃ b o k, e = .returned (.slice (some ⟨b, o, none⟩) 2 k) ∧ 2 ≤ k ∧ k ≤ maxLen ∧ W.heap.size ≤ b ∧ TwoAt w' b o x y ∧ Below W.heap.size W w') := fun W bb hW hex => by
    obtain ⟨T, hbb0⟩ := hex
    obtain ⟨k0, _, hbb⟩ := blk1 hbb0
    refine Calls.mono (concatI_one bb 0 1 _ 2 _ W (Nat.le_refl _) (by unfold maxLen; omega) hbb k0 (two_its (hr.below hW) hrk hrm) (by omega)) ?_
    rintro e w' ⟨u, rfl, h1, _, h2⟩
    obtain ⟨b, o, k, rfl, h3, h4, h5, h6⟩ := two_of h1
    exact ⟨b, o, k, rfl, h3, h4, h5, h6, h2⟩
  have HQ : Hid (∀ W, Below w.heap.size w W → W.heap[qb]? = some (.cells #[.slice (some ⟨rb, ro, none⟩) 2 rk] 33)) := fun W hW => (hW.block _ (Array.getElem?_eq_some_iff.1 hq).1).trans hq
  have hmk := mk_rows1
  clear hc hq hr
  go_enter Tryz.func84, Tryz.ntmps84
  go_upto_region 1 with fail
  obtain ⟨W0, hW0⟩ : ∃ W, W = (w.alloc (.cells #[.slice ca 2 ck, .slice (some ⟨qb, 0, none⟩) 1 1] 36)).alloc (.cells #[.slice none 0 0, .slice none 0 0] 36) := ⟨_, rfl⟩
  have HB0 : Hid (Below w.heap.size w W0) := by rw [hW0]; (focus (repeat (first | exact Below.refl _ _ | exact Hid.out (by assumption) | refine Below.setCell ?_ (by first | omega | (simp <;> omega)) _ | refine Below.alloc ?_ (by first | omega | (simp <;> omega)) _ | refine Below.trans ?_ (drew_belowE _ _))))
  have HR0 : Hid (W0.heap[w.heap.size]? = some (.cells #[.slice ca 2 ck, .slice (some ⟨qb, 0, none⟩) 1 1] 36)) := by rw [hW0]; exact alloc_old (alloc_newN rfl)
  have HA0 : Hid (W0.heap[w.heap.size + 1]? = some (.cells #[.slice none 0 0, .slice none 0 0] 36)) := by rw [hW0]; exact alloc_newN (by simp)
  have hz0' : w.heap.size + 2 ≤ W0.heap.size := by rw [hW0]; simp
  try simp only [Nat.add_assoc, Nat.reduceAdd]
  rw [← hW0]
  clear hW0
  obtain ⟨r0, r1, _, _, r4⟩ := blk2 HR0.out
  go_cut [3] from 6 to 14 (fun s W => ∃ mb mq cb co k, s = .pointer (some ⟨mb, 0, none⟩) ∧ W.heap[mb]? = some (.cells #[.slice (some ⟨cb, co, none⟩) 2 k, .slice (some ⟨mq, 0, none⟩) 1 1] 36) ∧ W.heap[mq]? = some (.cells #[.slice none 0 0] 33) ∧ StrsIs W (.slice (some ⟨cb, co, none⟩) 2 k) 2 C2 ∧ cb < W.heap.size ∧ mb ≠ mq ∧ cb ≠ mb ∧ cb ≠ mq ∧ W0.heap.size ≤ cb ∧ W0.heap.size ≤ mb ∧ W0.heap.size ≤ mq ∧ Below W0.heap.size W0 W)
  case first =>
    have HS : Hid (∀ W, Below W0.heap.size W0 W → W.cell? ⟨w.heap.size, 0, none⟩ = some (.slice ca 2 ck) ∧ W.cell? ⟨w.heap.size, 1, none⟩ = some (.slice (some ⟨qb, 0, none⟩) 1 1) ∧ w.heap.size < W.heap.size) := fun W hW => ⟨(hW.cell (p := ⟨w.heap.size, 0, none⟩) r4).trans r0, (hW.cell (p := ⟨w.heap.size, 1, none⟩) r4).trans r1, Nat.lt_of_lt_of_le r4 hW.size⟩
    go_region_held3 (fun W => W.cell? ⟨w.heap.size, 0, none⟩ = some (.slice ca 2 ck) ∧ W.cell? ⟨w.heap.size, 1, none⟩ = some (.slice (some ⟨qb, 0, none⟩) 1 1) ∧ w.heap.size < W.heap.size)
      ((refine HS.out _ ?_; (focus (repeat (first | exact Below.refl _ _ | exact Hid.out (by assumption) | refine Below.setCell ?_ (by first | omega | (simp <;> omega)) _ | refine Below.alloc ?_ (by first | omega | (simp <;> omega)) _ | refine Below.trans ?_ (drew_belowE _ _))))))
      ((go_at_call 111; refine Calls.mono (CC1.out _ _ ?_ ?_) ?_; (· exact HB0.out.trans (Below.mono (B := W0.heap.size) (by (focus (repeat (first | exact Below.refl _ _ | exact Hid.out (by assumption) | refine Below.setCell ?_ (by first | omega | (simp <;> omega)) _ | refine Below.alloc ?_ (by first | omega | (simp <;> omega)) _ | refine Below.trans ?_ (drew_belowE _ _))))) HB0.out.size)); (· exact ⟨_, by (focus (repeat (first | with_reducible refine blk_drew ?_ | with_reducible exact alloc_newN (by simp) | with_reducible refine alloc_old ?_)))⟩); rintro e w1 ⟨cb, co, k1, rfl, hcb1, hcb2, hs1, hb1⟩; simp at hcb1; obtain ⟨ob1, ho1⟩ := blk_some hcb2; have HO1 := hidR ho1; have HS1 := hidR hs1; have HB1 : Hid (Below W0.heap.size W0 w1) := Below.trans (by (focus (repeat (first | exact Below.refl _ _ | exact Hid.out (by assumption) | refine Below.setCell ?_ (by first | omega | (simp <;> omega)) _ | refine Below.alloc ?_ (by first | omega | (simp <;> omega)) _ | refine Below.trans ?_ (drew_belowE _ _))))) (hb1.mono (by simp <;> omega)); have HBW := hidR hb1; obtain ⟨hc1, hf1⟩ := bcellR hb1; have hz1 := hb1.size; simp at hz1; (first | (have zz := size3 hz1; obtain ⟨za, zb, zc⟩ := zz) | (have zz := size2 hz1; obtain ⟨za, zb⟩ := zz) | (have zz := size1 hz1)); have g00 := hc1 (W0.heap.size) 0; have p00 := hf1 (W0.heap.size) 0; (try simp [go_sem] at g00); (try simp [go_sem] at p00); have g01 := hc1 (W0.heap.size) 1; have p01 := hf1 (W0.heap.size) 1; (try simp [go_sem] at g01); (try simp [go_sem] at p01); have g10 := hc1 (W0.heap.size + 1) 0; have p10 := hf1 (W0.heap.size + 1) 0; (try simp [go_sem] at g10); (try simp [go_sem] at p10); have g11 := hc1 (W0.heap.size + 1) 1; have p11 := hf1 (W0.heap.size + 1) 1; (try simp [go_sem] at g11); (try simp [go_sem] at p11); have g20 := hc1 (W0.heap.size + 1 + 1) 0; have p20 := hf1 (W0.heap.size + 1 + 1) 0; (try simp [go_sem] at g20); (try simp [go_sem] at p20); have g21 := hc1 (W0.heap.size + 1 + 1) 1; have p21 := hf1 (W0.heap.size + 1 + 1) 1; (try simp [go_sem] at g21); (try simp [go_sem] at p21);  clear hb1 hc1 hf1 hs1 ho1))
    all_goals
      go_wp2_with fail
      go_meet
      exact ⟨_, _, cb, co, k1, rfl, by (focus (repeat (first | with_reducible exact HO1.out | with_reducible refine blk_drew ?_ | with_reducible exact alloc_newN (by simp) | with_reducible refine alloc_old ?_ | with_reducible refine set_two (p := .slice none 0 0) (q := .slice none 0 0) ?_ | with_reducible refine set_two_other ?_ (by omega) | refine blk_below HBW.out (by simp <;> omega) ?_))), by (focus (repeat (first | with_reducible exact HO1.out | with_reducible refine blk_drew ?_ | with_reducible exact alloc_newN (by simp) | with_reducible refine alloc_old ?_ | with_reducible refine set_two (p := .slice none 0 0) (q := .slice none 0 0) ?_ | with_reducible refine set_two_other ?_ (by omega) | refine blk_below HBW.out (by simp <;> omega) ?_))), strs_blk HS1.out HO1.out (by (focus (repeat (first | with_reducible exact HO1.out | with_reducible refine blk_drew ?_ | with_reducible exact alloc_newN (by simp) | with_reducible refine alloc_old ?_ | with_reducible refine set_two (p := .slice none 0 0) (q := .slice none 0 0) ?_ | with_reducible refine set_two_other ?_ (by omega) | refine blk_below HBW.out (by simp <;> omega) ?_)))), by first | omega | (simp <;> omega), by omega, by omega, by omega, by omega, by omega, by omega, by (focus (repeat (first | exact Below.refl _ _ | exact Hid.out (by assumption) | refine Below.setCell ?_ (by first | omega | (simp <;> omega)) _ | refine Below.alloc ?_ (by first | omega | (simp <;> omega)) _ | refine Below.trans ?_ (drew_belowE _ _))))⟩
  case rest =>
    obtain ⟨mb, mq, cb, co, k, rfl, hM, hMq, hS, hcs, hne, hn1, hn2, hcw, hmb, hmq, hbel⟩ := hcut
    obtain ⟨oc, hoc⟩ := blk_some hcs
    have HBC : Hid (Below W0.heap.size W0 wc) := hbel
    have HMC := hidR hM
    have HMQ := hidR hMq
    have HSC := hidR hS
    have HOC := hidR hoc
    have hzc := hbel.size
    have HRC := hidR (blk_below hbel (by omega) HR0.out)
    have HWC : Hid (Below w.heap.size w wc) := HB0.out.trans (hbel.mono HB0.out.size)
    clear r0 r1 r4
    obtain ⟨r0, r1, _, _, r4⟩ := blk2 HRC.out
    obtain ⟨q0, _, q1⟩ := blk1 (HQ.out wc HWC.out)
    obtain ⟨m0, m1, m2, m3, m4⟩ := blk2 hM
    obtain ⟨n0, n1, n2⟩ := blk1 hMq
    clear hM hMq hS hoc hbel CC1
    go_wp2_with fail
    refine LoopN.wp 2 (LoopN.next ?_)
    go_wp2_with fail
    go_region_held3 (fun W => W.cell? ⟨mb, 1, none⟩ = some (.slice (some ⟨mq, 0, none⟩) 1 1) ∧ mb < W.heap.size)
      ((first | exact keep_set hne t1 t4 | (refine (fun W (hW : Below wc.heap.size wc W) => ⟨(hW.cell (p := ⟨mb, 1, none⟩) m4).trans m1, Nat.lt_of_lt_of_le m4 hW.size⟩ : ∀ W, Below wc.heap.size wc W → W.cell? ⟨mb, 1, none⟩ = some (.slice (some ⟨mq, 0, none⟩) 1 1) ∧ mb < W.heap.size) _ ?_; (focus (repeat (first | exact Below.refl _ _ | exact Hid.out (by assumption) | refine Below.setCell ?_ (by first | omega | (simp <;> omega)) _ | refine Below.alloc ?_ (by first | omega | (simp <;> omega)) _ | refine Below.trans ?_ (drew_belowE _ _)))); done)))
      ((go_at_call 121; refine Calls.mono (CC2.out _ _ ?_ ?_) ?_; (· exact HWC.out.trans (Below.mono (B := wc.heap.size) (by (focus (repeat (first | exact Below.refl _ _ | exact Hid.out (by assumption) | refine Below.setCell ?_ (by first | omega | (simp <;> omega)) _ | refine Below.alloc ?_ (by first | omega | (simp <;> omega)) _ | refine Below.trans ?_ (drew_belowE _ _))))) HWC.out.size)); (· exact ⟨_, by (focus (repeat (first | with_reducible refine blk_drew ?_ | with_reducible exact alloc_newN (by simp) | with_reducible refine alloc_old ?_)))⟩); rintro e w1 ⟨b1, o1, k1, rfl, hk1, hk2, hb0, ht1, hb1⟩; simp at hb0; obtain ⟨ob1, ho1⟩ := blk_some ht1.lt; have HO1 := hidR ho1; have HT1 := hidR ht1; have HB1 : Hid (Below wc.heap.size wc w1) := Below.trans (by (focus (repeat (first | exact Below.refl _ _ | exact Hid.out (by assumption) | refine Below.setCell ?_ (by first | omega | (simp <;> omega)) _ | refine Below.alloc ?_ (by first | omega | (simp <;> omega)) _ | refine Below.trans ?_ (drew_belowE _ _))))) (hb1.mono (by simp <;> omega)); have HQ1 := hidR (blk_below HB1.out n2 HMQ.out); have HM1 := hidR (blk_below HB1.out m4 HMC.out); have HC1 := hidR (blk_below HB1.out hcs HOC.out); have HA1 := hidR (blk_below HB1.out (by omega) (blk_below HBC.out (by omega) HA0.out)); obtain ⟨s0, s1, s2⟩ := blk1 HQ1.out; obtain ⟨t0, t1, _, _, t4⟩ := blk2 HM1.out; unfold maxLen at hk2; clear hb1 ht1 ho1))
    all_goals
      go_wp2_with fail
      obtain ⟨W2, hW2⟩ : ∃ W, W = w1.setCell ⟨mq, 0, none⟩ (.slice (some ⟨b1, o1, none⟩) 2 k1) := ⟨_, rfl⟩
      have HM2 : Hid (W2.heap[mb]? = some (.cells #[.slice (some ⟨cb, co, none⟩) 2 k, .slice (some ⟨mq, 0, none⟩) 1 1] 36)) := by rw [hW2]; exact set_other HM1.out hne
      have HQ2 : Hid (W2.heap[mq]? = some (.cells #[.slice (some ⟨b1, o1, none⟩) 2 k1] 33)) := by rw [hW2]; exact set_same HQ1.out 0 _
      have HA2 : Hid (W2.heap[w.heap.size + 1]? = some (.cells #[.slice none 0 0, .slice none 0 0] 36)) := by rw [hW2]; exact set_other HA1.out (by omega)
      have HO2 : Hid (W2.heap[b1]? = some ob1) := by rw [hW2]; exact set_other HO1.out (by omega)
      have HC2 : Hid (W2.heap[cb]? = some oc) := by rw [hW2]; exact set_other HC1.out hn2
      have HB2 : Hid (Below w.heap.size w W2) := by rw [hW2]; exact (HWC.out.trans (HB1.out.mono HWC.out.size)).setCell (by show w.heap.size ≤ mq; omega) _
      rw [← hW2]
      clear hW2 m0 m1 m2 m3 m4 n0 n1 n2 s0 s1 s2 t0 t1 t4 r0 r1 r4 q0 q1
      obtain ⟨m0, m1, _, _, m4⟩ := blk2 HM2.out
      obtain ⟨q0, q1, q2, q3, q4⟩ := blk2 HA2.out
      refine LoopN.next ?_
      go_wp2_with fail
      refine bodyPost_ret (v := .agg #[.slice (some ⟨cb, co, none⟩) 2 k, .slice (some ⟨mq, 0, none⟩) 1 1]) (by simp [results, Tryz.results84, go_sem, q0, q1]) rfl ⟨cb, co, k, mq, b1, o1, k1, rfl, ?_, ?_, ?_, hk1, hk2, by omega, by omega, by omega, ?_⟩
      · exact strs_blk HSC.out HOC.out (set_two_other HC2.out (by omega))
      · exact set_two_other HQ2.out (by omega)
      · exact two_blk HT1.out HO1.out (set_two_other HO2.out (by omega))
      · (focus (repeat (first | exact Below.refl _ _ | exact Hid.out (by assumption) | refine Below.setCell ?_ (by first | omega | (simp <;> omega)) _ | refine Below.alloc ?_ (by first | omega | (simp <;> omega)) _ | refine Below.trans ?_ (drew_belowE _ _))))
end Go.Proofs.YtmoeipdchapodaaGreatDoor
