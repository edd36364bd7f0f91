/-
  CONTRACT of the document's answer JoinedOf.
-/
import Derived.Test.YtcfjgoconmgpcaaDoorRlJoinI
set_option linter.unusedVariables false
namespace Go.Proofs.YtcfjgoconmgpcaaDoor
set_option maxRecDepth 100000
open Go.RowKit Go.WideShapes

theorem keptN_up (K : Nat → Bool) {i j : Nat} (h : i ≤ j) : keptN K i ≤ keptN K j := by
  obtain ⟨r, hr⟩ := keptL_pre (K := K) i (j - i)
  rw [show i + (j - i) = j by omega] at hr
  unfold keptN
  rw [hr]
  simp
theorem keptN_lt {K : Nat → Bool} {k m : Nat} (hk : k < m) (h : K k = true) : keptN K k < keptN K m := by
  have := keptN_up K (show k + 1 ≤ m by omega)
  rw [keptN_yes h] at this
  omega
set_option maxHeartbeats 12800000 in
theorem joined_is (c q c' q' : Value) (n m n' m' : Nat) (C C' : Nat → ByteArray) (R R' : Nat → Row) (x y : ByteArray) (w : World) (hc : StrsIs w c n C) (hq : RowsIs w q m R) (hf : StrsFine n C) (hg : RowsFine m R) (hc' : StrsIs w c' n' C') (hq' : RowsIs w q' m' R') (hf' : StrsFine n' C') (hg' : RowsFine m' R') (hT : Tabs w) :
    Calls Tryd.prog 15 #[.agg #[c, q], .agg #[c', q'], .string x, .string y] w fun e w' => ∃ c1 q1, e = .returned (.tuple #[.agg #[c1, q1], .int .i64 (joF C n R m C' n' R' m' x y)]) ∧ StrsIs w' c1 (okN (joF C n R m C' n' R' m' x y) (n + n')) (colsT C n C' n') ∧ RowsIs w' q1 (okN (joF C n R m C' n' R' m' x y) (joN R m R' m' (joP C n x) (joP C' n' y))) (joR R m R' m' (joP C n x) (joP C' n' y)) ∧ Below w.heap.size w w' := by
  have C1 : Hid (∀ o o' o'', Calls Tryd.prog 38 #[.agg #[c, q], .agg #[c', q']] (((w.alloc o).alloc o').alloc o'') fun e w' => e = .returned (.int .i64 (twoF (relF C n R m) (relF C' n' R' m'))) ∧ Below (w.heap.size + 3) (((w.alloc o).alloc o').alloc o'') w') := fun o o' o'' => by
    have h := twoFault_is c q c' q' n m n' m' C C' R R' _ (hc.below (below_three o o' o'')) (hq.below (below_three o o' o'')) hf hg (hc'.below (below_three o o' o'')) (hq'.below (below_three o o' o'')) hf' hg' (Utf8Tabs_below hT (below_three o o' o''))
    rwa [size_three] at h
  have HW : Hid (∀ {W : World} {o o' o'' : Obj}, Below (w.heap.size + 3) (((w.alloc o).alloc o').alloc o'') W → Below w.heap.size w W) := fun h => (below_three _ _ _).trans (h.mono (by omega))
  have hqs : ∃ a x, q = .slice a m x := by obtain ⟨a, x, e, _⟩ := hq; exact ⟨a, x, e⟩
  have hqs' : ∃ a x, q' = .slice a m' x := by obtain ⟨a, x, e, _⟩ := hq'; exact ⟨a, x, e⟩
  have CA : Hid (∀ W, Below w.heap.size w W → Calls Tryd.prog 33 #[.agg #[c, q], .string x] W fun e w' => e = .returned (.int .i64 (colI C n x)) ∧ Below W.heap.size W w') := fun W hW => colAt_is c q n m C R x W (hc.below hW) hqs
  have CA' : Hid (∀ W, Below w.heap.size w W → Calls Tryd.prog 33 #[.agg #[c', q'], .string y] W fun e w' => e = .returned (.int .i64 (colI C' n' y)) ∧ Below W.heap.size W w') := fun W hW => colAt_is c' q' n' m' C' R' y W (hc'.below hW) hqs'
  by_cases h0 : twoF (relF C n R m) (relF C' n' R' m') = 0
  · obtain ⟨ha, hb⟩ := twoF_zero h0
    have hm6 : m ≤ 1000000 := (relF_zero ha).2.1
    have hm6' : m' ≤ 1000000 := (relF_zero hb).2.1
    have hn8 : n ≤ 8 := colsF_le (relF_zero ha).1
    have hn8' : n' ≤ 8 := colsF_le (relF_zero hb).1
    have HLEN : Hid (∀ i, i < m → (R i).len = n) := row_len ha
    have HLEN' : Hid (∀ i, i < m' → (R' i).len = n') := row_len hb
    have hft := fine_two h0 hf hf'
    have CT : Hid (∀ W, Below w.heap.size w W → Calls Tryd.prog 40 #[.slice (some ⟨W.heap.size, 0, none⟩) 2 2] (W.alloc (.cells #[c, c'] 22)) fun e w' => ∃ a x, e = .returned (.slice a (n + n') x) ∧ StrsIs w' (.slice a (n + n') x) (n + n') (colsT C n C' n') ∧ Below W.heap.size W w') := fun W hW => by
      refine (texts_two W.heap.size 0 2 c c' ⟨n, C⟩ ⟨n', C'⟩ (W.alloc (.cells #[c, c'] 22)) (Nat.le_refl _) (by unfold maxLen; omega) (by simp) (by simp) (by simp) ((hc.below hW).below ((Below.refl _ _).alloc (Nat.le_refl _) _)) ((hc'.below hW).below ((Below.refl _ _).alloc (Nat.le_refl _) _)) hft.1).mono ?_
      rintro e w' ⟨v, rfl, h1, ⟨a, x, rfl⟩, h3⟩
      exact ⟨a, x, rfl, h1.is, ((Below.refl _ _).alloc (Nat.le_refl _) _).trans (h3.mono (by simp))⟩
    have CF : Hid (∀ W a x, StrsIs W (.slice a (n + n') x) (n + n') (colsT C n C' n') → Calls Tryd.prog 39 #[.slice a (n + n') x] W fun e w' => e = .returned (.int .i64 (colsF (colsT C n C' n') (n + n'))) ∧ Below W.heap.size W w') := fun W a x h => colsFault_is _ (n + n') (colsT C n C' n') W h hft.2
    have CO : Hid (∀ W a x v k U, StrsIs W (.slice a (n + n') x) (n + n') (colsT C n C' n') → RowsIs W v k U → madeF (colsT C n C' n') (n + n') k = 0 → Calls Tryd.prog 28 #[.slice a (n + n') x, v] W fun e w' => ∃ a1 k1, e = .returned (.tuple #[.agg #[.slice a1 (n + n') k1, v], .int .i64 0]) ∧ StrsFrom w' W.heap.size (.slice a1 (n + n') k1) (n + n') (colsT C n C' n') ∧ Below W.heap.size W w') := fun W a x v k U h1 h2 h3 => by
      have h := relOf_is (.slice a (n + n') x) v (n + n') k (colsT C n C' n') U W h1 h2 hft
      rw [h3] at h
      refine h.mono ?_
      rintro e w' ⟨c3, q3, rfl, h4, h5, h6⟩
      have h7 : q3 = v := h5
      subst h7
      have h8 := h4
      obtain ⟨a1, k1, rfl, _⟩ := h4
      exact ⟨a1, k1, rfl, h8, h6⟩
    obtain ⟨qa, qcap, rfl, q1, q2, _, q3⟩ := hq
    obtain ⟨qa', qcap', rfl, q1', q2', _, q3'⟩ := hq'
    have HQ : Hid (∀ W i, Below w.heap.size w W → i < m → ∃ b off u, qa = some ⟨b, off, none⟩ ∧ b < w.heap.size ∧ W.cell? ⟨b, off + i, none⟩ = some u ∧ ItsIs W u n (R i).at_) := fun W i hW hi => by
      obtain ⟨b, off, h1, h2, h3⟩ := q3 (by omega)
      obtain ⟨u, h4, h5⟩ := h3 i hi
      rw [HLEN.out i hi] at h5
      exact ⟨b, off, u, h1, h2, (hW.cell (p := ⟨b, off + i, none⟩) h2).trans h4, h5.below hW⟩
    have HQ' : Hid (∀ W i, Below w.heap.size w W → i < m' → ∃ b off u, qa' = some ⟨b, off, none⟩ ∧ b < w.heap.size ∧ W.cell? ⟨b, off + i, none⟩ = some u ∧ ItsIs W u n' (R' i).at_) := fun W i hW hi => by
      obtain ⟨b, off, h1, h2, h3⟩ := q3' (by omega)
      obtain ⟨u, h4, h5⟩ := h3 i hi
      rw [HLEN'.out i hi] at h5
      exact ⟨b, off, u, h1, h2, (hW.cell (p := ⟨b, off + i, none⟩) h2).trans h4, h5.below hW⟩
    have HUF : Hid (joF C n R m C' n' R' m' x y = if colI C n x = -1 ∨ colI C' n' y = -1 then 9 else madeF (colsT C n C' n') (n + n') (joN R m R' m' (joP C n x) (joP C' n' y))) := if_pos h0
    obtain ⟨ca, ccap, rfl, _⟩ := hc
    obtain ⟨ca', ccap', rfl, _⟩ := hc'
    rw [h0] at C1
    clear hf hg hf' hg' hT q2 q2' q3 q3' h0 hft hqs hqs' ha hb
    generalize joF C n R m C' n' R' m' x y = F at *
    rcases colI_cases C n x with hcol | ⟨p, hp, hcol⟩
    · have HFF : Hid (F = 9) := HUF.out.trans (if_pos (.inl hcol))
      rw [hcol] at CA
      clear hcol HUF
      generalize joN R m R' m' (joP C n x) (joP C' n' y) = N1 at *
      generalize joR R m R' m' (joP C n x) (joP C' n' y) = U at *
      generalize colI C' n' y = J at *
      go_enter Tryd.func15, Tryd.ntmps15
      go_wp2_with (first
        | (go_at_call 38; refine (C1.out _ _ _).mono ?_; rintro e w1 ⟨rfl, hb1⟩; have HB1 : Hid (Below (w.heap.size + 3) (((w.alloc (.cells #[.slice ca n ccap, .slice qa m qcap] 25)).alloc (.cells #[.slice ca' n' ccap', .slice qa' m' qcap'] 25)).alloc (.cells #[.slice none 0 0, .slice none 0 0] 25)) w1) := hb1; obtain ⟨x0, x1, x2, x3, x4, x5, x6, x7, x8⟩ := box3 hb1; clear hb1)
        | (go_at_call_has 33 (Value.slice ca n ccap); refine (CA.out _ (HW.out HB1.out)).mono ?_; rintro e w2 ⟨rfl, hb2⟩; have HB2 : Hid (Below (w.heap.size + 3) (((w.alloc (.cells #[.slice ca n ccap, .slice qa m qcap] 25)).alloc (.cells #[.slice ca' n' ccap', .slice qa' m' qcap'] 25)).alloc (.cells #[.slice none 0 0, .slice none 0 0] 25)) w2) := HB1.out.trans (hb2.mono (by omega)); clear x0 x1 x2 x3 x4 x5 x6 x7 x8; obtain ⟨x0, x1, x2, x3, x4, x5, x6, x7, x8⟩ := box3 HB2.out; clear hb2)
        | (go_at_call_has 33 (Value.slice ca' n' ccap'); refine (CA'.out _ (HW.out HB2.out)).mono ?_; rintro e w3 ⟨rfl, hb3⟩; have HB3 : Hid (Below (w.heap.size + 3) (((w.alloc (.cells #[.slice ca n ccap, .slice qa m qcap] 25)).alloc (.cells #[.slice ca' n' ccap', .slice qa' m' qcap'] 25)).alloc (.cells #[.slice none 0 0, .slice none 0 0] 25)) w3) := HB2.out.trans (hb3.mono (by omega)); clear x0 x1 x2 x3 x4 x5 x6 x7 x8; obtain ⟨x0, x1, x2, x3, x4, x5, x6, x7, x8⟩ := box3 HB3.out; clear hb3))
      refine bodyPost_ret (v := .tuple #[.agg #[.slice none 0 0, .slice none 0 0], .int .i64 9]) (by simp [results, Tryd.results15, go_sem, x4, x5]) rfl ⟨_, _, by rw [HFF.out], ?_, ?_, (((HW.out HB3.out)).setCell (by simp <;> omega) _).setCell (by simp <;> omega) _⟩
      · rw [HFF.out]; exact nil_strs _ _
      · rw [HFF.out]; exact nil_rows _ _
    · rcases colI_cases C' n' y with hcol' | ⟨p', hp', hcol'⟩
      · have HFF : Hid (F = 9) := HUF.out.trans (if_pos (.inr hcol'))
        rw [hcol] at CA
        rw [hcol'] at CA'
        have hp0 : ¬ ((p : Int) < 0) := by omega
        clear hcol hcol' HUF
        generalize joN R m R' m' (joP C n x) (joP C' n' y) = N1 at *
        generalize joR R m R' m' (joP C n x) (joP C' n' y) = U at *
        go_enter Tryd.func15, Tryd.ntmps15
        go_wp2_with (first
          | (go_at_call 38; refine (C1.out _ _ _).mono ?_; rintro e w1 ⟨rfl, hb1⟩; have HB1 : Hid (Below (w.heap.size + 3) (((w.alloc (.cells #[.slice ca n ccap, .slice qa m qcap] 25)).alloc (.cells #[.slice ca' n' ccap', .slice qa' m' qcap'] 25)).alloc (.cells #[.slice none 0 0, .slice none 0 0] 25)) w1) := hb1; obtain ⟨x0, x1, x2, x3, x4, x5, x6, x7, x8⟩ := box3 hb1; clear hb1)
          | (go_at_call_has 33 (Value.slice ca n ccap); refine (CA.out _ (HW.out HB1.out)).mono ?_; rintro e w2 ⟨rfl, hb2⟩; have HB2 : Hid (Below (w.heap.size + 3) (((w.alloc (.cells #[.slice ca n ccap, .slice qa m qcap] 25)).alloc (.cells #[.slice ca' n' ccap', .slice qa' m' qcap'] 25)).alloc (.cells #[.slice none 0 0, .slice none 0 0] 25)) w2) := HB1.out.trans (hb2.mono (by omega)); clear x0 x1 x2 x3 x4 x5 x6 x7 x8; obtain ⟨x0, x1, x2, x3, x4, x5, x6, x7, x8⟩ := box3 HB2.out; clear hb2)
          | (go_at_call_has 33 (Value.slice ca' n' ccap'); refine (CA'.out _ (HW.out HB2.out)).mono ?_; rintro e w3 ⟨rfl, hb3⟩; have HB3 : Hid (Below (w.heap.size + 3) (((w.alloc (.cells #[.slice ca n ccap, .slice qa m qcap] 25)).alloc (.cells #[.slice ca' n' ccap', .slice qa' m' qcap'] 25)).alloc (.cells #[.slice none 0 0, .slice none 0 0] 25)) w3) := HB2.out.trans (hb3.mono (by omega)); clear x0 x1 x2 x3 x4 x5 x6 x7 x8; obtain ⟨x0, x1, x2, x3, x4, x5, x6, x7, x8⟩ := box3 HB3.out; clear hb3))
        refine bodyPost_ret (v := .tuple #[.agg #[.slice none 0 0, .slice none 0 0], .int .i64 9]) (by simp [results, Tryd.results15, go_sem, x4, x5]) rfl ⟨_, _, by rw [HFF.out], ?_, ?_, (((HW.out HB3.out)).setCell (by simp <;> omega) _).setCell (by simp <;> omega) _⟩
        · rw [HFF.out]; exact nil_strs _ _
        · rw [HFF.out]; exact nil_rows _ _
      · have HFM : Hid (F = madeF (colsT C n C' n') (n + n') (joN R m R' m' (joP C n x) (joP C' n' y))) := HUF.out.trans (if_neg (fun h => by rcases h with h | h <;> omega))
        have e1 : joP C n x = p := by unfold joP; rw [hcol]; simp
        have e2 : joP C' n' y = p' := by unfold joP; rw [hcol']; simp
        rw [e1, e2] at HFM ⊢
        rw [hcol] at CA
        rw [hcol'] at CA'
        have hp0 : ¬ ((p : Int) < 0) := by omega
        have hp0' : ¬ ((p' : Int) < 0) := by omega
        have hpi : (p : Int) < (n : Int) := by omega
        have hpi' : (p' : Int) < (n' : Int) := by omega
        clear hcol hcol' HUF e1 e2
        by_cases hcf : colsF (colsT C n C' n') (n + n') = 0
        · rw [hcf] at CF
          have HM1 : Hid (1000000 < joN R m R' m' p p' → F = 1) := fun h => by rw [HFM.out, madeF_rows hcf, if_pos h]
          have HM0 : Hid (joN R m R' m' p p' ≤ 1000000 → F = 0 ∧ madeF (colsT C n C' n') (n + n') (joN R m R' m' p p') = 0) := fun h => by
            have e : madeF (colsT C n C' n') (n + n') (joN R m R' m' p p') = 0 := by rw [madeF_rows hcf, if_neg (by omega)]
            exact ⟨HFM.out.trans e, e⟩
          clear hcf HFM
          go_enter Tryd.func15, Tryd.ntmps15
          go_wp2_with (first
            | (go_at_call 38; refine (C1.out _ _ _).mono ?_; rintro e w1 ⟨rfl, hb1⟩; have HB1 : Hid (Below (w.heap.size + 3) (((w.alloc (.cells #[.slice ca n ccap, .slice qa m qcap] 25)).alloc (.cells #[.slice ca' n' ccap', .slice qa' m' qcap'] 25)).alloc (.cells #[.slice none 0 0, .slice none 0 0] 25)) w1) := hb1; obtain ⟨x0, x1, x2, x3, x4, x5, x6, x7, x8⟩ := box3 hb1; clear hb1)
            | (go_at_call_has 33 (Value.slice ca n ccap); refine (CA.out _ (HW.out HB1.out)).mono ?_; rintro e w2 ⟨rfl, hb2⟩; have HB2 : Hid (Below (w.heap.size + 3) (((w.alloc (.cells #[.slice ca n ccap, .slice qa m qcap] 25)).alloc (.cells #[.slice ca' n' ccap', .slice qa' m' qcap'] 25)).alloc (.cells #[.slice none 0 0, .slice none 0 0] 25)) w2) := HB1.out.trans (hb2.mono (by omega)); clear x0 x1 x2 x3 x4 x5 x6 x7 x8; obtain ⟨x0, x1, x2, x3, x4, x5, x6, x7, x8⟩ := box3 HB2.out; clear hb2)
            | (go_at_call_has 33 (Value.slice ca' n' ccap'); refine (CA'.out _ (HW.out HB2.out)).mono ?_; rintro e w3 ⟨rfl, hb3⟩; have HB3 : Hid (Below (w.heap.size + 3) (((w.alloc (.cells #[.slice ca n ccap, .slice qa m qcap] 25)).alloc (.cells #[.slice ca' n' ccap', .slice qa' m' qcap'] 25)).alloc (.cells #[.slice none 0 0, .slice none 0 0] 25)) w3) := HB2.out.trans (hb3.mono (by omega)); clear x0 x1 x2 x3 x4 x5 x6 x7 x8; obtain ⟨x0, x1, x2, x3, x4, x5, x6, x7, x8⟩ := box3 HB3.out; clear hb3)
            | (go_at_call 40; refine (CT.out _ (HW.out HB3.out)).mono ?_; rintro e w4 ⟨da, dk, rfl, hs4, hb4⟩; have HS4 : Hid (StrsIs w4 (.slice da (n + n') dk) (n + n') (colsT C n C' n')) := hs4; have HB4 : Hid (Below (w.heap.size + 3) (((w.alloc (.cells #[.slice ca n ccap, .slice qa m qcap] 25)).alloc (.cells #[.slice ca' n' ccap', .slice qa' m' qcap'] 25)).alloc (.cells #[.slice none 0 0, .slice none 0 0] 25)) w4) := HB3.out.trans (hb4.mono (by omega)); clear x0 x1 x2 x3 x4 x5 x6 x7 x8; obtain ⟨x0, x1, x2, x3, x4, x5, x6, x7, x8⟩ := box3 HB4.out; clear hs4 hb4)
            | (go_at_call 39; refine (CF.out _ _ _ HS4.out).mono ?_; rintro e w5 ⟨rfl, hb5⟩; have HB5 : Hid (Below (w.heap.size + 3) (((w.alloc (.cells #[.slice ca n ccap, .slice qa m qcap] 25)).alloc (.cells #[.slice ca' n' ccap', .slice qa' m' qcap'] 25)).alloc (.cells #[.slice none 0 0, .slice none 0 0] 25)) w5) := HB4.out.trans (hb5.mono (by omega)); clear x0 x1 x2 x3 x4 x5 x6 x7 x8; obtain ⟨x0, x1, x2, x3, x4, x5, x6, x7, x8⟩ := box3 HB5.out; clear hb5))
          have hx8 : w.heap.size + 1 + 1 < w5.heap.size := x8
          go_loopw [13, 14] (fun v i wr => ∃ j : Nat, j ≤ m ∧ i = .int .i64 j ∧ RowsOwn wr w5.heap.size v (pairN (jpn R R' m' p p') j) (joR R m R' m' p p') ∧ pairN (jpn R R' m' p p') j ≤ 1000000 ∧ Below w5.heap.size w5 wr) (fun _ i _ => m - (intOf i).toNat)
          case atStart => exact ⟨0, Nat.zero_le _, rfl, RowsOwn.nil _ _ _, Nat.zero_le _, Below.refl _ _⟩
          case round =>
            obtain ⟨j, hj, rfl, hrow, hcnt, hbr⟩ := hrel
            have HB6 : Hid (Below (w.heap.size + 3) (((w.alloc (.cells #[.slice ca n ccap, .slice qa m qcap] 25)).alloc (.cells #[.slice ca' n' ccap', .slice qa' m' qcap'] 25)).alloc (.cells #[.slice none 0 0, .slice none 0 0] 25)) wr) := HB5.out.trans (hbr.mono (by omega))
            have HBR : Hid (Below w5.heap.size w5 wr) := hbr
            have hzr : w5.heap.size ≤ wr.heap.size := hbr.size
            obtain ⟨ra, rc, rfl⟩ := hrow.shape
            have HROW : Hid (RowsOwn wr w5.heap.size (.slice ra (pairN (jpn R R' m' p p') j) rc) (pairN (jpn R R' m' p p') j) (joR R m R' m' p p')) := hrow
            clear hrow hbr x0 x1 x2 x3 x4 x5 x6 x7 x8
            obtain ⟨x0, x1, x2, x3, x4, x5, x6, x7, x8⟩ := box3 HB6.out
            by_cases hjl : j < m
            · have hji : (j : Int) < (m : Int) := by omega
              go_wp2
              go_loopw [13, 15] (fun v i wr => ∃ k : Nat, k ≤ m' ∧ i = .int .i64 k ∧ RowsOwn wr w5.heap.size v (pairN (jpn R R' m' p p') j + keptN (matchK (jI R' p') (jI R p j)) k) (joR R m R' m' p p') ∧ (pairN (jpn R R' m' p p') j + keptN (matchK (jI R' p') (jI R p j)) k) ≤ 1000000 ∧ Below w5.heap.size w5 wr) (fun _ i _ => m' - (intOf i).toNat)
              case atStart => exact ⟨0, Nat.zero_le _, rfl, HROW.out, hcnt, HBR.out⟩
              case round =>
                clear HROW HBR HB6 hzr hcnt x0 x1 x2 x3 x4 x5 x6 x7 x8
                obtain ⟨k, hk, rfl, hrow, hcnt, hbr⟩ := hrel
                have HB6 : Hid (Below (w.heap.size + 3) (((w.alloc (.cells #[.slice ca n ccap, .slice qa m qcap] 25)).alloc (.cells #[.slice ca' n' ccap', .slice qa' m' qcap'] 25)).alloc (.cells #[.slice none 0 0, .slice none 0 0] 25)) wr) := HB5.out.trans (hbr.mono (by omega))
                have HBR : Hid (Below w5.heap.size w5 wr) := hbr
                have hzr : w5.heap.size ≤ wr.heap.size := hbr.size
                obtain ⟨ra, rc, rfl⟩ := hrow.shape
                have HROW : Hid (RowsOwn wr w5.heap.size (.slice ra (pairN (jpn R R' m' p p') j + keptN (matchK (jI R' p') (jI R p j)) k) rc) (pairN (jpn R R' m' p p') j + keptN (matchK (jI R' p') (jI R p j)) k) (joR R m R' m' p p')) := hrow
                clear hrow hbr
                obtain ⟨x0, x1, x2, x3, x4, x5, x6, x7, x8⟩ := box3 HB6.out
                by_cases hkl : k < m'
                · obtain ⟨b, off, u, rfl, hb0, e1, hu⟩ := HQ.out wr j (HW.out HB6.out) hjl
                  obtain ⟨b', off', u', rfl, hb0', e1', hu'⟩ := HQ'.out wr k (HW.out HB6.out) hkl
                  have hki : (k : Int) < (m' : Int) := by omega
                  have HU : Hid (ItsIs wr u n (R j).at_) := hu
                  have HU' : Hid (ItsIs wr u' n' (R' k).at_) := hu'
                  obtain ⟨ua, ucap, rfl, k1, k2, _, k3⟩ := hu
                  obtain ⟨ua', ucap', rfl, k1', k2', _, k3'⟩ := hu'
                  obtain ⟨ub, uo, rfl, hub, k4⟩ := k3 (by omega)
                  obtain ⟨ub', uo', rfl, hub', k4'⟩ := k3' (by omega)
                  obtain ⟨f0, f1, f2⟩ := k4 p hp
                  obtain ⟨g0, g1, g2⟩ := k4' p' hp'
                  have hbz : b < wr.heap.size := by omega
                  have hbz' : b' < wr.heap.size := by omega
                  have hnn : n ≤ 9223372036854775807 := by omega
                  have hnn' : n' ≤ 9223372036854775807 := by omega
                  clear k3 k3' k4 k4' k1 k2 k1' k2'
                  cases hs : matchK (jI R' p') (jI R p j) k
                  · have HNO : Hid (keptN (matchK (jI R' p') (jI R p j)) (k + 1) = keptN (matchK (jI R' p') (jI R p j)) k) := keptN_no hs
                    have hx := itB_no (show itB ((R' k).at_ p') ((R j).at_ p) = false from hs)
                    generalize ((R j).at_ p).kind = xk at *
                    generalize ((R j).at_ p).n = xn at *
                    generalize ((R j).at_ p).s = xs at *
                    generalize ((R' k).at_ p').kind = yk at *
                    generalize ((R' k).at_ p').n = yn at *
                    generalize ((R' k).at_ p').s = ys at *
                    clear hs
                    rcases hx with h1 | ⟨h1, h2⟩ | ⟨h1, h2, h3⟩
                    · have h1' : (xk == yk) = false := by simpa using fun h : xk = yk => h1 h.symm
                      clear h1
                      go_wp2
                      go_quiet (fail)
                      go_wp2
                      go_roundw
                      case rel => exact ⟨k + 1, by omega, by go_num, by rw [HNO.out]; exact HROW.out.heap rfl, by rw [HNO.out]; exact hcnt, below_drawn HBR.out _⟩
                      case measure => simp [intOf]; omega
                    · subst h1
                      have h2' : (xn == yn) = false := by simpa using fun h : xn = yn => h2 h.symm
                      clear h2
                      go_wp2
                      go_quiet (fail)
                      go_wp2
                      go_roundw
                      case rel => exact ⟨k + 1, by omega, by go_num, by rw [HNO.out]; exact HROW.out.heap rfl, by rw [HNO.out]; exact hcnt, below_drawn HBR.out _⟩
                      case measure => simp [intOf]; omega
                    · subst h1
                      subst h2
                      have h3' : (xs.toList == ys.toList) = false := by
                        cases e : (xs.toList == ys.toList)
                        · rfl
                        · have : ys.toList = xs.toList := (beq_iff_eq.1 e).symm
                          rw [this] at h3
                          simp at h3
                      clear h3
                      go_wp2
                      go_quiet (fail)
                      go_wp2
                      go_roundw
                      case rel => exact ⟨k + 1, by omega, by go_num, by rw [HNO.out]; exact HROW.out.heap rfl, by rw [HNO.out]; exact hcnt, below_drawn HBR.out _⟩
                      case measure => simp [intOf]; omega
                  · have hz : (R' k).at_ p' = (R j).at_ p := itB_iff.1 (show itB ((R' k).at_ p') ((R j).at_ p) = true from hs)
                    rw [hz] at g0 g1 g2
                    have hkk := keptN_lt hkl hs
                    have HAT : Hid (joR R m R' m' p p' (pairN (jpn R R' m' p p') j + keptN (matchK (jI R' p') (jI R p j)) k) = appI (R j) (R' k)) := by
                      have h := pairR_at (pn := jpn R R' m' p p') (PR := jPR R R' m' p p') (R := R) hjl hkk
                      have h2 : jPR R R' m' p p' j (keptN (matchK (jI R' p') (jI R p j)) k) = R' k := by unfold jPR; rw [keptAt_at hkl hs]
                      rw [h2] at h
                      exact h
                    have HG : Hid (pairN (jpn R R' m' p p') j + keptN (matchK (jI R' p') (jI R p j)) (k + 1) = pairN (jpn R R' m' p p') j + keptN (matchK (jI R' p') (jI R p j)) k + 1) := by
                      have h := keptN_yes hs
                      exact congrArg (pairN (jpn R R' m' p p') j + ·) h
                    have HLT : Hid (pairN (jpn R R' m' p p') j + keptN (matchK (jI R' p') (jI R p j)) k < joN R m R' m' p p') := pairN_lt (jpn R R' m' p p') hjl hkk
                    have hl32 : (appI (R j) (R' k)).len * 32 ≤ 140737488351232 := by
                      show ((R j).len + (R' k).len) * 32 ≤ _
                      rw [HLEN.out j hjl, HLEN'.out k hkl]
                      omega
                    have HI : Hid (ItsIs wr (.slice (some ⟨ub, uo, none⟩) n ucap) (R j).len (R j).at_) := by rw [HLEN.out j hjl]; exact HU.out
                    have HI' : Hid (ItsIs wr (.slice (some ⟨ub', uo', none⟩) n' ucap') (R' k).len (R' k).at_) := by rw [HLEN'.out k hkl]; exact HU'.out
                    have hA0 : Hid (wr.heap.size < (wr.alloc (.cells #[.slice (some ⟨ub, uo, none⟩) n ucap, .slice (some ⟨ub', uo', none⟩) n' ucap'] 37)).heap.size) := (by simp : wr.heap.size < (wr.alloc (.cells #[.slice (some ⟨ub, uo, none⟩) n ucap, .slice (some ⟨ub', uo', none⟩) n' ucap'] 37)).heap.size)
                    have hA1 : Hid ((wr.alloc (.cells #[.slice (some ⟨ub, uo, none⟩) n ucap, .slice (some ⟨ub', uo', none⟩) n' ucap'] 37)).cell? ⟨wr.heap.size, 0, none⟩ = some (.slice (some ⟨ub, uo, none⟩) n ucap)) := (by simp : (wr.alloc (.cells #[.slice (some ⟨ub, uo, none⟩) n ucap, .slice (some ⟨ub', uo', none⟩) n' ucap'] 37)).cell? ⟨wr.heap.size, 0, none⟩ = some (.slice (some ⟨ub, uo, none⟩) n ucap))
                    have hA2 : Hid ((wr.alloc (.cells #[.slice (some ⟨ub, uo, none⟩) n ucap, .slice (some ⟨ub', uo', none⟩) n' ucap'] 37)).cell? ⟨wr.heap.size, 0 + 1, none⟩ = some (.slice (some ⟨ub', uo', none⟩) n' ucap')) := (by simp : (wr.alloc (.cells #[.slice (some ⟨ub, uo, none⟩) n ucap, .slice (some ⟨ub', uo', none⟩) n' ucap'] 37)).cell? ⟨wr.heap.size, 0 + 1, none⟩ = some (.slice (some ⟨ub', uo', none⟩) n' ucap'))
                    clear hs hz hkk HU HU'
                    generalize pairN (jpn R R' m' p p') j + keptN (matchK (jI R' p') (jI R p j)) k = g at *
                    generalize ((R j).at_ p).kind = xk at *
                    generalize ((R j).at_ p).n = xn at *
                    generalize ((R j).at_ p).s = xs at *
                    go_wp2
                    go_quiet (fail)
                    go_upto_region 18 with fail
                    go_region_law (first
                      | (refine step_call rfl 34 #[.slice (some ⟨wr.heap.size, 0, none⟩) 2 2] (by simp [go_sem]) (fun v w' => ItsApart w' _ none v (appI (R j) (R' k)).len (appI (R j) (R' k)).at_ ∧ (∃ a' c', v = .slice a' (appI (R j) (R' k)).len c') ∧ Below _ _ w') (items_two wr.heap.size 0 2 (.slice (some ⟨ub, uo, none⟩) n ucap) (.slice (some ⟨ub', uo', none⟩) n' ucap') (R j) (R' k) _ (Nat.le_refl _) (by unfold maxLen; omega) (by exact hA0.out) (by exact hA1.out) (by exact hA2.out) (by exact (HI.out.alloc _).heap rfl) (by exact (HI'.out.alloc _).heap rfl) hl32) ?_; rintro v7 w7 ⟨hi7, ⟨va7, vc7, rfl⟩, hb7⟩; have HI7 : Hid (ItsApart w7 w5.heap.size (Value.slice ra g rc).ownBlock (.slice va7 (appI (R j) (R' k)).len vc7) (appI (R j) (R' k)).len (appI (R j) (R' k)).at_) := hi7.weaken (by simp; omega) (fun z hz => by have := (HROW.out.lt z hz).2; simp; omega); have HR7 : Hid (RowsOwn w7 w5.heap.size (.slice ra g rc) g (joR R m R' m' p p')) := rows_behind hb7 rfl (HROW.out.alloc _); have HB7 : Hid (Below w5.heap.size wr w7) := ((Below.refl _ _).alloc hzr (.cells #[.slice (some ⟨ub, uo, none⟩) n ucap, .slice (some ⟨ub', uo', none⟩) n' ucap'] 37)).trans (below_pre (hb7.mono (by simp; omega)) rfl rfl rfl rfl); have hz7 : w5.heap.size ≤ w7.heap.size := (by have := HB7.out.size; omega); clear hi7 hb7))
                    all_goals
                      obtain ⟨g1, hg1⟩ : ∃ g1, g1 = g + 1 := ⟨_, rfl⟩
                      have HG1 : Hid (g1 = g + 1) := hg1
                      clear hg1
                      by_cases hgt : 1000000 < g1
                      · have hgi : (1000000 : Int) < (g1 : Int) := by omega
                        have HFF : Hid (F = 1) := HM1.out (by have := HLT.out; have := HG1.out; omega)
                        clear hgt
                        go_wp2_with (first | (at_builtin; refine wpList_push_row rfl (.tmp 92) (.tmp 94) rfl w5.heap.size g (.slice ra g rc) (joR R m R' m' p p') rfl (HR7.out.alloc _) (by simp; omega) ⟨w7.heap.size, 0, none⟩ 1 (.slice va7 (appI (R j) (R' k)).len vc7) rfl (by simp) (by rw [HAT.out]; exact HI7.out.alloc _) (by omega) ?_; intro v8 w8 hr8 hsh8 hg8; rw [← HG1.out] at hr8 hsh8; obtain ⟨va8, vc8, rfl⟩ := hsh8; have HB8 : Hid (Below w5.heap.size wr w8) := (HB7.out.alloc hz7 _).grown hg8 (by simp; omega) (fun z hz => (HROW.out.lt z hz).1); have HB9 : Hid (Below (w.heap.size + 3) (((w.alloc (.cells #[.slice ca n ccap, .slice (some ⟨b, off, none⟩) m qcap] 25)).alloc (.cells #[.slice ca' n' ccap', .slice (some ⟨b', off', none⟩) m' qcap'] 25)).alloc (.cells #[.slice none 0 0, .slice none 0 0] 25)) w8) := HB6.out.trans (HB8.out.mono (by omega)); clear x0 x1 x2 x3 x4 x5 x6 x7 x8; obtain ⟨x0, x1, x2, x3, x4, x5, x6, x7, x8⟩ := box3 HB9.out; clear hr8 hg8))
                        refine bodyPost_ret (v := .tuple #[.agg #[.slice none 0 0, .slice none 0 0], .int .i64 1]) (by simp [results, Tryd.results15, go_sem, x4, x5]) rfl ⟨_, _, by rw [HFF.out], ?_, ?_, (((HW.out HB9.out)).setCell (by simp <;> omega) _).setCell (by simp <;> omega) _⟩
                        · rw [HFF.out]; exact nil_strs _ _
                        · rw [HFF.out]; exact nil_rows _ _
                      · have hgi : ¬ ((1000000 : Int) < (g1 : Int)) := by omega
                        go_wp2_with (first | (at_builtin; refine wpList_push_row rfl (.tmp 92) (.tmp 94) rfl w5.heap.size g (.slice ra g rc) (joR R m R' m' p p') rfl (HR7.out.alloc _) (by simp; omega) ⟨w7.heap.size, 0, none⟩ 1 (.slice va7 (appI (R j) (R' k)).len vc7) rfl (by simp) (by rw [HAT.out]; exact HI7.out.alloc _) (by omega) ?_; intro v8 w8 hr8 hsh8 hg8; rw [← HG1.out] at hr8 hsh8; obtain ⟨va8, vc8, rfl⟩ := hsh8; have HR8 : Hid (RowsOwn w8 w5.heap.size (.slice va8 g1 vc8) g1 (joR R m R' m' p p')) := hr8; have HB8 : Hid (Below w5.heap.size wr w8) := (HB7.out.alloc hz7 _).grown hg8 (by simp; omega) (fun z hz => (HROW.out.lt z hz).1); clear hr8 hg8))
                        go_roundw
                        case rel => exact ⟨k + 1, by omega, by go_num, by rw [HG.out, ← HG1.out]; exact HR8.out, by rw [HG.out, ← HG1.out]; omega, HBR.out.trans HB8.out⟩
                        case measure => simp [intOf]; omega
                · have e : k = m' := by omega
                  subst e
                  go_wp2
                  go_roundw
                  case rel => exact ⟨j + 1, by omega, by go_num, HROW.out, hcnt, HBR.out⟩
                  case measure => simp [intOf]; omega
            · have e : j = m := by omega
              subst e
              obtain ⟨HF0, HMM⟩ := HM0.out hcnt
              have HM : Hid (madeF (colsT C n C' n') (n + n') (pairN (jpn R R' m' p p') j) = 0) := HMM
              have HF : Hid (F = 0) := HF0
              clear HF0 HMM
              go_wp2_with (first
                | (go_at_call 40; refine (CT.out _ (HW.out HB6.out)).mono ?_; rintro e w7 ⟨ea, ek, rfl, hs7, hb7⟩; have HS7 : Hid (StrsIs w7 (.slice ea (n + n') ek) (n + n') (colsT C n C' n')) := hs7; have HR7 : Hid (RowsOwn w7 w5.heap.size (.slice ra (pairN (jpn R R' m' p p') j) rc) (pairN (jpn R R' m' p p') j) (joR R j R' m' p p')) := HROW.out.below hb7; have HB7 : Hid (Below (w.heap.size + 3) (((w.alloc (.cells #[.slice ca n ccap, .slice qa j qcap] 25)).alloc (.cells #[.slice ca' n' ccap', .slice qa' m' qcap'] 25)).alloc (.cells #[.slice none 0 0, .slice none 0 0] 25)) w7) := HB6.out.trans (hb7.mono (by omega)); clear x0 x1 x2 x3 x4 x5 x6 x7 x8; obtain ⟨x0, x1, x2, x3, x4, x5, x6, x7, x8⟩ := box3 HB7.out; clear hs7 hb7)
                | (go_at_call 28; refine (CO.out _ _ _ _ _ _ HS7.out HR7.out.is HM.out).mono ?_; rintro e w8 ⟨fa, fk, rfl, hs8, hb8⟩; have HS8 : Hid (StrsFrom w8 (w.heap.size + 3) (.slice fa (n + n') fk) (n + n') (colsT C n C' n')) := hs8.weaken (by omega); have HR8 : Hid (RowsOwn w8 w5.heap.size (.slice ra (pairN (jpn R R' m' p p') j) rc) (pairN (jpn R R' m' p p') j) (joR R j R' m' p p')) := HR7.out.below hb8; have HB8 : Hid (Below (w.heap.size + 3) (((w.alloc (.cells #[.slice ca n ccap, .slice qa j qcap] 25)).alloc (.cells #[.slice ca' n' ccap', .slice qa' m' qcap'] 25)).alloc (.cells #[.slice none 0 0, .slice none 0 0] 25)) w8) := HB7.out.trans (hb8.mono (by omega)); clear x0 x1 x2 x3 x4 x5 x6 x7 x8; obtain ⟨x0, x1, x2, x3, x4, x5, x6, x7, x8⟩ := box3 HB8.out; clear hs8 hb8))
              refine bodyPost_ret (v := .tuple #[.agg #[.slice fa (n + n') fk, .slice ra (pairN (jpn R R' m' p p') j) rc], .int .i64 0]) (by simp [results, Tryd.results15, go_sem, x4, x5]) rfl ⟨_, _, by rw [HF.out], ?_, ?_, (((HW.out HB8.out)).setCell (by simp <;> omega) _).setCell (by simp <;> omega) _⟩
              · rw [HF.out]; exact ((HS8.out.setCell (by simp) _).setCell (by simp) _).is
              · rw [HF.out]; exact ((HR8.out.setCell (by simp; omega) _).setCell (by simp; omega) _).is
        · have HFF : Hid (F = colsF (colsT C n C' n') (n + n')) := HFM.out.trans (madeF_cols hcf)
          have HNZ : Hid (¬ colsF (colsT C n C' n') (n + n') = 0) := hcf
          have h1 : (colsF (colsT C n C' n') (n + n') != 0) = true := by simpa using hcf
          have h2 : (colsF (colsT C n C' n') (n + n') == 0) = false := by simpa using hcf
          clear hcf HFM
          generalize colsF (colsT C n C' n') (n + n') = G at *
          go_enter Tryd.func15, Tryd.ntmps15
          go_wp2_with (first
            | (go_at_call 38; refine (C1.out _ _ _).mono ?_; rintro e w1 ⟨rfl, hb1⟩; have HB1 : Hid (Below (w.heap.size + 3) (((w.alloc (.cells #[.slice ca n ccap, .slice qa m qcap] 25)).alloc (.cells #[.slice ca' n' ccap', .slice qa' m' qcap'] 25)).alloc (.cells #[.slice none 0 0, .slice none 0 0] 25)) w1) := hb1; obtain ⟨x0, x1, x2, x3, x4, x5, x6, x7, x8⟩ := box3 hb1; clear hb1)
            | (go_at_call_has 33 (Value.slice ca n ccap); refine (CA.out _ (HW.out HB1.out)).mono ?_; rintro e w2 ⟨rfl, hb2⟩; have HB2 : Hid (Below (w.heap.size + 3) (((w.alloc (.cells #[.slice ca n ccap, .slice qa m qcap] 25)).alloc (.cells #[.slice ca' n' ccap', .slice qa' m' qcap'] 25)).alloc (.cells #[.slice none 0 0, .slice none 0 0] 25)) w2) := HB1.out.trans (hb2.mono (by omega)); clear x0 x1 x2 x3 x4 x5 x6 x7 x8; obtain ⟨x0, x1, x2, x3, x4, x5, x6, x7, x8⟩ := box3 HB2.out; clear hb2)
            | (go_at_call_has 33 (Value.slice ca' n' ccap'); refine (CA'.out _ (HW.out HB2.out)).mono ?_; rintro e w3 ⟨rfl, hb3⟩; have HB3 : Hid (Below (w.heap.size + 3) (((w.alloc (.cells #[.slice ca n ccap, .slice qa m qcap] 25)).alloc (.cells #[.slice ca' n' ccap', .slice qa' m' qcap'] 25)).alloc (.cells #[.slice none 0 0, .slice none 0 0] 25)) w3) := HB2.out.trans (hb3.mono (by omega)); clear x0 x1 x2 x3 x4 x5 x6 x7 x8; obtain ⟨x0, x1, x2, x3, x4, x5, x6, x7, x8⟩ := box3 HB3.out; clear hb3)
            | (go_at_call 40; refine (CT.out _ (HW.out HB3.out)).mono ?_; rintro e w4 ⟨da, dk, rfl, hs4, hb4⟩; have HS4 : Hid (StrsIs w4 (.slice da (n + n') dk) (n + n') (colsT C n C' n')) := hs4; have HB4 : Hid (Below (w.heap.size + 3) (((w.alloc (.cells #[.slice ca n ccap, .slice qa m qcap] 25)).alloc (.cells #[.slice ca' n' ccap', .slice qa' m' qcap'] 25)).alloc (.cells #[.slice none 0 0, .slice none 0 0] 25)) w4) := HB3.out.trans (hb4.mono (by omega)); clear x0 x1 x2 x3 x4 x5 x6 x7 x8; obtain ⟨x0, x1, x2, x3, x4, x5, x6, x7, x8⟩ := box3 HB4.out; clear hs4 hb4)
            | (go_at_call 39; refine (CF.out _ _ _ HS4.out).mono ?_; rintro e w5 ⟨rfl, hb5⟩; have HB5 : Hid (Below (w.heap.size + 3) (((w.alloc (.cells #[.slice ca n ccap, .slice qa m qcap] 25)).alloc (.cells #[.slice ca' n' ccap', .slice qa' m' qcap'] 25)).alloc (.cells #[.slice none 0 0, .slice none 0 0] 25)) w5) := HB4.out.trans (hb5.mono (by omega)); clear x0 x1 x2 x3 x4 x5 x6 x7 x8; obtain ⟨x0, x1, x2, x3, x4, x5, x6, x7, x8⟩ := box3 HB5.out; clear hb5))
          refine bodyPost_ret (v := .tuple #[.agg #[.slice none 0 0, .slice none 0 0], .int .i64 G]) (by simp [results, Tryd.results15, go_sem, x4, x5]) rfl ⟨_, _, by rw [HFF.out], ?_, ?_, (((HW.out HB5.out)).setCell (by simp <;> omega) _).setCell (by simp <;> omega) _⟩
          · rw [HFF.out, okN, if_neg HNZ.out]; exact nil_strs _ _
          · rw [HFF.out, okN, if_neg HNZ.out]; exact nil_rows _ _
  · have HFF : Hid (joF C n R m C' n' R' m' x y = twoF (relF C n R m) (relF C' n' R' m')) := if_neg h0
    have HNZ : Hid (¬ twoF (relF C n R m) (relF C' n' R' m') = 0) := h0
    have h1 : (twoF (relF C n R m) (relF C' n' R' m') != 0) = true := by simpa using h0
    have h2 : (twoF (relF C n R m) (relF C' n' R' m') == 0) = false := by simpa using h0
    obtain ⟨ca, ccap, rfl, _⟩ := hc
    obtain ⟨ca', ccap', rfl, _⟩ := hc'
    obtain ⟨qa, qcap, rfl, _⟩ := hq
    obtain ⟨qa', qcap', rfl, _⟩ := hq'
    clear h0 hf hg hf' hg' hT hqs hqs'
    generalize joN R m R' m' (joP C n x) (joP C' n' y) = N1 at *
    generalize joR R m R' m' (joP C n x) (joP C' n' y) = U at *
    generalize joF C n R m C' n' R' m' x y = F at *
    generalize twoF (relF C n R m) (relF C' n' R' m') = G at *
    generalize colI C n x = J at *
    generalize colI C' n' y = J' at *
    go_enter Tryd.func15, Tryd.ntmps15
    go_wp2_with (first
      | (go_at_call 38; refine (C1.out _ _ _).mono ?_; rintro e w1 ⟨rfl, hb1⟩; have HB1 : Hid (Below (w.heap.size + 3) (((w.alloc (.cells #[.slice ca n ccap, .slice qa m qcap] 25)).alloc (.cells #[.slice ca' n' ccap', .slice qa' m' qcap'] 25)).alloc (.cells #[.slice none 0 0, .slice none 0 0] 25)) w1) := hb1; obtain ⟨x0, x1, x2, x3, x4, x5, x6, x7, x8⟩ := box3 hb1; clear hb1)
      | (go_at_call_has 33 (Value.slice ca n ccap); refine (CA.out _ (HW.out HB1.out)).mono ?_; rintro e w2 ⟨rfl, hb2⟩; have HB2 : Hid (Below (w.heap.size + 3) (((w.alloc (.cells #[.slice ca n ccap, .slice qa m qcap] 25)).alloc (.cells #[.slice ca' n' ccap', .slice qa' m' qcap'] 25)).alloc (.cells #[.slice none 0 0, .slice none 0 0] 25)) w2) := HB1.out.trans (hb2.mono (by omega)); clear x0 x1 x2 x3 x4 x5 x6 x7 x8; obtain ⟨x0, x1, x2, x3, x4, x5, x6, x7, x8⟩ := box3 HB2.out; clear hb2)
      | (go_at_call_has 33 (Value.slice ca' n' ccap'); refine (CA'.out _ (HW.out HB2.out)).mono ?_; rintro e w3 ⟨rfl, hb3⟩; have HB3 : Hid (Below (w.heap.size + 3) (((w.alloc (.cells #[.slice ca n ccap, .slice qa m qcap] 25)).alloc (.cells #[.slice ca' n' ccap', .slice qa' m' qcap'] 25)).alloc (.cells #[.slice none 0 0, .slice none 0 0] 25)) w3) := HB2.out.trans (hb3.mono (by omega)); clear x0 x1 x2 x3 x4 x5 x6 x7 x8; obtain ⟨x0, x1, x2, x3, x4, x5, x6, x7, x8⟩ := box3 HB3.out; clear hb3))
    refine bodyPost_ret (v := .tuple #[.agg #[.slice none 0 0, .slice none 0 0], .int .i64 G]) (by simp [results, Tryd.results15, go_sem, x4, x5]) rfl ⟨_, _, by rw [HFF.out], ?_, ?_, (((HW.out HB3.out)).setCell (by simp <;> omega) _).setCell (by simp <;> omega) _⟩
    · rw [HFF.out, okN, if_neg HNZ.out]; exact nil_strs _ _
    · rw [HFF.out, okN, if_neg HNZ.out]; exact nil_rows _ _
end Go.Proofs.YtcfjgoconmgpcaaDoor
