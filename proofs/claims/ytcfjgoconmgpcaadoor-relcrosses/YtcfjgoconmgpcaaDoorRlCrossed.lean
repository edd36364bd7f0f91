/-
  CONTRACT of the document's answer CrossedOf.
-/
import Derived.Test.YtcfjgoconmgpcaaDoorRlPair
set_option linter.unusedVariables false
namespace Go.Proofs.YtcfjgoconmgpcaaDoor
set_option maxRecDepth 100000
open Go.RowKit Go.WideShapes

theorem pairN_const (b k : Nat) : pairN (fun _ => b) k = k * b := by
  induction k with
  | zero => simp [pairN]
  | succ k ih => show pairN (fun _ => b) k + b = _; rw [ih, Nat.succ_mul]
/-- both relations may be: so few columns, and names that are not too long -/
theorem fine_both {C C' : Nat → ByteArray} {n n' m m' : Nat} {R R' : Nat → Row} (h : twoF (relF C n R m) (relF C' n' R' m') = 0) (hf : StrsFine n C) (hf' : StrsFine n' C') : StrsFine (n + n') (colsT C n C' n') := by
  obtain ⟨h1, h2⟩ := twoF_zero h
  have k1 := colsF_le (relF_zero h1).1
  have k2 := colsF_le (relF_zero h2).1
  refine ⟨by omega, fun i hi => ?_⟩
  show ((if i < n then C i else C' (i - n)) : ByteArray).size ≤ _
  by_cases e : i < n
  · rw [if_pos e]; exact hf.2 i e
  · rw [if_neg e]; exact hf'.2 _ (by omega)
theorem few_both {C C' : Nat → ByteArray} {n n' m m' : Nat} {R R' : Nat → Row} (h : twoF (relF C n R m) (relF C' n' R' m') = 0) : n ≤ 8 ∧ n' ≤ 8 ∧ m ≤ 1000000 ∧ m' ≤ 1000000 ∧ (∀ i, i < m → (R i).len = n) ∧ (∀ i, i < m' → (R' i).len = n') := by
  obtain ⟨h1, h2⟩ := twoF_zero h
  exact ⟨colsF_le (relF_zero h1).1, colsF_le (relF_zero h2).1, (relF_zero h1).2.1, (relF_zero h2).2.1, row_len h1, row_len h2⟩
/-- what is told of all pairs -/
def crF (C : Nat → ByteArray) (n : Nat) (R : Nat → Row) (m : Nat) (C' : Nat → ByteArray) (n' : Nat) (R' : Nat → Row) (m' : Nat) : Int :=
  if twoF (relF C n R m) (relF C' n' R' m') = 0 then madeF (colsT C n C' n') (n + n') (pairN (fun _ => m') m) else twoF (relF C n R m) (relF C' n' R' m')
def crR (R : Nat → Row) (m : Nat) (R' : Nat → Row) (m' : Nat) : Nat → Row := pairR (fun _ => m') (fun _ => R') R m

set_option maxHeartbeats 6400000 in
theorem crossed_is (c q c' q' : Value) (n m n' m' : Nat) (C C' : Nat → ByteArray) (R R' : Nat → Row) (w : World) (hc : StrsIs w c n C) (hq : RowsIs w q m R) (hf : StrsFine n C) (hg : RowsFine m R) (hc' : StrsIs w c' n' C') (hq' : RowsIs w q' m' R') (hf' : StrsFine n' C') (hg' : RowsFine m' R') (hT : Tabs w) :
    Calls Tryd.prog 17 #[.agg #[c, q], .agg #[c', q']] w fun e w' => ∃ c1 q1, e = .returned (.tuple #[.agg #[c1, q1], .int .i64 (crF C n R m C' n' R' m')]) ∧ StrsIs w' c1 (okN (crF C n R m C' n' R' m') (n + n')) (colsT C n C' n') ∧ RowsIs w' q1 (okN (crF C n R m C' n' R' m') (pairN (fun _ => m') m)) (crR R m R' m') ∧ Below w.heap.size w w' := by
  have C1 : Hid (∀ o o' o'', Calls Tryd.prog 38 #[.agg #[c, q], .agg #[c', q']] (((w.alloc o).alloc o').alloc o'') fun e w' => e = .returned (.int .i64 (twoF (relF C n R m) (relF C' n' R' m'))) ∧ Below (w.heap.size + 3) (((w.alloc o).alloc o').alloc o'') w') := fun o o' o'' => by
    have h := twoFault_is c q c' q' n m n' m' C C' R R' _ (hc.below (below_three o o' o'')) (hq.below (below_three o o' o'')) hf hg (hc'.below (below_three o o' o'')) (hq'.below (below_three o o' o'')) hf' hg' (Utf8Tabs_below hT (below_three o o' o''))
    rwa [size_three] at h
  have HW : Hid (∀ {W : World} {o o' o'' : Obj}, Below (w.heap.size + 3) (((w.alloc o).alloc o').alloc o'') W → Below w.heap.size w W) := fun h => (below_three _ _ _).trans (h.mono (by omega))
  by_cases h0 : twoF (relF C n R m) (relF C' n' R' m') = 0
  · obtain ⟨hn8, hn8', hm6, hm6', hl, hl'⟩ := few_both h0
    have hft := fine_both h0 hf hf'
    have CT : Hid (∀ W, Below w.heap.size w W → Calls Tryd.prog 40 #[.slice (some ⟨W.heap.size, 0, none⟩) 2 2] (W.alloc (.cells #[c, c'] 22)) fun e w' => ∃ a x, e = .returned (.slice a (n + n') x) ∧ StrsIs w' (.slice a (n + n') x) (n + n') (colsT C n C' n') ∧ Below W.heap.size W w') := fun W hW => by
      refine (texts_two W.heap.size 0 2 c c' ⟨n, C⟩ ⟨n', C'⟩ (W.alloc (.cells #[c, c'] 22)) (Nat.le_refl _) (by unfold maxLen; omega) (by simp) (by simp) (by simp) ((hc.below hW).below ((Below.refl _ _).alloc (Nat.le_refl _) _)) ((hc'.below hW).below ((Below.refl _ _).alloc (Nat.le_refl _) _)) hft.1).mono ?_
      rintro e w' ⟨v, rfl, h1, ⟨a, x, rfl⟩, h3⟩
      exact ⟨a, x, rfl, h1.is, ((Below.refl _ _).alloc (Nat.le_refl _) _).trans (h3.mono (by simp))⟩
    have CF : Hid (∀ W a x, StrsIs W (.slice a (n + n') x) (n + n') (colsT C n C' n') → Calls Tryd.prog 39 #[.slice a (n + n') x] W fun e w' => e = .returned (.int .i64 (colsF (colsT C n C' n') (n + n'))) ∧ Below W.heap.size W w') := fun W a x h => colsFault_is _ (n + n') (colsT C n C' n') W h hft.2
    have CO : Hid (∀ W a x v k U, StrsIs W (.slice a (n + n') x) (n + n') (colsT C n C' n') → RowsIs W v k U → madeF (colsT C n C' n') (n + n') k = 0 → Calls Tryd.prog 28 #[.slice a (n + n') x, v] W fun e w' => ∃ a1 k1, e = .returned (.tuple #[.agg #[.slice a1 (n + n') k1, v], .int .i64 0]) ∧ StrsFrom w' W.heap.size (.slice a1 (n + n') k1) (n + n') (colsT C n C' n') ∧ Below W.heap.size W w') := fun W a x v k U h1 h2 h3 => by
      have h := relOf_is (.slice a (n + n') x) v (n + n') k (colsT C n C' n') U W h1 h2 hft
      rw [h3] at h
      refine h.mono ?_
      rintro e w' ⟨c3, q3, rfl, h4, h5, h6⟩
      have h7 : q3 = v := h5
      subst h7
      have h8 := h4
      obtain ⟨a1, k1, rfl, _⟩ := h4
      exact ⟨a1, k1, rfl, h8, h6⟩
    obtain ⟨qa, qcap, rfl, q1, q2, _, q3⟩ := hq
    obtain ⟨qa', qcap', rfl, q1', q2', _, q3'⟩ := hq'
    have HQ : Hid (∀ W i, Below w.heap.size w W → i < m → ∃ b off u, qa = some ⟨b, off, none⟩ ∧ b < w.heap.size ∧ W.cell? ⟨b, off + i, none⟩ = some u ∧ ItsIs W u (R i).len (R i).at_) := fun W i hW hi => by
      obtain ⟨b, off, h1, h2, h3⟩ := q3 (by omega)
      obtain ⟨u, h4, h5⟩ := h3 i hi
      exact ⟨b, off, u, h1, h2, (hW.cell (p := ⟨b, off + i, none⟩) h2).trans h4, h5.below hW⟩
    have HQ' : Hid (∀ W i, Below w.heap.size w W → i < m' → ∃ b off u, qa' = some ⟨b, off, none⟩ ∧ b < w.heap.size ∧ W.cell? ⟨b, off + i, none⟩ = some u ∧ ItsIs W u (R' i).len (R' i).at_) := fun W i hW hi => by
      obtain ⟨b, off, h1, h2, h3⟩ := q3' (by omega)
      obtain ⟨u, h4, h5⟩ := h3 i hi
      exact ⟨b, off, u, h1, h2, (hW.cell (p := ⟨b, off + i, none⟩) h2).trans h4, h5.below hW⟩
    have HLN : Hid (∀ i k, i < m → k < m' → (appI (R i) (R' k)).len * 32 ≤ 140737488351232) := fun i k hi hk => by
      show ((R i).len + (R' k).len) * 32 ≤ _
      rw [hl i hi, hl' k hk]
      omega
    have HUF : Hid (crF C n R m C' n' R' m' = madeF (colsT C n C' n') (n + n') (pairN (fun _ => m') m)) := if_pos h0
    have hmul0 : 0 ≤ (m : Int) * (m' : Int) := by rw [← Int.natCast_mul]; omega
    have hmul1 : (m : Int) * (m' : Int) ≤ 1000000000000 := by
      have h := Nat.mul_le_mul hm6 hm6'
      rw [← Int.natCast_mul]
      omega
    obtain ⟨ca, ccap, rfl, _⟩ := hc
    obtain ⟨ca', ccap', rfl, _⟩ := hc'
    rw [h0] at C1
    clear hf hg hf' hg' hT q2 q2' q3 q3' h0 hft hl hl'
    generalize crF C n R m C' n' R' m' = F at *
    by_cases hcf : colsF (colsT C n C' n') (n + n') = 0
    · rw [hcf] at CF
      by_cases hgt : 1000000 < m * m'
      · have HFF : Hid (F = 1) := by
          have h : F = 1 := by rw [HUF.out, madeF_rows hcf, pairN_const, if_pos hgt]
          exact h
        have hgi : (1000000 : Int) < (m : Int) * (m' : Int) := by rw [← Int.natCast_mul]; omega
        clear hcf hgt
        go_enter Tryd.func17, Tryd.ntmps17
        go_wp2_with (first
          | (go_at_call 38; refine (C1.out _ _ _).mono ?_; rintro e w1 ⟨rfl, hb1⟩; have HB1 : Hid (Below (w.heap.size + 3) (((w.alloc (.cells #[.slice ca n ccap, .slice qa m qcap] 25)).alloc (.cells #[.slice ca' n' ccap', .slice qa' m' qcap'] 25)).alloc (.cells #[.slice none 0 0, .slice none 0 0] 25)) w1) := hb1; obtain ⟨x0, x1, x2, x3, x4, x5, x6, x7, x8⟩ := box3 hb1; clear hb1)
          | (go_at_call 40; refine (CT.out _ (HW.out HB1.out)).mono ?_; rintro e w2 ⟨da, dk, rfl, hs2, hb2⟩; have HS2 : Hid (StrsIs w2 (.slice da (n + n') dk) (n + n') (colsT C n C' n')) := hs2; have HB2 : Hid (Below (w.heap.size + 3) (((w.alloc (.cells #[.slice ca n ccap, .slice qa m qcap] 25)).alloc (.cells #[.slice ca' n' ccap', .slice qa' m' qcap'] 25)).alloc (.cells #[.slice none 0 0, .slice none 0 0] 25)) w2) := HB1.out.trans (hb2.mono (by omega)); clear x0 x1 x2 x3 x4 x5 x6 x7 x8; obtain ⟨x0, x1, x2, x3, x4, x5, x6, x7, x8⟩ := box3 HB2.out; clear hs2 hb2)
          | (go_at_call 39; refine (CF.out _ _ _ HS2.out).mono ?_; rintro e w3 ⟨rfl, hb3⟩; have HB3 : Hid (Below (w.heap.size + 3) (((w.alloc (.cells #[.slice ca n ccap, .slice qa m qcap] 25)).alloc (.cells #[.slice ca' n' ccap', .slice qa' m' qcap'] 25)).alloc (.cells #[.slice none 0 0, .slice none 0 0] 25)) w3) := HB2.out.trans (hb3.mono (by omega)); clear x0 x1 x2 x3 x4 x5 x6 x7 x8; obtain ⟨x0, x1, x2, x3, x4, x5, x6, x7, x8⟩ := box3 HB3.out; clear hb3))
        refine bodyPost_ret (v := .tuple #[.agg #[.slice none 0 0, .slice none 0 0], .int .i64 1]) (by simp [results, Tryd.results17, go_sem, x4, x5]) rfl ⟨_, _, by rw [HFF.out], ?_, ?_, (((HW.out HB3.out)).setCell (by simp; omega) _).setCell (by simp; omega) _⟩
        · rw [HFF.out]; exact nil_strs _ _
        · rw [HFF.out]; exact nil_rows _ _
      · have HM0 : Hid (madeF (colsT C n C' n') (n + n') (pairN (fun _ => m') m) = 0) := by
          have h : madeF (colsT C n C' n') (n + n') (pairN (fun _ => m') m) = 0 := by rw [madeF_rows hcf, pairN_const, if_neg hgt]
          exact h
        have HF0 : Hid (F = 0) := HUF.out.trans HM0.out
        have hgi : ¬ ((1000000 : Int) < (m : Int) * (m' : Int)) := by rw [← Int.natCast_mul]; omega
        have HNN : Hid (∀ i k, i < m → k < m' → pairN (fun _ => m') i + k < 1000000) := fun i k hi hk => by
          have h := pairN_lt (fun _ => m') hi hk
          rw [pairN_const m' m] at h
          omega
        clear hcf hgt HUF
        go_enter Tryd.func17, Tryd.ntmps17
        go_wp2_with (first
          | (go_at_call 38; refine (C1.out _ _ _).mono ?_; rintro e w1 ⟨rfl, hb1⟩; have HB1 : Hid (Below (w.heap.size + 3) (((w.alloc (.cells #[.slice ca n ccap, .slice qa m qcap] 25)).alloc (.cells #[.slice ca' n' ccap', .slice qa' m' qcap'] 25)).alloc (.cells #[.slice none 0 0, .slice none 0 0] 25)) w1) := hb1; obtain ⟨x0, x1, x2, x3, x4, x5, x6, x7, x8⟩ := box3 hb1; clear hb1)
          | (go_at_call 40; refine (CT.out _ (HW.out HB1.out)).mono ?_; rintro e w2 ⟨da, dk, rfl, hs2, hb2⟩; have HS2 : Hid (StrsIs w2 (.slice da (n + n') dk) (n + n') (colsT C n C' n')) := hs2; have HB2 : Hid (Below (w.heap.size + 3) (((w.alloc (.cells #[.slice ca n ccap, .slice qa m qcap] 25)).alloc (.cells #[.slice ca' n' ccap', .slice qa' m' qcap'] 25)).alloc (.cells #[.slice none 0 0, .slice none 0 0] 25)) w2) := HB1.out.trans (hb2.mono (by omega)); clear x0 x1 x2 x3 x4 x5 x6 x7 x8; obtain ⟨x0, x1, x2, x3, x4, x5, x6, x7, x8⟩ := box3 HB2.out; clear hs2 hb2)
          | (go_at_call 39; refine (CF.out _ _ _ HS2.out).mono ?_; rintro e w3 ⟨rfl, hb3⟩; have HB3 : Hid (Below (w.heap.size + 3) (((w.alloc (.cells #[.slice ca n ccap, .slice qa m qcap] 25)).alloc (.cells #[.slice ca' n' ccap', .slice qa' m' qcap'] 25)).alloc (.cells #[.slice none 0 0, .slice none 0 0] 25)) w3) := HB2.out.trans (hb3.mono (by omega)); clear x0 x1 x2 x3 x4 x5 x6 x7 x8; obtain ⟨x0, x1, x2, x3, x4, x5, x6, x7, x8⟩ := box3 HB3.out; clear hb3))
        have hx8 : w.heap.size + 1 + 1 < w3.heap.size := x8
        go_loopw [7, 8] (fun v i wr => ∃ j : Nat, j ≤ m ∧ i = .int .i64 j ∧ RowsOwn wr w3.heap.size v (pairN (fun _ => m') j) (crR R m R' m') ∧ Below w3.heap.size w3 wr) (fun _ i _ => m - (intOf i).toNat)
        case atStart => exact ⟨0, Nat.zero_le _, rfl, RowsOwn.nil _ _ _, Below.refl _ _⟩
        case round =>
          obtain ⟨j, hj, rfl, hrow, hbr⟩ := hrel
          have HB4 : Hid (Below (w.heap.size + 3) (((w.alloc (.cells #[.slice ca n ccap, .slice qa m qcap] 25)).alloc (.cells #[.slice ca' n' ccap', .slice qa' m' qcap'] 25)).alloc (.cells #[.slice none 0 0, .slice none 0 0] 25)) wr) := HB3.out.trans (hbr.mono (by omega))
          have HBR : Hid (Below w3.heap.size w3 wr) := hbr
          have hzr : w3.heap.size ≤ wr.heap.size := hbr.size
          obtain ⟨ra, rc, rfl⟩ := hrow.shape
          have HROW : Hid (RowsOwn wr w3.heap.size (.slice ra (pairN (fun _ => m') j) rc) (pairN (fun _ => m') j) (crR R m R' m')) := hrow
          clear hrow hbr x0 x1 x2 x3 x4 x5 x6 x7 x8
          obtain ⟨x0, x1, x2, x3, x4, x5, x6, x7, x8⟩ := box3 HB4.out
          by_cases hjl : j < m
          · have hji : (j : Int) < (m : Int) := by omega
            go_wp2
            go_loopw [7, 9] (fun v i wr => ∃ k : Nat, k ≤ m' ∧ i = .int .i64 k ∧ RowsOwn wr w3.heap.size v (pairN (fun _ => m') j + k) (crR R m R' m') ∧ Below w3.heap.size w3 wr) (fun _ i _ => m' - (intOf i).toNat)
            case atStart => exact ⟨0, Nat.zero_le _, rfl, HROW.out, HBR.out⟩
            case round =>
              clear HROW HBR HB4 hzr x0 x1 x2 x3 x4 x5 x6 x7 x8
              obtain ⟨k, hk, rfl, hrow, hbr⟩ := hrel
              have HB4 : Hid (Below (w.heap.size + 3) (((w.alloc (.cells #[.slice ca n ccap, .slice qa m qcap] 25)).alloc (.cells #[.slice ca' n' ccap', .slice qa' m' qcap'] 25)).alloc (.cells #[.slice none 0 0, .slice none 0 0] 25)) wr) := HB3.out.trans (hbr.mono (by omega))
              have HBR : Hid (Below w3.heap.size w3 wr) := hbr
              have hzr : w3.heap.size ≤ wr.heap.size := hbr.size
              obtain ⟨ra, rc, rfl⟩ := hrow.shape
              have HROW : Hid (RowsOwn wr w3.heap.size (.slice ra (pairN (fun _ => m') j + k) rc) (pairN (fun _ => m') j + k) (crR R m R' m')) := hrow
              clear hrow hbr
              obtain ⟨x0, x1, x2, x3, x4, x5, x6, x7, x8⟩ := box3 HB4.out
              by_cases hkl : k < m'
              · obtain ⟨b, off, u, rfl, hb0, e1, hu⟩ := HQ.out wr j (HW.out HB4.out) hjl
                obtain ⟨b', off', u', rfl, hb0', e1', hu'⟩ := HQ'.out wr k (HW.out HB4.out) hkl
                have hki : (k : Int) < (m' : Int) := by omega
                have HU : Hid (ItsIs wr u (R j).len (R j).at_) := hu
                have HU' : Hid (ItsIs wr u' (R' k).len (R' k).at_) := hu'
                obtain ⟨ua, ucap, rfl, _⟩ := HU.out
                obtain ⟨ua', ucap', rfl, _⟩ := HU'.out
                have hl32 := HLN.out j k hjl hkl
                have hnn := HNN.out j k hjl hkl
                have HAT : Hid (crR R m R' m' (pairN (fun _ => m') j + k) = appI (R j) (R' k)) := pairR_at (pn := fun _ => m') (PR := fun _ => R') hjl hkl
                have HG : Hid (pairN (fun _ => m') j + (k + 1) = pairN (fun _ => m') j + k + 1) := (rfl : pairN (fun _ => m') j + (k + 1) = pairN (fun _ => m') j + k + 1)
                have hbz : b < wr.heap.size := by omega
                have hbz' : b' < wr.heap.size := by omega
                clear hu hu'
                generalize pairN (fun _ => m') j + k = g at *
                go_upto_region 15 with fail
                go_region_law (first
                  | (refine step_call rfl 34 #[.slice (some ⟨wr.heap.size, 0, none⟩) 2 2] (by simp [go_sem]) (fun v w' => ItsApart w' _ none v (appI (R j) (R' k)).len (appI (R j) (R' k)).at_ ∧ (∃ a' c', v = .slice a' (appI (R j) (R' k)).len c') ∧ Below _ _ w') (items_two wr.heap.size 0 2 (.slice ua (R j).len ucap) (.slice ua' (R' k).len ucap') (R j) (R' k) _ (Nat.le_refl _) (by unfold maxLen; omega) (by simp) (by simp) (by simp) (by exact (HU.out.alloc _).heap rfl) (by exact (HU'.out.alloc _).heap rfl) hl32) ?_; rintro v7 w7 ⟨hi7, ⟨va7, vc7, rfl⟩, hb7⟩; have HI7 : Hid (ItsApart w7 w3.heap.size (Value.slice ra g rc).ownBlock (.slice va7 (appI (R j) (R' k)).len vc7) (appI (R j) (R' k)).len (appI (R j) (R' k)).at_) := hi7.weaken (by simp; omega) (fun z hz => by have := (HROW.out.lt z hz).2; simp; omega); have HR7 : Hid (RowsOwn w7 w3.heap.size (.slice ra g rc) g (crR R m R' m')) := rows_behind hb7 rfl (HROW.out.alloc _); have HB7 : Hid (Below w3.heap.size wr w7) := ((Below.refl _ _).alloc hzr (.cells #[.slice ua (R j).len ucap, .slice ua' (R' k).len ucap'] 37)).trans (below_pre (hb7.mono (by simp; omega)) rfl rfl rfl rfl); have hz7 : w3.heap.size ≤ w7.heap.size := (by have := HB7.out.size; omega); clear hi7 hb7))
                all_goals
                  go_wp2_with (first | (at_builtin; refine wpList_push_row rfl (.tmp 65) (.tmp 67) rfl w3.heap.size g (.slice ra g rc) (crR R m R' m') rfl (HR7.out.alloc _) (by simp; omega) ⟨w7.heap.size, 0, none⟩ 1 (.slice va7 (appI (R j) (R' k)).len vc7) rfl (by simp) (by rw [HAT.out]; exact HI7.out.alloc _) (by omega) ?_; intro v8 w8 hr8 hsh8 hg8; obtain ⟨va8, vc8, rfl⟩ := hsh8; have HR8 : Hid (RowsOwn w8 w3.heap.size (.slice va8 (g + 1) vc8) (g + 1) (crR R m R' m')) := hr8; have HB8 : Hid (Below w3.heap.size wr w8) := (HB7.out.alloc hz7 _).grown hg8 (by simp; omega) (fun z hz => (HROW.out.lt z hz).1); clear hr8 hg8))
                  go_roundw
                  case rel => exact ⟨k + 1, by omega, by go_num, by rw [HG.out]; exact HR8.out, HBR.out.trans HB8.out⟩
                  case measure => simp [intOf]; omega
              · have e : k = m' := by omega
                subst e
                go_wp2
                go_roundw
                case rel => exact ⟨j + 1, by omega, by go_num, HROW.out, HBR.out⟩
                case measure => simp [intOf]; omega
          · have e : j = m := by omega
            subst e
            go_wp2_with (first
              | (go_at_call 40; refine (CT.out _ (HW.out HB4.out)).mono ?_; rintro e w5 ⟨ea, ek, rfl, hs5, hb5⟩; have HS5 : Hid (StrsIs w5 (.slice ea (n + n') ek) (n + n') (colsT C n C' n')) := hs5; have HR5 : Hid (RowsOwn w5 w3.heap.size (.slice ra (pairN (fun _ => m') j) rc) (pairN (fun _ => m') j) (crR R j R' m')) := HROW.out.below hb5; have HB5 : Hid (Below (w.heap.size + 3) (((w.alloc (.cells #[.slice ca n ccap, .slice qa j qcap] 25)).alloc (.cells #[.slice ca' n' ccap', .slice qa' m' qcap'] 25)).alloc (.cells #[.slice none 0 0, .slice none 0 0] 25)) w5) := HB4.out.trans (hb5.mono (by omega)); clear x0 x1 x2 x3 x4 x5 x6 x7 x8; obtain ⟨x0, x1, x2, x3, x4, x5, x6, x7, x8⟩ := box3 HB5.out; clear hs5 hb5)
              | (go_at_call 28; refine (CO.out _ _ _ _ _ _ HS5.out HR5.out.is HM0.out).mono ?_; rintro e w6 ⟨fa, fk, rfl, hs6, hb6⟩; have HS6 : Hid (StrsFrom w6 (w.heap.size + 3) (.slice fa (n + n') fk) (n + n') (colsT C n C' n')) := hs6.weaken (by omega); have HR6 : Hid (RowsOwn w6 w3.heap.size (.slice ra (pairN (fun _ => m') j) rc) (pairN (fun _ => m') j) (crR R j R' m')) := HR5.out.below hb6; have HB6 : Hid (Below (w.heap.size + 3) (((w.alloc (.cells #[.slice ca n ccap, .slice qa j qcap] 25)).alloc (.cells #[.slice ca' n' ccap', .slice qa' m' qcap'] 25)).alloc (.cells #[.slice none 0 0, .slice none 0 0] 25)) w6) := HB5.out.trans (hb6.mono (by omega)); clear x0 x1 x2 x3 x4 x5 x6 x7 x8; obtain ⟨x0, x1, x2, x3, x4, x5, x6, x7, x8⟩ := box3 HB6.out; clear hs6 hb6))
            refine bodyPost_ret (v := .tuple #[.agg #[.slice fa (n + n') fk, .slice ra (pairN (fun _ => m') j) rc], .int .i64 0]) (by simp [results, Tryd.results17, go_sem, x4, x5]) rfl ⟨_, _, by rw [HF0.out], ?_, ?_, (((HW.out HB6.out)).setCell (by simp; omega) _).setCell (by simp; omega) _⟩
            · rw [HF0.out]; exact ((HS6.out.setCell (by simp) _).setCell (by simp) _).is
            · rw [HF0.out]; exact ((HR6.out.setCell (by simp; omega) _).setCell (by simp; omega) _).is
    · have HFF : Hid (F = colsF (colsT C n C' n') (n + n')) := HUF.out.trans (madeF_cols hcf)
      have HNZ : Hid (¬ colsF (colsT C n C' n') (n + n') = 0) := hcf
      have h1 : (colsF (colsT C n C' n') (n + n') != 0) = true := by simpa using hcf
      have h2 : (colsF (colsT C n C' n') (n + n') == 0) = false := by simpa using hcf
      clear hcf HUF
      generalize colsF (colsT C n C' n') (n + n') = G at *
      go_enter Tryd.func17, Tryd.ntmps17
      go_wp2_with (first
          | (go_at_call 38; refine (C1.out _ _ _).mono ?_; rintro e w1 ⟨rfl, hb1⟩; have HB1 : Hid (Below (w.heap.size + 3) (((w.alloc (.cells #[.slice ca n ccap, .slice qa m qcap] 25)).alloc (.cells #[.slice ca' n' ccap', .slice qa' m' qcap'] 25)).alloc (.cells #[.slice none 0 0, .slice none 0 0] 25)) w1) := hb1; obtain ⟨x0, x1, x2, x3, x4, x5, x6, x7, x8⟩ := box3 hb1; clear hb1)
          | (go_at_call 40; refine (CT.out _ (HW.out HB1.out)).mono ?_; rintro e w2 ⟨da, dk, rfl, hs2, hb2⟩; have HS2 : Hid (StrsIs w2 (.slice da (n + n') dk) (n + n') (colsT C n C' n')) := hs2; have HB2 : Hid (Below (w.heap.size + 3) (((w.alloc (.cells #[.slice ca n ccap, .slice qa m qcap] 25)).alloc (.cells #[.slice ca' n' ccap', .slice qa' m' qcap'] 25)).alloc (.cells #[.slice none 0 0, .slice none 0 0] 25)) w2) := HB1.out.trans (hb2.mono (by omega)); clear x0 x1 x2 x3 x4 x5 x6 x7 x8; obtain ⟨x0, x1, x2, x3, x4, x5, x6, x7, x8⟩ := box3 HB2.out; clear hs2 hb2)
          | (go_at_call 39; refine (CF.out _ _ _ HS2.out).mono ?_; rintro e w3 ⟨rfl, hb3⟩; have HB3 : Hid (Below (w.heap.size + 3) (((w.alloc (.cells #[.slice ca n ccap, .slice qa m qcap] 25)).alloc (.cells #[.slice ca' n' ccap', .slice qa' m' qcap'] 25)).alloc (.cells #[.slice none 0 0, .slice none 0 0] 25)) w3) := HB2.out.trans (hb3.mono (by omega)); clear x0 x1 x2 x3 x4 x5 x6 x7 x8; obtain ⟨x0, x1, x2, x3, x4, x5, x6, x7, x8⟩ := box3 HB3.out; clear hb3))
      refine bodyPost_ret (v := .tuple #[.agg #[.slice none 0 0, .slice none 0 0], .int .i64 G]) (by simp [results, Tryd.results17, go_sem, x4, x5]) rfl ⟨_, _, by rw [HFF.out], ?_, ?_, (((HW.out HB3.out)).setCell (by simp; omega) _).setCell (by simp; omega) _⟩
      · rw [HFF.out, okN, if_neg HNZ.out]; exact nil_strs _ _
      · rw [HFF.out, okN, if_neg HNZ.out]; exact nil_rows _ _
  · have HFF : Hid (crF C n R m C' n' R' m' = twoF (relF C n R m) (relF C' n' R' m')) := if_neg h0
    have HNZ : Hid (¬ twoF (relF C n R m) (relF C' n' R' m') = 0) := h0
    have h1 : (twoF (relF C n R m) (relF C' n' R' m') != 0) = true := by simpa using h0
    have h2 : (twoF (relF C n R m) (relF C' n' R' m') == 0) = false := by simpa using h0
    obtain ⟨ca, ccap, rfl, _⟩ := hc
    obtain ⟨ca', ccap', rfl, _⟩ := hc'
    obtain ⟨qa, qcap, rfl, _⟩ := hq
    obtain ⟨qa', qcap', rfl, _⟩ := hq'
    clear h0 hf hg hf' hg' hT
    generalize crF C n R m C' n' R' m' = F at *
    generalize twoF (relF C n R m) (relF C' n' R' m') = G at *
    go_enter Tryd.func17, Tryd.ntmps17
    go_wp2_with (first | (go_at_call 38; refine (C1.out _ _ _).mono ?_; rintro e w1 ⟨rfl, hb1⟩; have HB1 : Hid (Below (w.heap.size + 3) _ w1) := hb1; obtain ⟨x0, x1, x2, x3, x4, x5, x6, x7, x8⟩ := box3 hb1; clear hb1))
    refine bodyPost_ret (v := .tuple #[.agg #[.slice none 0 0, .slice none 0 0], .int .i64 G]) (by simp [results, Tryd.results17, go_sem, x4, x5]) rfl ⟨_, _, by rw [HFF.out], ?_, ?_, (((HW.out HB1.out)).setCell (by simp; omega) _).setCell (by simp; omega) _⟩
    · rw [HFF.out, okN, if_neg HNZ.out]; exact nil_strs _ _
    · rw [HFF.out, okN, if_neg HNZ.out]; exact nil_rows _ _
end Go.Proofs.YtcfjgoconmgpcaaDoor
