/-
  CONTRACT of rel.Union.
-/
import Derived.Test.YtkcejelmohameaaGreatDoorRlCMap
import Derived.Test.YtkcejelmohameaaGreatDoorRlCMap
import Derived.Deep.RegionLaw
set_option linter.unusedVariables false
namespace Go.Proofs.YtkcejelmohameaaGreatDoor
set_option maxRecDepth 100000
open Go.RowKit Go.WideShapes

theorem take_same (C C' : Nat → ByteArray) (n : Nat) : decide (((List.range n).map C).take n = ((List.range n).map C').take n) = colsB C C' n n := by
  rw [List.take_of_length_le (by simp), List.take_of_length_le (by simp), Bool.eq_iff_iff]
  unfold colsB
  rw [decide_eq_true rfl, Bool.true_and, List.all_eq_true, decide_eq_true_eq]
  constructor
  · intro h i hi
    have hi' := List.mem_range.1 hi
    rw [Lib.bytes_beq_iff]
    have h2 : ((List.range n).map C)[i]? = ((List.range n).map C')[i]? := by rw [h]
    simpa [hi'] using h2
  · intro h
    apply List.map_congr_left
    intro i hi
    exact (Lib.bytes_beq_iff _ _).1 (h i hi)
theorem equal_is (u v : Value) (n n' : Nat) (C C' : Nat → ByteArray) (w : World) (hu : StrsIs w u n C) (hv : StrsIs w v n' C') :
    Calls Tryz.prog 141 #[u, v] w fun e w' => e = .returned (.bool (colsB C C' n n')) ∧ Below w.heap.size w w' := by
  obtain ⟨a, cap, rfl, h1, h2, _, h3⟩ := hu
  obtain ⟨a', cap', rfl, h1', h2', _, h3'⟩ := hv
  by_cases hn : n = n'
  · subst hn
    rcases Nat.eq_zero_or_pos n with hz | hz
    · subst hz
      refine (Tryz.slices_Equal_string_empty a a' cap 0 cap' w (by omega)).mono ?_
      rintro e w' ⟨rfl, rfl⟩
      exact ⟨rfl, Below.refl _ _⟩
    · obtain ⟨b, off, rfl, _, h5⟩ := h3 hz
      obtain ⟨b', off', rfl, _, h5'⟩ := h3' hz
      refine (Tryz.slices_Equal_string b off n cap b' off' n cap' ((List.range n).map C) ((List.range n).map C') w (by simp) (by simp) (by unfold maxLen at h2; omega) (by unfold maxLen at h2; omega) (strs_list h5) (strs_list h5')).mono ?_
      rintro e w' ⟨rfl, q, rfl⟩
      exact ⟨by rw [take_same], below_drawn (Below.refl _ _) _⟩
  · refine (Tryz.slices_Equal_string_lens a a' n cap n' cap' w hn).mono ?_
    rintro e w' ⟨rfl, rfl⟩
    exact ⟨by rw [colsB_len hn], Below.refl _ _⟩

theorem undTwo : Tryz.prog.underlying 159 = some (.array 2 38) := by kernel_rfl
theorem index0 (a b : Option Addr) (n m c d : Nat) (W : World) : (Instr.index 159 (.agg #[.slice a n c, .slice b m d]) (.int .i64 0)).run Tryz.prog W = .ok (.slice a n c) W := by
  have hs := Tryz.sizeOf38
  have ha := Tryz.isAgg38
  simp [Instr.index, run_underlying undTwo, asIntOf, part, go_sem, hs, ha]
theorem index1 (a b : Option Addr) (n m c d : Nat) (W : World) : (Instr.index 159 (.agg #[.slice a n c, .slice b m d]) (.int .i64 1)).run Tryz.prog W = .ok (.slice b m d) W := by
  have hs := Tryz.sizeOf38
  have ha := Tryz.isAgg38
  simp [Instr.index, run_underlying undTwo, asIntOf, part, go_sem, hs, ha]
/-- how many rows there are, ahead of the k-th list -/
def cntU (m m' k : Nat) : Nat := if k = 0 then 0 else if k = 1 then m else m + m'
set_option maxHeartbeats 6400000 in
theorem union_is (c q c' q' : Value) (n m n' m' : Nat) (C C' : Nat → ByteArray) (R R' : Nat → Row) (w : World) (hc : StrsIs w c n C) (hq : RowsIs w q m R) (hf : StrsFine n C) (hg : RowsFine m R) (hc' : StrsIs w c' n' C') (hq' : RowsIs w q' m' R') (hf' : StrsFine n' C') (hg' : RowsFine m' R') (hT : Tabs w) :
    Calls Tryz.prog 103 #[.agg #[c, q], .agg #[c', q']] w fun e w' => ∃ c1 q1, e = .returned (.tuple #[.agg #[c1, q1], .int .i64 (unF C n R m C' n' R' m')]) ∧ FreshRel w w' c1 q1 (okN (unF C n R m C' n' R' m') n) (okN (unF C n R m C' n' R' m') (m + m')) C (unR R R' m) ∧ Below w.heap.size w w' := by
  have C1 : Hid (∀ o o' o'', Calls Tryz.prog 137 #[.agg #[c, q], .agg #[c', q']] (((w.alloc o).alloc o').alloc o'') fun e w' => e = .returned (.int .i64 (twoF (relF C n R m) (relF C' n' R' m'))) ∧ Below (w.heap.size + 3) (((w.alloc o).alloc o').alloc o'') w') := fun o o' o'' => by
    have h := checkBoth_is c q c' q' n m n' m' C C' R R' _ (hc.below (below_three o o' o'')) (hq.below (below_three o o' o'')) hf hg (hc'.below (below_three o o' o'')) (hq'.below (below_three o o' o'')) hf' hg' (Utf8Tabs_below hT (below_three o o' o''))
    rwa [size_three] at h
  have HW : Hid (∀ {W : World} {o o' o'' : Obj}, Below (w.heap.size + 3) (((w.alloc o).alloc o').alloc o'') W → Below w.heap.size w W) := fun h => (below_three _ _ _).trans (h.mono (by omega))
  have CE : Hid (∀ W, Below w.heap.size w W → Calls Tryz.prog 141 #[c, c'] W fun e w' => e = .returned (.bool (colsB C C' n n')) ∧ Below W.heap.size W w') := fun W hW => equal_is c c' n n' C C' W (hc.below hW) (hc'.below hW)
  have CM : Hid (∀ W, Below w.heap.size w W → m + m' ≤ maxLen → Calls Tryz.prog 119 #[c, .int .i64 ((m : Int) + (m' : Int))] W fun e w' => e = .returned (.int .i64 (madeF C n (m + m'))) ∧ w' = W) := fun W hW hl => by
    have h := checkMade_is c n (m + m') C W (hc.below hW) hf.2 hl
    rwa [Int.natCast_add] at h
  have CW : Hid (∀ W, Below w.heap.size w W → m + m' ≤ 4000000 → Calls Tryz.prog 133 #[.int .i64 ((m : Int) + (m' : Int)), .slice (some ⟨W.heap.size, 0, none⟩) 1 1] (W.alloc (.cells #[c] 35)) fun e w' => ∃ c' q', e = .returned (.agg #[c', q']) ∧ StrsKept w' (W.heap.size + 1) w'.heap.size q'.ownBlock c' n C ∧ RowsOwn w' (W.heap.size + 1) q' 0 (unR R R' m) ∧ (∃ a1 k1, c' = .slice a1 n k1) ∧ (∃ a2 k2, q' = .slice a2 0 k2) ∧ Below (W.heap.size + 1) (W.alloc (.cells #[c] 35)) w') := fun W hW hl => by
    have h := withRoom_one (m + m') W.heap.size 0 1 c n C (W.alloc (.cells #[c] 35)) hl (Nat.le_refl _) (by unfold maxLen; omega) (by simp) (by simp) ((hc.below hW).below ((Below.refl _ _).alloc (Nat.le_refl _) _)) hf.1 (unR R R' m)
    rwa [Int.natCast_add, show (W.alloc (.cells #[c] 35)).heap.size = W.heap.size + 1 by simp] at h
  obtain ⟨qa, qcap, rfl, q1, q2, _, q3⟩ := hq
  obtain ⟨qa', qcap', rfl, q1', q2', _, q3'⟩ := hq'
  have hmm : m ≤ 9223372036854775807 := by unfold maxLen at q2; omega
  have hmm' : m' ≤ 9223372036854775807 := by unfold maxLen at q2'; omega
  have HQ : Hid (∀ W i, Below w.heap.size w W → i < m → ∃ b off u, qa = some ⟨b, off, none⟩ ∧ b < w.heap.size ∧ W.cell? ⟨b, off + i, none⟩ = some u ∧ ItsIs W u (unR R R' m i).len (unR R R' m i).at_ ∧ (unR R R' m i).len * 32 ≤ 140737488351232) := fun W i hW hi => by
    obtain ⟨b, off, h1, h2, h3⟩ := q3 (by omega)
    obtain ⟨u, h4, h5⟩ := h3 i hi
    rw [show unR R R' m i = R i from if_pos hi]
    exact ⟨b, off, u, h1, h2, (hW.cell (p := ⟨b, off + i, none⟩) h2).trans h4, h5.below hW, (hg.2 i hi).1⟩
  have HQ' : Hid (∀ W i, Below w.heap.size w W → i < m' → ∃ b off u, qa' = some ⟨b, off, none⟩ ∧ b < w.heap.size ∧ W.cell? ⟨b, off + i, none⟩ = some u ∧ ItsIs W u (unR R R' m (m + i)).len (unR R R' m (m + i)).at_ ∧ (unR R R' m (m + i)).len * 32 ≤ 140737488351232) := fun W i hW hi => by
    obtain ⟨b, off, h1, h2, h3⟩ := q3' (by omega)
    obtain ⟨u, h4, h5⟩ := h3 i hi
    rw [show unR R R' m (m + i) = R' i by unfold unR; rw [if_neg (by omega), show m + i - m = i by omega]]
    exact ⟨b, off, u, h1, h2, (hW.cell (p := ⟨b, off + i, none⟩) h2).trans h4, h5.below hW, (hg'.2 i hi).1⟩
  obtain ⟨ca, ccap, rfl, c1, c2, _, c3⟩ := hc
  obtain ⟨ca', ccap', rfl, c1', c2', _, c3'⟩ := hc'
  clear hf hg hf' hg' hT q2 q2' q3 q3' c2 c2' c3 c3'
  by_cases h0 : twoF (relF C n R m) (relF C' n' R' m') = 0
  · obtain ⟨k1, k2⟩ := twoF_zero h0
    obtain ⟨k3, k4, _⟩ := relF_zero k1
    obtain ⟨_, k5, _⟩ := relF_zero k2
    have hml : m + m' ≤ maxLen := by unfold maxLen; omega
    have hm4 : m + m' ≤ 4000000 := by omega
    have HUF : Hid (unF C n R m C' n' R' m' = if colsB C C' n n' = true then madeF C n (m + m') else 9) := if_pos h0
    rw [h0] at C1
    clear h0 k1 k2 k3
    generalize unF C n R m C' n' R' m' = F at *
    generalize colsB C C' n n' = E at *
    cases E
    · have HFF : Hid (F = 9) := HUF.out
      go_enter Tryz.func103, Tryz.ntmps103
      go_wp2_with (first | (go_at_call 137; refine (C1.out _ _ _).mono ?_; rintro e w1 ⟨rfl, hb1⟩; have HB1 : Hid (Below (w.heap.size + 3) _ w1) := hb1; obtain ⟨x0, x1, x2, x3, x4, x5, x6, x7, x8⟩ := box3 hb1; clear hb1) |
        (go_at_call 141; refine (CE.out _ (HW.out HB1.out)).mono ?_; rintro e w2 ⟨rfl, hb2⟩; have HB2 : Hid (Below (w.heap.size + 3) _ w2) := HB1.out.trans (hb2.mono (by omega)); clear x0 x1 x2 x3 x4 x5 x6 x7 x8; obtain ⟨x0, x1, x2, x3, x4, x5, x6, x7, x8⟩ := box3 HB2.out; clear hb2))
      refine bodyPost_ret (v := .tuple #[.agg #[.slice none 0 0, .slice none 0 0], .int .i64 9]) (by simp [results, Tryz.results103, go_sem, x4, x5]) rfl ⟨_, _, by rw [HFF.out], ?_, (((HW.out HB2.out)).setCell (by simp; omega) _).setCell (by simp; omega) _⟩
      rw [HFF.out]; exact FreshRel.nil _ _ _ _
    · have HFF : Hid (F = madeF C n (m + m')) := HUF.out
      clear HUF
      by_cases hF0 : madeF C n (m + m') = 0
      · have HF0 : Hid (F = 0) := HFF.out.trans hF0
        rw [hF0] at CM
        clear hF0 HFF
        go_enter Tryz.func103, Tryz.ntmps103
        go_wp2_with (first | (go_at_call 137; refine (C1.out _ _ _).mono ?_; rintro e w1 ⟨rfl, hb1⟩; have HB1 : Hid (Below (w.heap.size + 3) _ w1) := hb1; obtain ⟨x0, x1, x2, x3, x4, x5, x6, x7, x8⟩ := box3 hb1; clear hb1) |
          (go_at_call 141; refine (CE.out _ (HW.out HB1.out)).mono ?_; rintro e w2 ⟨rfl, hb2⟩; have HB2 : Hid (Below (w.heap.size + 3) _ w2) := HB1.out.trans (hb2.mono (by omega)); clear x0 x1 x2 x3 x4 x5 x6 x7 x8; obtain ⟨x0, x1, x2, x3, x4, x5, x6, x7, x8⟩ := box3 HB2.out; clear hb2) |
          (go_at_call 119; refine (CM.out _ (HW.out HB2.out) hml).mono ?_; rintro e w3 ⟨rfl, rfl⟩) |
          (go_at_call 133; refine (CW.out _ (HW.out HB2.out) hm4).mono ?_; rintro e w5 ⟨c5, q5, rfl, hs5, hr5, ⟨ca5, cc5, rfl⟩, ⟨qa5, qc5, rfl⟩, hb5⟩; have HS5 : Hid (StrsKept w5 (w3.heap.size + 1) w5.heap.size (Value.slice qa5 0 qc5).ownBlock (.slice ca5 n cc5) n C) := hs5; have HR5 : Hid (RowsOwn w5 (w3.heap.size + 1) (.slice qa5 0 qc5) 0 (unR R R' m)) := hr5; have HB5 : Hid (Below (w.heap.size + 3) _ w5) := (HB2.out.alloc (by omega) _).trans (hb5.mono (by omega)); have hz5 : w3.heap.size + 1 ≤ w5.heap.size := (by have := hb5.size; simpa using this); clear x0 x1 x2 x3 x4 x5 x6 x7; obtain ⟨x0, x1, x2, x3, x4, x5, x6, x7, x9⟩ := box3 HB5.out; have x10 : w.heap.size < w5.heap.size := (by omega); have x11 : w.heap.size + 1 < w5.heap.size := (by omega); clear hs5 hr5 hb5))
        have hBT : w3.heap.size + 1 ≤ w5.heap.size := hz5
        have HR0 : Hid (RowsTwo (w5.alloc (.cells #[.slice ca5 n cc5, .slice qa5 0 qc5] 40)) (w3.heap.size + 1) w5.heap.size (.slice qa5 0 qc5) 0 (unR R R' m)) := (RowsTwo.start HR5.out (Nat.le_refl _)).alloc hz5 _
        have HK0 : Hid (StrsKept (w5.alloc (.cells #[.slice ca5 n cc5, .slice qa5 0 qc5] 40)) (w3.heap.size + 1) w5.heap.size (Value.slice qa5 0 qc5).ownBlock (.slice ca5 n cc5) n C) := HS5.out.below ((Below.refl _ _).alloc (Nat.le_refl _) _)
        go_loopw [53] (fun i wr => ∃ (k : Nat) (rv : Value), k ≤ 2 ∧ i = .int .i64 k ∧ wr.cell? ⟨w5.heap.size, 0, none⟩ = some (.slice ca5 n cc5) ∧ wr.cell? ⟨w5.heap.size, 1, none⟩ = some rv ∧ wr.frozen? ⟨w5.heap.size, 1, none⟩ = false ∧ RowsTwo wr (w3.heap.size + 1) w5.heap.size rv (cntU m m' k) (unR R R' m) ∧ StrsKept wr (w3.heap.size + 1) w5.heap.size rv.ownBlock (.slice ca5 n cc5) n C ∧ Below (w.heap.size + 3) (((w.alloc (.cells #[.slice ca n ccap, .slice qa m qcap] 40)).alloc (.cells #[.slice ca' n' ccap', .slice qa' m' qcap'] 40)).alloc (.cells #[.slice none 0 0, .slice none 0 0] 40)) wr ∧ w5.heap.size < wr.heap.size) (fun i _ => 2 - (intOf i).toNat)
        case atStart => exact ⟨0, .slice qa5 0 qc5, by omega, rfl, by simp, by simp, by simp, HR0.out, HK0.out, HB5.out.alloc (by omega) _, by simp⟩
        case round =>
          obtain ⟨k, rv, hk, rfl, t0, t1, tf, hrow, hkept, hbr, hTz⟩ := hrel
          clear x0 x1 x2 x3 x4 x5 x6 x7 x9
          obtain ⟨x0, x1, x2, x3, x4, x5, x6, x7, x9⟩ := box3 hbr
          have HROW0 : Hid (RowsTwo wr (w3.heap.size + 1) w5.heap.size rv (cntU m m' k) (unR R R' m)) := hrow
          have HKEPT : Hid (StrsKept wr (w3.heap.size + 1) w5.heap.size rv.ownBlock (.slice ca5 n cc5) n C) := hkept
          have HBB : Hid (Below (w.heap.size + 3) (((w.alloc (.cells #[.slice ca n ccap, .slice qa m qcap] 40)).alloc (.cells #[.slice ca' n' ccap', .slice qa' m' qcap'] 40)).alloc (.cells #[.slice none 0 0, .slice none 0 0] 40)) wr) := hbr
          clear hrow hkept hbr
          obtain rfl | rfl | rfl : k = 0 ∨ k = 1 ∨ k = 2 := by omega
          · have HROW : Hid (RowsTwo wr (w3.heap.size + 1) w5.heap.size rv 0 (unR R R' m)) := HROW0.out
            clear HROW0
            rw [show ((0 : Nat) : Int) = 0 from rfl]
            have hix0 := fun W => index0 qa qa' m m' qcap qcap' W
            have hix1 := fun W => index1 qa qa' m m' qcap qcap' W
            go_wp2
            clear hix0 hix1
            go_loopw [58] (fun i wr => ∃ (j : Nat) (rv : Value), j ≤ m ∧ i = .int .i64 j ∧ wr.cell? ⟨w5.heap.size, 0, none⟩ = some (.slice ca5 n cc5) ∧ wr.cell? ⟨w5.heap.size, 1, none⟩ = some rv ∧ wr.frozen? ⟨w5.heap.size, 1, none⟩ = false ∧ RowsTwo wr (w3.heap.size + 1) w5.heap.size rv j (unR R R' m) ∧ StrsKept wr (w3.heap.size + 1) w5.heap.size rv.ownBlock (.slice ca5 n cc5) n C ∧ Below (w.heap.size + 3) (((w.alloc (.cells #[.slice ca n ccap, .slice qa m qcap] 40)).alloc (.cells #[.slice ca' n' ccap', .slice qa' m' qcap'] 40)).alloc (.cells #[.slice none 0 0, .slice none 0 0] 40)) wr ∧ w5.heap.size < wr.heap.size) (fun i _ => m - (intOf i).toNat)
            case atStart => exact ⟨0, _, Nat.zero_le _, rfl, t0, t1, tf, HROW.out, HKEPT.out, HBB.out, hTz⟩
            case round =>
              obtain ⟨j, rv, hj, rfl, t0, t1, tf, hrow, hkept, hbr, hTz⟩ := hrel
              obtain ⟨ra, rc, rfl⟩ := hrow.shape
              have HROW : Hid (RowsTwo wr (w3.heap.size + 1) w5.heap.size (.slice ra j rc) j (unR R R' m)) := hrow
              have HKEPT : Hid (StrsKept wr (w3.heap.size + 1) w5.heap.size (Value.slice ra j rc).ownBlock (.slice ca5 n cc5) n C) := hkept
              have HBB : Hid (Below (w.heap.size + 3) (((w.alloc (.cells #[.slice ca n ccap, .slice qa m qcap] 40)).alloc (.cells #[.slice ca' n' ccap', .slice qa' m' qcap'] 40)).alloc (.cells #[.slice none 0 0, .slice none 0 0] 40)) wr) := hbr
              clear hrow hkept hbr
              by_cases hjl : j < m
              · obtain ⟨b, off, u, rfl, hb0, e1, hu, hu32⟩ := HQ.out wr j (HW.out HBB.out) hjl
                have hbz : b < wr.heap.size := by omega
                have hji : (j : Int) < (m : Int) := by omega
                have HU : Hid (ItsIs wr u (unR R R' m j).len (unR R R' m j).at_) := hu
                obtain ⟨ua, ucap, rfl, _⟩ := HU.out
                have hu32' : (unR R R' m j).len * 32 ≤ 140737488351232 := hu32
                clear hu hu32
                go_upto_region 17 with fail
                go_region_law (first
                  | (refine step_call rfl 142 #[.slice (some ⟨wr.heap.size, 0, none⟩) 1 1] (by simp [go_sem]) (fun v w' => ItsApart w' _ none v (unR R R' m j).len (unR R R' m j).at_ ∧ (∃ a' c', v = .slice a' (unR R R' m j).len c') ∧ Below _ _ w') (concatI_one wr.heap.size 0 1 (.slice ua (unR R R' m j).len ucap) _ _ _ (Nat.le_refl _) (by unfold maxLen; omega) (by simp) (by simp) (by exact (HU.out.alloc _).heap rfl) hu32') ?_; rintro v6 w6 ⟨hi6, ⟨va6, vc6, rfl⟩, hb6⟩; obtain ⟨y1, y2, y3⟩ := made_facts (wr := wr) hi6 hb6 (below_heap ((Below.refl _ _).alloc (Nat.le_refl _) _) rfl rfl rfl rfl) HROW.out hz5 hTz; have HI6 : Hid (ItsApart w6 (w5.heap.size + 1) (Value.slice ra j rc).ownBlock (.slice va6 (unR R R' m j).len vc6) (unR R R' m j).len (unR R R' m j).at_) := y1; have HB6 : Hid (Below wr.heap.size wr w6) := y2; have HR6 : Hid (RowsTwo w6 (w3.heap.size + 1) w5.heap.size (.slice ra j rc) j (unR R R' m)) := y3; have y4 : w5.heap.size < w6.heap.size := Nat.lt_of_lt_of_le hTz y2.size; have y5 : w6.cell? ⟨w5.heap.size, 1, none⟩ = some (.slice ra j rc) := (y2.cell (p := ⟨w5.heap.size, 1, none⟩) hTz).trans t1; clear hi6 hb6 y1 y2 y3)
                  | (refine step_push_two rfl (.tmp 63) (.tmp 67) rfl (w3.heap.size + 1) w5.heap.size j (.slice ra j rc) (unR R R' m) (by simp [Act.eval]) (by exact (HR6.out.alloc hz5 _).heap rfl hz5) hz5 (by simp; omega) ⟨w6.heap.size, 0, none⟩ 1 (.slice va6 (unR R R' m j).len vc6) (by simp [Act.eval]) (by simp) (by exact (HI6.out.alloc _).heap rfl) (by omega) ?_; intro v7 w7 hr7 hsh7 hg7 hat7; obtain ⟨va7, vc7, rfl⟩ := hsh7; have hal := alloc_below (w6 := w6) hg7 rfl rfl rfl rfl; obtain ⟨z1, z2, z3⟩ := put_facts (wr := w6) hg7 hal HR6.out hz5 y4; have HR7 : Hid (RowsTwo w7 (w3.heap.size + 1) w5.heap.size (.slice va7 (j + 1) vc7) (j + 1) (unR R R' m)) := hr7; have HK7 : Hid (StrsKept w7 (w3.heap.size + 1) w5.heap.size (Value.slice va7 (j + 1) vc7).ownBlock (.slice ca5 n cc5) n C) := kept_push (HKEPT.out.below HB6.out) hg7 hat7 hal; have HB7 : Hid (Below (w.heap.size + 3) _ w7) := (HBB.out.trans (HB6.out.mono (by omega))).trans (z3.mono (by omega)); have s0 : w7.cell? ⟨w5.heap.size, 0, none⟩ = some (.slice ca5 n cc5) := (World.cell?_of_block (a := ⟨w5.heap.size, 0, none⟩) z1).trans ((HB6.out.cell (p := ⟨w5.heap.size, 0, none⟩) hTz).trans t0); have s1 : w7.cell? ⟨w5.heap.size, 1, none⟩ = some (.slice ra j rc) := (World.cell?_of_block (a := ⟨w5.heap.size, 1, none⟩) z1).trans y5; have sf : w7.frozen? ⟨w5.heap.size, 1, none⟩ = false := (World.frozen?_of_block (a := ⟨w5.heap.size, 1, none⟩) z1).trans ((HB6.out.frozen (p := ⟨w5.heap.size, 1, none⟩) hTz).trans tf); have hz7 : w5.heap.size < w7.heap.size := Nat.lt_of_lt_of_le y4 z2; clear hr7 hg7 hat7 hal z1 z2 z3))
                all_goals
                  go_wp2_with fail
                  go_roundw
                  case rel => exact ⟨j + 1, .slice va7 (j + 1) vc7, by omega, by go_num, by simp [go_sem, s0], by simp [go_sem, s1], by simp [go_sem, sf], HR7.out.setCell hz5 (.inl rfl) _, HK7.out.setCell (.inl rfl) _, HB7.out.setCell (by simp; omega) _, by simp; omega⟩
                  case measure => simp [intOf]; omega
              · have e : j = m := by omega
                subst e
                go_wp2
                go_roundw
                case rel => exact ⟨1, _, by omega, by go_num, t0, t1, tf, by simpa [cntU] using HROW.out, HKEPT.out, HBB.out, hTz⟩
                case measure => simp [intOf]

          · have HROW : Hid (RowsTwo wr (w3.heap.size + 1) w5.heap.size rv (m + 0) (unR R R' m)) := HROW0.out
            clear HROW0
            rw [show ((1 : Nat) : Int) = 1 from rfl]
            have hix0 := fun W => index0 qa qa' m m' qcap qcap' W
            have hix1 := fun W => index1 qa qa' m m' qcap qcap' W
            go_wp2
            clear hix0 hix1
            go_loopw [58] (fun i wr => ∃ (j : Nat) (rv : Value), j ≤ m' ∧ i = .int .i64 j ∧ wr.cell? ⟨w5.heap.size, 0, none⟩ = some (.slice ca5 n cc5) ∧ wr.cell? ⟨w5.heap.size, 1, none⟩ = some rv ∧ wr.frozen? ⟨w5.heap.size, 1, none⟩ = false ∧ RowsTwo wr (w3.heap.size + 1) w5.heap.size rv (m + j) (unR R R' m) ∧ StrsKept wr (w3.heap.size + 1) w5.heap.size rv.ownBlock (.slice ca5 n cc5) n C ∧ Below (w.heap.size + 3) (((w.alloc (.cells #[.slice ca n ccap, .slice qa m qcap] 40)).alloc (.cells #[.slice ca' n' ccap', .slice qa' m' qcap'] 40)).alloc (.cells #[.slice none 0 0, .slice none 0 0] 40)) wr ∧ w5.heap.size < wr.heap.size) (fun i _ => m' - (intOf i).toNat)
            case atStart => exact ⟨0, _, Nat.zero_le _, rfl, t0, t1, tf, HROW.out, HKEPT.out, HBB.out, hTz⟩
            case round =>
              obtain ⟨j, rv, hj, rfl, t0, t1, tf, hrow, hkept, hbr, hTz⟩ := hrel
              obtain ⟨ra, rc, rfl⟩ := hrow.shape
              have HROW : Hid (RowsTwo wr (w3.heap.size + 1) w5.heap.size (.slice ra (m + j) rc) (m + j) (unR R R' m)) := hrow
              have HKEPT : Hid (StrsKept wr (w3.heap.size + 1) w5.heap.size (Value.slice ra (m + j) rc).ownBlock (.slice ca5 n cc5) n C) := hkept
              have HBB : Hid (Below (w.heap.size + 3) (((w.alloc (.cells #[.slice ca n ccap, .slice qa m qcap] 40)).alloc (.cells #[.slice ca' n' ccap', .slice qa' m' qcap'] 40)).alloc (.cells #[.slice none 0 0, .slice none 0 0] 40)) wr) := hbr
              clear hrow hkept hbr
              by_cases hjl : j < m'
              · obtain ⟨b, off, u, rfl, hb0, e1, hu, hu32⟩ := HQ'.out wr j (HW.out HBB.out) hjl
                have hbz : b < wr.heap.size := by omega
                have hji : (j : Int) < (m' : Int) := by omega
                have HU : Hid (ItsIs wr u (unR R R' m (m + j)).len (unR R R' m (m + j)).at_) := hu
                obtain ⟨ua, ucap, rfl, _⟩ := HU.out
                have hu32' : (unR R R' m (m + j)).len * 32 ≤ 140737488351232 := hu32
                clear hu hu32
                go_upto_region 17 with fail
                go_region_law (first
                  | (refine step_call rfl 142 #[.slice (some ⟨wr.heap.size, 0, none⟩) 1 1] (by simp [go_sem]) (fun v w' => ItsApart w' _ none v (unR R R' m (m + j)).len (unR R R' m (m + j)).at_ ∧ (∃ a' c', v = .slice a' (unR R R' m (m + j)).len c') ∧ Below _ _ w') (concatI_one wr.heap.size 0 1 (.slice ua (unR R R' m (m + j)).len ucap) _ _ _ (Nat.le_refl _) (by unfold maxLen; omega) (by simp) (by simp) (by exact (HU.out.alloc _).heap rfl) hu32') ?_; rintro v6 w6 ⟨hi6, ⟨va6, vc6, rfl⟩, hb6⟩; obtain ⟨y1, y2, y3⟩ := made_facts (wr := wr) hi6 hb6 (below_heap ((Below.refl _ _).alloc (Nat.le_refl _) _) rfl rfl rfl rfl) HROW.out hz5 hTz; have HI6 : Hid (ItsApart w6 (w5.heap.size + 1) (Value.slice ra (m + j) rc).ownBlock (.slice va6 (unR R R' m (m + j)).len vc6) (unR R R' m (m + j)).len (unR R R' m (m + j)).at_) := y1; have HB6 : Hid (Below wr.heap.size wr w6) := y2; have HR6 : Hid (RowsTwo w6 (w3.heap.size + 1) w5.heap.size (.slice ra (m + j) rc) (m + j) (unR R R' m)) := y3; have y4 : w5.heap.size < w6.heap.size := Nat.lt_of_lt_of_le hTz y2.size; have y5 : w6.cell? ⟨w5.heap.size, 1, none⟩ = some (.slice ra (m + j) rc) := (y2.cell (p := ⟨w5.heap.size, 1, none⟩) hTz).trans t1; clear hi6 hb6 y1 y2 y3)
                  | (refine step_push_two rfl (.tmp 63) (.tmp 67) rfl (w3.heap.size + 1) w5.heap.size (m + j) (.slice ra (m + j) rc) (unR R R' m) (by simp [Act.eval]) (by exact (HR6.out.alloc hz5 _).heap rfl hz5) hz5 (by simp; omega) ⟨w6.heap.size, 0, none⟩ 1 (.slice va6 (unR R R' m (m + j)).len vc6) (by simp [Act.eval]) (by simp) (by exact (HI6.out.alloc _).heap rfl) (by omega) ?_; intro v7 w7 hr7 hsh7 hg7 hat7; obtain ⟨va7, vc7, rfl⟩ := hsh7; have hal := alloc_below (w6 := w6) hg7 rfl rfl rfl rfl; obtain ⟨z1, z2, z3⟩ := put_facts (wr := w6) hg7 hal HR6.out hz5 y4; have HR7 : Hid (RowsTwo w7 (w3.heap.size + 1) w5.heap.size (.slice va7 ((m + j) + 1) vc7) ((m + j) + 1) (unR R R' m)) := hr7; have HK7 : Hid (StrsKept w7 (w3.heap.size + 1) w5.heap.size (Value.slice va7 ((m + j) + 1) vc7).ownBlock (.slice ca5 n cc5) n C) := kept_push (HKEPT.out.below HB6.out) hg7 hat7 hal; have HB7 : Hid (Below (w.heap.size + 3) _ w7) := (HBB.out.trans (HB6.out.mono (by omega))).trans (z3.mono (by omega)); have s0 : w7.cell? ⟨w5.heap.size, 0, none⟩ = some (.slice ca5 n cc5) := (World.cell?_of_block (a := ⟨w5.heap.size, 0, none⟩) z1).trans ((HB6.out.cell (p := ⟨w5.heap.size, 0, none⟩) hTz).trans t0); have s1 : w7.cell? ⟨w5.heap.size, 1, none⟩ = some (.slice ra (m + j) rc) := (World.cell?_of_block (a := ⟨w5.heap.size, 1, none⟩) z1).trans y5; have sf : w7.frozen? ⟨w5.heap.size, 1, none⟩ = false := (World.frozen?_of_block (a := ⟨w5.heap.size, 1, none⟩) z1).trans ((HB6.out.frozen (p := ⟨w5.heap.size, 1, none⟩) hTz).trans tf); have hz7 : w5.heap.size < w7.heap.size := Nat.lt_of_lt_of_le y4 z2; clear hr7 hg7 hat7 hal z1 z2 z3))
                all_goals
                  go_wp2_with fail
                  go_roundw
                  case rel => exact ⟨j + 1, .slice va7 ((m + j) + 1) vc7, by omega, by go_num, by simp [go_sem, s0], by simp [go_sem, s1], by simp [go_sem, sf], HR7.out.setCell hz5 (.inl rfl) _, HK7.out.setCell (.inl rfl) _, HB7.out.setCell (by simp; omega) _, by simp; omega⟩
                  case measure => simp [intOf]; omega
              · have e : j = m' := by omega
                subst e
                go_wp2
                go_roundw
                case rel => exact ⟨2, _, by omega, by go_num, t0, t1, tf, by simpa [cntU] using HROW.out, HKEPT.out, HBB.out, hTz⟩
                case measure => simp [intOf]

          · obtain ⟨ra, rc, rfl⟩ := HROW0.out.shape
            have HROW : Hid (RowsTwo wr (w3.heap.size + 1) w5.heap.size (.slice ra (m + m') rc) (m + m') (unR R R' m)) := HROW0.out
            go_wp2
            refine bodyPost_ret (v := .tuple #[.agg #[.slice ca5 n cc5, .slice ra (m + m') rc], .int .i64 0]) (by simp [results, Tryz.results103, go_sem, x4, x5, cntU]) rfl ⟨_, _, by rw [HF0.out], ?_, (((HW.out HBB.out)).setCell (by simp; omega) _).setCell (by simp; omega) _⟩
            rw [HF0.out]; exact FreshRel.of ((HKEPT.out.setCell (.inr (by simp; omega)) _).setCell (.inr (by simp; omega)) _) ((HROW.out.setCell hz5 (.inr (by simp; omega)) _).setCell hz5 (.inr (by simp; omega)) _) (by omega) hz5
      · have HNZ : Hid (¬ madeF C n (m + m') = 0) := hF0
        have h1 : (madeF C n (m + m') != 0) = true := by simpa using hF0
        clear hF0
        generalize madeF C n (m + m') = M at *
        go_enter Tryz.func103, Tryz.ntmps103
        go_wp2_with (first | (go_at_call 137; refine (C1.out _ _ _).mono ?_; rintro e w1 ⟨rfl, hb1⟩; have HB1 : Hid (Below (w.heap.size + 3) _ w1) := hb1; obtain ⟨x0, x1, x2, x3, x4, x5, x6, x7, x8⟩ := box3 hb1; clear hb1) |
          (go_at_call 141; refine (CE.out _ (HW.out HB1.out)).mono ?_; rintro e w2 ⟨rfl, hb2⟩; have HB2 : Hid (Below (w.heap.size + 3) _ w2) := HB1.out.trans (hb2.mono (by omega)); clear x0 x1 x2 x3 x4 x5 x6 x7 x8; obtain ⟨x0, x1, x2, x3, x4, x5, x6, x7, x8⟩ := box3 HB2.out; clear hb2) |
          (go_at_call 119; refine (CM.out _ (HW.out HB2.out) hml).mono ?_; rintro e w3 ⟨rfl, rfl⟩))
        refine bodyPost_ret (v := .tuple #[.agg #[.slice none 0 0, .slice none 0 0], .int .i64 M]) (by simp [results, Tryz.results103, go_sem, x4, x5]) rfl ⟨_, _, by rw [HFF.out], ?_, (((HW.out HB2.out)).setCell (by simp; omega) _).setCell (by simp; omega) _⟩
        rw [HFF.out, show okN M n = 0 from if_neg HNZ.out, show okN M (m + m') = 0 from if_neg HNZ.out]; exact FreshRel.nil _ _ _ _
  · have HFF : Hid (unF C n R m C' n' R' m' = twoF (relF C n R m) (relF C' n' R' m')) := if_neg h0
    have HNZ : Hid (¬ twoF (relF C n R m) (relF C' n' R' m') = 0) := h0
    have h1 : (twoF (relF C n R m) (relF C' n' R' m') != 0) = true := by simpa using h0
    clear h0
    generalize unF C n R m C' n' R' m' = F at *
    generalize twoF (relF C n R m) (relF C' n' R' m') = G at *
    go_enter Tryz.func103, Tryz.ntmps103
    go_wp2_with (first | (go_at_call 137; refine (C1.out _ _ _).mono ?_; rintro e w1 ⟨rfl, hb1⟩; have HB1 : Hid (Below (w.heap.size + 3) _ w1) := hb1; obtain ⟨x0, x1, x2, x3, x4, x5, x6, x7, x8⟩ := box3 hb1; clear hb1))
    refine bodyPost_ret (v := .tuple #[.agg #[.slice none 0 0, .slice none 0 0], .int .i64 G]) (by simp [results, Tryz.results103, go_sem, x4, x5]) rfl ⟨_, _, by rw [HFF.out], ?_, (((HW.out HB1.out)).setCell (by simp; omega) _).setCell (by simp; omega) _⟩
    rw [HFF.out, show okN G n = 0 from if_neg HNZ.out, show okN G (m + m') = 0 from if_neg HNZ.out]; exact FreshRel.nil _ _ _ _
end Go.Proofs.YtkcejelmohameaaGreatDoor
