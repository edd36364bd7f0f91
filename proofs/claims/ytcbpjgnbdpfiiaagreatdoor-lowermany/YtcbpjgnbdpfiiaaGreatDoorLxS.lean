/-
  THE LAW LowerMany.
-/
import Derived.Test.YtcbpjgnbdpfiiaaGreatDoorLxK
import Derived.Test.YtcbpjgnbdpfiiaaGreatDoorLxQ
set_option linter.unusedVariables false
namespace Go.Proofs.YtcbpjgnbdpfiiaaGreatDoor
set_option maxRecDepth 100000
open Go.RowKit Go.WideShapes

set_option maxHeartbeats 6400000 in
theorem lawLowerMany_loop (n : Int) (w : World) (hn : -9223372036854775808 ≤ n ∧ n ≤ 9223372036854775807) (CR0 : ∀ (W : World) (s : ByteArray) (c : Nat), c ≤ 9 → s.size ≤ 100 → Calls Tryz.prog 8 #[.string s, .int .i64 c] W fun e w' => e = .returned (.string ⟨(Lib.repeatL s.data.toList c).toArray⟩) ∧ Below W.heap.size W w')
    (HLoop : ∀ (k : Nat), 1 ≤ k → k ≤ 9 → ∀ (v : List Value) (w : World) (lo : Nat), Tre w lo (loopP k) v → Tabs w → Calls Tryz.prog 10 #[.agg v.toArray] w fun e w' => ∃ x, ExV x ∧ e = .returned (.tuple #[x, .int .i64 (manyC k)]) ∧ Below w.heap.size w w')
    (hot : Tab3 w) (hT : Tabs w) (hm : MaxL w) (hM : MarkTab w) (hg : 0 < w.heap.size) :
    Calls Tryz.prog 4 #[.int .i64 n, .bool false] w fun e w' => e = .returned (.bool true) ∧ Below w.heap.size w w' := by
  obtain ⟨i, hi, hi9⟩ := pk_natL (n := n) (m := 9) (by omega)
  have CK : Hid (∀ W, Calls Tryz.prog 5 #[.int .i64 n, .int .i64 9] W fun e w' => e = .returned (.int .i64 i) ∧ W = w') := fun W => (picked_is n 9 W hn (by omega) (by omega)).mono fun e w' ⟨k1, k2⟩ => ⟨by rw [k1]; exact ret_int hi, k2.symm⟩
  obtain ⟨k, hk⟩ : ∃ k : Nat, k = i + 1 := ⟨_, rfl⟩
  have hk1 : 1 ≤ k := by omega
  have hk9 : k ≤ 9 := by omega
  have hwr : IntKind.i64.wrap (1 + (i : Int)) = (k : Int) := by rw [IntWalk.i64_in _ (by omega)]; omega
  obtain ⟨zf, hzf⟩ : ∃ z : ByteArray, z = ⟨(Lib.repeatL [102, 111, 114, 32, 36, 120, 32, 105, 110, 32, 49, 32, 114, 101, 116, 117, 114, 110, 32] k).toArray⟩ := ⟨_, rfl⟩
  obtain ⟨zt, hzt⟩ : ∃ z : ByteArray, z = ⟨(Lib.repeatL [116, 101, 120, 116, 32, 123, 32] k).toArray⟩ := ⟨_, rfl⟩
  obtain ⟨ze, hze⟩ : ∃ z : ByteArray, z = ⟨(Lib.repeatL [32, 125] k).toArray⟩ := ⟨_, rfl⟩
  have dzf : zf.data.toList = Lib.repeatL [102, 111, 114, 32, 36, 120, 32, 105, 110, 32, 49, 32, 114, 101, 116, 117, 114, 110, 32] k := by rw [hzf]
  have dzt : zt.data.toList = Lib.repeatL [116, 101, 120, 116, 32, 123, 32] k := by rw [hzt]
  have dze : ze.data.toList = Lib.repeatL [32, 125] k := by rw [hze]
  have CF : Hid (∀ W, Calls Tryz.prog 8 #[.string ⟨#[102, 111, 114, 32, 36, 120, 32, 105, 110, 32, 49, 32, 114, 101, 116, 117, 114, 110, 32]⟩, .int .i64 k] W fun e w' => e = .returned (.string zf) ∧ Below W.heap.size W w') := fun W => by rw [hzf]; exact CR0 W ⟨#[102, 111, 114, 32, 36, 120, 32, 105, 110, 32, 49, 32, 114, 101, 116, 117, 114, 110, 32]⟩ k hk9 (by decide)
  have CT : Hid (∀ W, Calls Tryz.prog 8 #[.string ⟨#[116, 101, 120, 116, 32, 123, 32]⟩, .int .i64 k] W fun e w' => e = .returned (.string zt) ∧ Below W.heap.size W w') := fun W => by rw [hzt]; exact CR0 W ⟨#[116, 101, 120, 116, 32, 123, 32]⟩ k hk9 (by decide)
  have CE : Hid (∀ W, Calls Tryz.prog 8 #[.string ⟨#[32, 125]⟩, .int .i64 k] W fun e w' => e = .returned (.string ze) ∧ Below W.heap.size W w') := fun W => by rw [hze]; exact CR0 W ⟨#[32, 125]⟩ k hk9 (by decide)
  have hl1 := (loop_good k hk1 hk9).2.2.2
  have hl2 := (text_good k hk1 hk9).2.2.2
  have ef : zf.data.toList.length = zf.size := rfl
  have et : zt.data.toList.length = zt.size := rfl
  have ee : ze.data.toList.length = ze.size := rfl
  have hs1 : zf.size + 1 ≤ 1000 := by
    unfold loopX at hl1
    rw [← dzf, List.length_append, ef] at hl1
    exact hl1
  have hs2 : zt.size + 1 + ze.size ≤ 1000 := by
    unfold textX at hl2
    rw [← dzt, ← dze, List.length_append, List.length_append, et, ee] at hl2
    exact hl2
  have hq1 : ¬ 9223372036854775807 < zf.size + 1 := by omega
  have hq2 : ¬ 9223372036854775807 < zt.size + 1 := by omega
  have hq3 : ¬ 9223372036854775807 < zt.size + 1 + ze.size := by omega
  have CC : Hid (∀ W, Below w.heap.size w W → Calls Tryz.prog 6 #[.string (zf ++ ⟨#[50]⟩)] W fun e w' => ∃ b c, e = .returned (.tuple #[.slice (some ⟨b, 0, none⟩) (loopK k).length c, .int .i64 0, .int .i64 0]) ∧ Below w.heap.size w w' ∧ b < w'.heap.size ∧ ToksL w' b (loopK k)) := fun W hb => by
    obtain ⟨q, hq⟩ : ∃ q : ByteArray, q = zf ++ ⟨#[50]⟩ := ⟨_, rfl⟩
    have hqd : q.data.toList = loopX k := by rw [hq, data_appC, dzf]; rfl
    have hqs : q.size ≤ 1000 := by
      have e : q.data.toList.length = q.size := rfl
      rw [← e, hqd]
      exact (loop_good k hk1 hk9).2.2.2
    have h := cut_is q W (by unfold maxLen; omega) (Utf8Tabs_below hT hb) (hm.below hb) (hM.below hb hg) (Nat.lt_of_lt_of_le hg hb.size)
    obtain ⟨d1, d2, d3⟩ := loop_cut k hk1 hk9
    rw [← hq]
    rw [hqd, d1, d2, d3] at h
    refine h.mono fun e w' ⟨v, k1, k2, k3⟩ => ?_
    obtain ⟨b, c, rfl, hbl, htl⟩ := k2.liesM (loop_good k hk1 hk9).2.2.1
    exact ⟨b, c, k1, hb.trans (k3.mono hb.size), hbl, htl⟩
  have CP : Hid (∀ W b c, Below w.heap.size w W → b < W.heap.size → ToksL W b (loopK k) → Calls Tryz.prog 9 #[.slice (some ⟨b, 0, none⟩) (loopK k).length c] W fun e w' => ∃ v, Tre w' 0 (loopP k) v ∧ e = .returned (.tuple #[.agg v.toArray, .int .i64 0, .int .i64 0]) ∧ Below w.heap.size w w') := fun W b c hl hb ht =>
    (parse_loop k hk1 hk9 b c W hb ht (hot.below hl) (Utf8Tabs_below hT hl) (hM.below hl hg) (Nat.lt_of_lt_of_le hg hl.size)).mono fun e w' ⟨v, k1, k2, k3⟩ => ⟨v, k1.mono (Nat.zero_le _), k2, hl.trans (k3.mono hl.size)⟩
  obtain ⟨R, hR⟩ : ∃ R : Int, R = manyC k := ⟨_, rfl⟩
  have CL : Hid (∀ W v, Below w.heap.size w W → Tre W 0 (loopP k) v → Calls Tryz.prog 10 #[.agg v.toArray] W fun e w' => ∃ x, ExV x ∧ e = .returned (.tuple #[x, .int .i64 R]) ∧ Below w.heap.size w w') := fun W v hl hv => by
    rw [hR]
    exact (HLoop k hk1 hk9 v W 0 hv (Utf8Tabs_below hT hl)).mono fun e w' ⟨x, k1, k2, k3⟩ => ⟨x, k1, k2, hl.trans (k3.mono hl.size)⟩
  have HRR : Hid (R = if k ≤ 6 then 0 else 1) := by rw [hR]; rfl
  obtain ⟨Q, hQ⟩ : ∃ Q, Q = loopP k := ⟨_, rfl⟩
  obtain ⟨T, hTT⟩ : ∃ T, T = loopK k := ⟨_, rfl⟩
  rw [← hTT] at CC CP
  rw [← hQ] at CP CL
  clear hi hk hzf hzt hze dzf dzt dze hl1 hl2 ef et ee hR hQ hTT hot hT hm hM hg hn CR0 HLoop
  go_enter Tryz.func4, Tryz.ntmps4
  go_upto_region 6 with (first
      | (go_at_call 5; refine (CK.out _).mono ?_; rintro e w1 ⟨rfl, rfl⟩; clear CK)
      | (go_at_call_has 8 (Value.string ⟨#[102, 111, 114, 32, 36, 120, 32, 105, 110, 32, 49, 32, 114, 101, 116, 117, 114, 110, 32]⟩); refine (CF.out _).mono ?_; rintro e w2 ⟨rfl, hb2⟩; have HB2 : Hid (Below w.heap.size w w2) := hb2; clear hb2 CF)
      | (go_at_call 6; refine (CC.out _ HB2.out).mono ?_; rintro e w5 ⟨b, c, rfl, hk5, hb5, ht5⟩; have HB5 : Hid (Below w.heap.size w w5) := hk5; have HH5 := HidOf hb5; have HT5 : Hid (ToksL w5 b T) := ht5; clear hk5 hb5 ht5 CC))
  go_upto_region 7 with (go_at_call 9; refine (CP.out _ _ _ HB5.out HH5.out HT5.out).mono ?_; rintro e w6 ⟨v6, hv6, rfl, hk6⟩; obtain ⟨k0, k1, k2, k5, k6, k7, s3, s4, s8, a9, a10, l9, c9, l10, c10, rfl⟩ := hv6.form; have HB6 : Hid (Below w.heap.size w w6) := hk6; have HV6 := HidOf hv6; clear hv6 hk6 CP)
  obtain ⟨W7, hW7⟩ : ∃ W, W = w6.alloc (.cells #[.int .i64 k0, .int .i64 k1, .int .i64 k2, .string s3, .string s4, .int .i64 k5, .int .i64 k6, .int .i64 k7, .string s8, .slice a9 l9 c9, .slice a10 l10 c10] 38) := ⟨_, rfl⟩
  have HB7 : Hid (Below w.heap.size w W7) := by rw [hW7]; exact HB6.out.alloc HB6.out.size _
  have HV7 : Hid (Tre W7 0 Q [.int .i64 k0, .int .i64 k1, .int .i64 k2, .string s3, .string s4, .int .i64 k5, .int .i64 k6, .int .i64 k7, .string s8, .slice a9 l9 c9, .slice a10 l10 c10]) := by rw [hW7]; exact HV6.out.allocI _
  have HP7 : Hid (W7.heap[w6.heap.size]? = some (.cells #[.int .i64 k0, .int .i64 k1, .int .i64 k2, .string s3, .string s4, .int .i64 k5, .int .i64 k6, .int .i64 k7, .string s8, .slice a9 l9 c9, .slice a10 l10 c10] 38)) := by rw [hW7]; exact heap_alloc_new _ _
  rw [← hW7]
  clear hW7
  obtain ⟨p0, p1, p2, p3, p4, p5, p6, p7, p8, p9, p10, _, _⟩ := bk11 HP7.out
  go_upto_region 8 with (go_at_call 10; refine (CL.out _ [.int .i64 k0, .int .i64 k1, .int .i64 k2, .string s3, .string s4, .int .i64 k5, .int .i64 k6, .int .i64 k7, .string s8, .slice a9 l9 c9, .slice a10 l10 c10] HB7.out HV7.out).mono ?_; rintro e w8 ⟨x, ⟨x0, x1, x2, x6, x7, x8, y3, y4, y5, y9, b10, l10', c10', rfl⟩, rfl, hk8⟩; have HB8 : Hid (Below w.heap.size w w8) := hk8; clear hk8 CL)
  clear p0 p1 p2 p3 p4 p5 p6 p7 p8 p9 p10
  obtain ⟨W9, hW9⟩ : ∃ W, W = w8.alloc (.cells #[.int .i64 x0, .int .i64 x1, .int .i64 x2, .string y3, .string y4, .string y5, .int .i64 x6, .int .i64 x7, .int .i64 x8, .string y9, .slice b10 l10' c10'] 43) := ⟨_, rfl⟩
  have HB9 : Hid (Below w.heap.size w W9) := by rw [hW9]; exact HB8.out.alloc HB8.out.size _
  rw [← hW9]
  clear hW9
  by_cases hk6' : k ≤ 6
  · have hr : R = 0 := by rw [HRR.out, if_pos hk6']
    subst hr
    have hle : (k : Int) ≤ 6 := by omega
    clear HRR
    go_wp2
    go_ret
    exact ⟨rfl, HB9.out⟩
  · have hr : R = 1 := by rw [HRR.out, if_neg hk6']
    subst hr
    have hle : ¬ (k : Int) ≤ 6 := by omega
    have hle2 : (6 : Int) < (k : Int) := by omega
    clear HRR
    go_wp2
    go_ret
    exact ⟨rfl, HB9.out⟩
set_option maxHeartbeats 6400000 in
theorem lawLowerMany_text (n : Int) (w : World) (hn : -9223372036854775808 ≤ n ∧ n ≤ 9223372036854775807) (CR0 : ∀ (W : World) (s : ByteArray) (c : Nat), c ≤ 9 → s.size ≤ 100 → Calls Tryz.prog 8 #[.string s, .int .i64 c] W fun e w' => e = .returned (.string ⟨(Lib.repeatL s.data.toList c).toArray⟩) ∧ Below W.heap.size W w')
    
    (hot : Tab3 w) (hT : Tabs w) (hm : MaxL w) (hM : MarkTab w) (hg : 0 < w.heap.size) :
    Calls Tryz.prog 4 #[.int .i64 n, .bool true] w fun e w' => e = .returned (.bool true) ∧ Below w.heap.size w w' := by
  obtain ⟨i, hi, hi9⟩ := pk_natL (n := n) (m := 9) (by omega)
  have CK : Hid (∀ W, Calls Tryz.prog 5 #[.int .i64 n, .int .i64 9] W fun e w' => e = .returned (.int .i64 i) ∧ W = w') := fun W => (picked_is n 9 W hn (by omega) (by omega)).mono fun e w' ⟨k1, k2⟩ => ⟨by rw [k1]; exact ret_int hi, k2.symm⟩
  obtain ⟨k, hk⟩ : ∃ k : Nat, k = i + 1 := ⟨_, rfl⟩
  have hk1 : 1 ≤ k := by omega
  have hk9 : k ≤ 9 := by omega
  have hwr : IntKind.i64.wrap (1 + (i : Int)) = (k : Int) := by rw [IntWalk.i64_in _ (by omega)]; omega
  obtain ⟨zf, hzf⟩ : ∃ z : ByteArray, z = ⟨(Lib.repeatL [102, 111, 114, 32, 36, 120, 32, 105, 110, 32, 49, 32, 114, 101, 116, 117, 114, 110, 32] k).toArray⟩ := ⟨_, rfl⟩
  obtain ⟨zt, hzt⟩ : ∃ z : ByteArray, z = ⟨(Lib.repeatL [116, 101, 120, 116, 32, 123, 32] k).toArray⟩ := ⟨_, rfl⟩
  obtain ⟨ze, hze⟩ : ∃ z : ByteArray, z = ⟨(Lib.repeatL [32, 125] k).toArray⟩ := ⟨_, rfl⟩
  have dzf : zf.data.toList = Lib.repeatL [102, 111, 114, 32, 36, 120, 32, 105, 110, 32, 49, 32, 114, 101, 116, 117, 114, 110, 32] k := by rw [hzf]
  have dzt : zt.data.toList = Lib.repeatL [116, 101, 120, 116, 32, 123, 32] k := by rw [hzt]
  have dze : ze.data.toList = Lib.repeatL [32, 125] k := by rw [hze]
  have CF : Hid (∀ W, Calls Tryz.prog 8 #[.string ⟨#[102, 111, 114, 32, 36, 120, 32, 105, 110, 32, 49, 32, 114, 101, 116, 117, 114, 110, 32]⟩, .int .i64 k] W fun e w' => e = .returned (.string zf) ∧ Below W.heap.size W w') := fun W => by rw [hzf]; exact CR0 W ⟨#[102, 111, 114, 32, 36, 120, 32, 105, 110, 32, 49, 32, 114, 101, 116, 117, 114, 110, 32]⟩ k hk9 (by decide)
  have CT : Hid (∀ W, Calls Tryz.prog 8 #[.string ⟨#[116, 101, 120, 116, 32, 123, 32]⟩, .int .i64 k] W fun e w' => e = .returned (.string zt) ∧ Below W.heap.size W w') := fun W => by rw [hzt]; exact CR0 W ⟨#[116, 101, 120, 116, 32, 123, 32]⟩ k hk9 (by decide)
  have CE : Hid (∀ W, Calls Tryz.prog 8 #[.string ⟨#[32, 125]⟩, .int .i64 k] W fun e w' => e = .returned (.string ze) ∧ Below W.heap.size W w') := fun W => by rw [hze]; exact CR0 W ⟨#[32, 125]⟩ k hk9 (by decide)
  have hl1 := (loop_good k hk1 hk9).2.2.2
  have hl2 := (text_good k hk1 hk9).2.2.2
  have ef : zf.data.toList.length = zf.size := rfl
  have et : zt.data.toList.length = zt.size := rfl
  have ee : ze.data.toList.length = ze.size := rfl
  have hs1 : zf.size + 1 ≤ 1000 := by
    unfold loopX at hl1
    rw [← dzf, List.length_append, ef] at hl1
    exact hl1
  have hs2 : zt.size + 1 + ze.size ≤ 1000 := by
    unfold textX at hl2
    rw [← dzt, ← dze, List.length_append, List.length_append, et, ee] at hl2
    exact hl2
  have hq1 : ¬ 9223372036854775807 < zf.size + 1 := by omega
  have hq2 : ¬ 9223372036854775807 < zt.size + 1 := by omega
  have hq3 : ¬ 9223372036854775807 < zt.size + 1 + ze.size := by omega
  have CC : Hid (∀ W, Below w.heap.size w W → Calls Tryz.prog 6 #[.string (zt ++ ⟨#[50]⟩ ++ ze)] W fun e w' => ∃ b c, e = .returned (.tuple #[.slice (some ⟨b, 0, none⟩) (textK k).length c, .int .i64 0, .int .i64 0]) ∧ Below w.heap.size w w' ∧ b < w'.heap.size ∧ ToksL w' b (textK k)) := fun W hb => by
    obtain ⟨q, hq⟩ : ∃ q : ByteArray, q = zt ++ ⟨#[50]⟩ ++ ze := ⟨_, rfl⟩
    have hqd : q.data.toList = textX k := by rw [hq, data_appC, data_appC, dzt, dze]; rfl
    have hqs : q.size ≤ 1000 := by
      have e : q.data.toList.length = q.size := rfl
      rw [← e, hqd]
      exact (text_good k hk1 hk9).2.2.2
    have h := cut_is q W (by unfold maxLen; omega) (Utf8Tabs_below hT hb) (hm.below hb) (hM.below hb hg) (Nat.lt_of_lt_of_le hg hb.size)
    obtain ⟨d1, d2, d3⟩ := text_cut k hk1 hk9
    rw [← hq]
    rw [hqd, d1, d2, d3] at h
    refine h.mono fun e w' ⟨v, k1, k2, k3⟩ => ?_
    obtain ⟨b, c, rfl, hbl, htl⟩ := k2.liesM (text_good k hk1 hk9).2.2.1
    exact ⟨b, c, k1, hb.trans (k3.mono hb.size), hbl, htl⟩
  have CP : Hid (∀ W b c, Below w.heap.size w W → b < W.heap.size → ToksL W b (textK k) → Calls Tryz.prog 9 #[.slice (some ⟨b, 0, none⟩) (textK k).length c] W fun e w' => ∃ v, Tre w' 0 (textP k) v ∧ e = .returned (.tuple #[.agg v.toArray, .int .i64 0, .int .i64 0]) ∧ Below w.heap.size w w') := fun W b c hl hb ht =>
    (parse_text k hk1 hk9 b c W hb ht (hot.below hl) (Utf8Tabs_below hT hl) (hM.below hl hg) (Nat.lt_of_lt_of_le hg hl.size)).mono fun e w' ⟨v, k1, k2, k3⟩ => ⟨v, k1.mono (Nat.zero_le _), k2, hl.trans (k3.mono hl.size)⟩
  obtain ⟨R, hR⟩ : ∃ R : Int, R = manyC k := ⟨_, rfl⟩
  have CL : Hid (∀ W v, Below w.heap.size w W → Tre W 0 (textP k) v → Calls Tryz.prog 10 #[.agg v.toArray] W fun e w' => ∃ x, ExV x ∧ e = .returned (.tuple #[x, .int .i64 R]) ∧ Below w.heap.size w w') := fun W v hl hv => by
    rw [hR]
    exact (text_low k hk1 hk9 v W 0 hv (Utf8Tabs_below hT hl)).mono fun e w' ⟨x, k1, k2, k3⟩ => ⟨x, k1, k2, hl.trans (k3.mono hl.size)⟩
  have HRR : Hid (R = if k ≤ 6 then 0 else 1) := by rw [hR]; rfl
  obtain ⟨Q, hQ⟩ : ∃ Q, Q = textP k := ⟨_, rfl⟩
  obtain ⟨T, hTT⟩ : ∃ T, T = textK k := ⟨_, rfl⟩
  rw [← hTT] at CC CP
  rw [← hQ] at CP CL
  clear hi hk hzf hzt hze dzf dzt dze hl1 hl2 ef et ee hR hQ hTT hot hT hm hM hg hn CR0
  go_enter Tryz.func4, Tryz.ntmps4
  go_upto_region 6 with (first
      | (go_at_call 5; refine (CK.out _).mono ?_; rintro e w1 ⟨rfl, rfl⟩; clear CK)
      | (go_at_call_has 8 (Value.string ⟨#[102, 111, 114, 32, 36, 120, 32, 105, 110, 32, 49, 32, 114, 101, 116, 117, 114, 110, 32]⟩); refine (CF.out _).mono ?_; rintro e w2 ⟨rfl, hb2⟩; have HB2 : Hid (Below w.heap.size w w2) := hb2; clear hb2 CF)
      | (go_at_call_has 8 (Value.string ⟨#[116, 101, 120, 116, 32, 123, 32]⟩); refine (CT.out _).mono ?_; rintro e w3 ⟨rfl, hb3⟩; have HB3 : Hid (Below w.heap.size w w3) := HB2.out.trans (hb3.mono HB2.out.size); clear hb3 CT)
      | (go_at_call_has 8 (Value.string ⟨#[32, 125]⟩); refine (CE.out _).mono ?_; rintro e w4 ⟨rfl, hb4⟩; have HB4 : Hid (Below w.heap.size w w4) := HB3.out.trans (hb4.mono HB3.out.size); clear hb4 CE)
      | (go_at_call 6; refine (CC.out _ HB4.out).mono ?_; rintro e w5 ⟨b, c, rfl, hk5, hb5, ht5⟩; have HB5 : Hid (Below w.heap.size w w5) := hk5; have HH5 := HidOf hb5; have HT5 : Hid (ToksL w5 b T) := ht5; clear hk5 hb5 ht5 CC))
  go_upto_region 7 with (go_at_call 9; refine (CP.out _ _ _ HB5.out HH5.out HT5.out).mono ?_; rintro e w6 ⟨v6, hv6, rfl, hk6⟩; obtain ⟨k0, k1, k2, k5, k6, k7, s3, s4, s8, a9, a10, l9, c9, l10, c10, rfl⟩ := hv6.form; have HB6 : Hid (Below w.heap.size w w6) := hk6; have HV6 := HidOf hv6; clear hv6 hk6 CP)
  obtain ⟨W7, hW7⟩ : ∃ W, W = w6.alloc (.cells #[.int .i64 k0, .int .i64 k1, .int .i64 k2, .string s3, .string s4, .int .i64 k5, .int .i64 k6, .int .i64 k7, .string s8, .slice a9 l9 c9, .slice a10 l10 c10] 38) := ⟨_, rfl⟩
  have HB7 : Hid (Below w.heap.size w W7) := by rw [hW7]; exact HB6.out.alloc HB6.out.size _
  have HV7 : Hid (Tre W7 0 Q [.int .i64 k0, .int .i64 k1, .int .i64 k2, .string s3, .string s4, .int .i64 k5, .int .i64 k6, .int .i64 k7, .string s8, .slice a9 l9 c9, .slice a10 l10 c10]) := by rw [hW7]; exact HV6.out.allocI _
  have HP7 : Hid (W7.heap[w6.heap.size]? = some (.cells #[.int .i64 k0, .int .i64 k1, .int .i64 k2, .string s3, .string s4, .int .i64 k5, .int .i64 k6, .int .i64 k7, .string s8, .slice a9 l9 c9, .slice a10 l10 c10] 38)) := by rw [hW7]; exact heap_alloc_new _ _
  rw [← hW7]
  clear hW7
  obtain ⟨p0, p1, p2, p3, p4, p5, p6, p7, p8, p9, p10, _, _⟩ := bk11 HP7.out
  go_upto_region 8 with (go_at_call 10; refine (CL.out _ [.int .i64 k0, .int .i64 k1, .int .i64 k2, .string s3, .string s4, .int .i64 k5, .int .i64 k6, .int .i64 k7, .string s8, .slice a9 l9 c9, .slice a10 l10 c10] HB7.out HV7.out).mono ?_; rintro e w8 ⟨x, ⟨x0, x1, x2, x6, x7, x8, y3, y4, y5, y9, b10, l10', c10', rfl⟩, rfl, hk8⟩; have HB8 : Hid (Below w.heap.size w w8) := hk8; clear hk8 CL)
  clear p0 p1 p2 p3 p4 p5 p6 p7 p8 p9 p10
  obtain ⟨W9, hW9⟩ : ∃ W, W = w8.alloc (.cells #[.int .i64 x0, .int .i64 x1, .int .i64 x2, .string y3, .string y4, .string y5, .int .i64 x6, .int .i64 x7, .int .i64 x8, .string y9, .slice b10 l10' c10'] 43) := ⟨_, rfl⟩
  have HB9 : Hid (Below w.heap.size w W9) := by rw [hW9]; exact HB8.out.alloc HB8.out.size _
  rw [← hW9]
  clear hW9
  by_cases hk6' : k ≤ 6
  · have hr : R = 0 := by rw [HRR.out, if_pos hk6']
    subst hr
    have hle : (k : Int) ≤ 6 := by omega
    clear HRR
    go_wp2
    go_ret
    exact ⟨rfl, HB9.out⟩
  · have hr : R = 1 := by rw [HRR.out, if_neg hk6']
    subst hr
    have hle : ¬ (k : Int) ≤ 6 := by omega
    have hle2 : (6 : Int) < (k : Int) := by omega
    clear HRR
    go_wp2
    go_ret
    exact ⟨rfl, HB9.out⟩
end Go.Proofs.YtcbpjgnbdpfiiaaGreatDoor
