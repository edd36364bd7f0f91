/-
  THE COLUMNS OF A PLAN (run.Columns).
-/
import Derived.Test.YtkcejelmohameaaGreatDoorRcLine
import Derived.Test.YtkcejelmohameaaGreatDoorRcOpen
import Derived.Deep.QuietTactic
import Derived.BigQuiet
import Derived.Deep.RegionHeld3
import Derived.Laws.EntriesVeiled
set_option linter.unusedVariables false
namespace Go.Proofs.YtkcejelmohameaaGreatDoor
set_option maxRecDepth 100000
open Go.RowKit Go.WideShapes

theorem planF_bad {P : Nat → Opm} {N i : Nat} (hN : N ≤ 200000) (hi : i < N) (hall : ∀ t, t < i → opF P t = 0) (h : ¬ opF P i = 0) : planF P N = opF P i := by
  unfold planF
  have hf := firstE_err hi hall h
  rw [if_neg (by omega), if_neg (by omega), if_neg (by rw [hf]; exact h), hf]
theorem planF_end {P : Nat → Opm} {N : Nat} (hN : N ≤ 200000) (h0 : 0 < N) (hall : ∀ t, t < N → opF P t = 0) : planF P N = if allT (colK P (N - 1)) piC = true then 0 else 9 := by
  unfold planF
  rw [if_neg (by omega), if_neg (by omega), if_pos (firstE_ok hall)]
theorem bad_lists {w : World} {K : Nat → Txts} {F : Int} {N : Nat} (hF : ¬ F = 0) : ListsIs w (.slice none 0 0) (okN F N) K := by
  unfold okN
  rw [if_neg hF]
  exact ListsIs.nil w K
set_option maxHeartbeats 3200000 in
theorem columns_many (v : Value) (N : Nat) (P : Nat → Opm) (w : World) (hv : PlanIs w v N P) (hN : 200000 < N) :
    Calls Tryz.prog 4 #[v] w fun e w' => ∃ u, e = .returned (.tuple #[u, .int .i64 (planF P N)]) ∧ ListsIs w' u (okN (planF P N) N) (colK P) ∧ Below w.heap.size w w' := by
  have hF : planF P N = 1 := by unfold planF; rw [if_pos hN]
  rw [hF]
  obtain ⟨a, cap, rfl, h1, h2, _⟩ := hv
  unfold maxLen at h2
  have hNi : (200000 : Int) < (N : Int) := by omega
  clear hN hF
  go_enter Tryz.func4, Tryz.ntmps4
  go_wp2
  refine bodyPost_ret (v := .tuple #[.slice none 0 0, .int .i64 1]) (by simp [results, Tryz.results4, go_sem]) rfl ⟨_, rfl, bad_lists (by decide), Below.refl _ _⟩
set_option maxHeartbeats 3200000 in
theorem columns_none (v : Value) (P : Nat → Opm) (w : World) (hv : PlanIs w v 0 P) :
    Calls Tryz.prog 4 #[v] w fun e w' => ∃ u, e = .returned (.tuple #[u, .int .i64 (planF P 0)]) ∧ ListsIs w' u (okN (planF P 0) 0) (colK P) ∧ Below w.heap.size w w' := by
  have hF : planF P 0 = 5 := by unfold planF; rfl
  rw [hF]
  obtain ⟨a, cap, rfl, h1, h2, _⟩ := hv
  unfold maxLen at h2
  clear hF
  go_enter Tryz.func4, Tryz.ntmps4
  go_wp2
  refine bodyPost_ret (v := .tuple #[.slice none 0 0, .int .i64 5]) (by simp [results, Tryz.results4, go_sem]) rfl ⟨_, rfl, bad_lists (by decide), Below.refl _ _⟩
set_option maxHeartbeats 12800000 in
theorem columns_some (v : Value) (N : Nat) (P : Nat → Opm) (w : World) (hv : PlanIs w v N P) (hP : ∀ i, i < N → OpFine (P i)) (hI : InTabA w) (hStep : StepNil) (hT : Tabs w) (h0 : 0 < N) (hN : N ≤ 200000) :
    Calls Tryz.prog 4 #[v] w fun e w' => ∃ u, e = .returned (.tuple #[u, .int .i64 (planF P N)]) ∧ ListsIs w' u (okN (planF P N) N) (colK P) ∧ Below w.heap.size w w' := by
  have CF : Hid (∀ W, Calls Tryz.prog 7 #[] W fun e w' => e = .returned (.map (some W.heap.size)) ∧ (∃ V, FnS w' W.heap.size V fnL) ∧ Below W.heap.size W w') := fun W => functions_is W
  have HV := hidK hv
  obtain ⟨va, vcap, rfl, v1, v2, v3⟩ := hv
  obtain ⟨pb, off, rfl, hpb, hat⟩ := v3 h0
  have HAT := hidK hat
  have HP := hidK hP
  have HI := hidK hI
  have HT := hidK hT
  unfold maxLen at v2
  obtain ⟨Y0, hY0, hmk1⟩ := make_rels N hN
  obtain ⟨Z0, hZ0, hmk2⟩ := make_cols N hN
  obtain ⟨F, hF⟩ : ∃ F, F = planF P N := ⟨_, rfl⟩
  rw [← hF]
  have HF := hidK hF
  have n1 : ¬ (200000 : Int) < (N : Int) := by omega
  have n2 : ((N : Int) == 0) = false := by rw [beq_eq_false_iff_ne]; omega
  clear hat hP hI hT hF v3
  go_enter Tryz.func4, Tryz.ntmps4
  go_upto_region 8 with (go_at_call 7; refine (CF.out _).mono ?_; rintro e w1 ⟨rfl, ⟨V0, hV0⟩, hb1⟩; have HV1 := hidK hV0; have HB1 := hidK hb1; clear hV0 hb1 CF)
  obtain ⟨W1, hW1⟩ : ∃ W, W = (w1.alloc (.cells Y0 40)).alloc (.cells Z0 35) := ⟨_, rfl⟩
  obtain ⟨tb, htb⟩ : ∃ t, t = w1.heap.size := ⟨_, rfl⟩
  have hsz : (w1.alloc (.cells Y0 40)).heap.size = tb + 1 := by rw [htb]; simp
  have HY1 : Hid (W1.heap[tb]? = some (.cells Y0 40)) := by rw [hW1]; exact kOld (kNew htb.symm)
  have HZ1 : Hid (W1.heap[tb + 1]? = some (.cells Z0 35)) := by rw [hW1]; exact kNew hsz
  have HB2 : Hid (Below tb w1 W1) := by rw [hW1, htb]; exact ((Below.refl _ _).alloc (Nat.le_refl _) _).alloc (by simp) _
  have hz2 : tb + 2 ≤ W1.heap.size := by rw [hW1, htb]; simp
  have HVB : Hid (∀ W, Below tb w1 W → FnS W w.heap.size V0 fnL) := fun W hW => HV1.out.below (by rw [htb] at hW; exact hW)
  have HWB : Hid (∀ W, Below tb w1 W → Below w.heap.size w W) := fun W hW => HB1.out.trans (hW.mono (by rw [htb]; exact HB1.out.size))
  have hwtb : w.heap.size ≤ tb := by rw [htb]; exact HB1.out.size
  have HZ2 := hidK hz2
  try rw [hsz]
  try rw [← htb]
  rw [← hW1]
  clear hW1 htb hsz hmk1 hmk2 HV1 HB1 hz2 HV
  go_wp2_with fail
  go_loopw [29] (fun i wr => ∃ (j : Nat) (Y Z : Array Value), j ≤ N ∧ i = .int .i64 (j : Int) ∧ (∀ t, t < j → opF P t = 0) ∧ Y.size = N * 2 ∧ Z.size = N ∧ wr.heap[tb]? = some (.cells Y 40) ∧ wr.heap[tb + 1]? = some (.cells Z 35) ∧ ColI wr tb (tb + 1) (tb + 2) j (colK P) ∧ tb + 2 ≤ wr.heap.size ∧ Below tb w1 wr) (fun i _ => N - (intOf i).toNat)
  case atStart => exact ⟨0, Y0, Z0, Nat.zero_le _, rfl, fun t ht => absurd ht (Nat.not_lt_zero t), hY0, hZ0, HY1.out, HZ1.out, fun t ht => absurd ht (Nat.not_lt_zero t), HZ2.out, HB2.out⟩
  case round =>
    obtain ⟨j, Y, Z, hj, rfl, hall, hYn, hZn, hY, hZ, hcol, hsz, hlow⟩ := hrel
    have HALL := hidK hall
    have HY := hidK hY
    have HZ := hidK hZ
    have HCOL := hidK hcol
    have HLOW := hidK hlow
    have HYN := hidK hYn
    have HZN := hidK hZn
    clear HY1 HZ1 HB2 HZ2 hY0 hZ0 hall hY hZ hcol hlow hYn hZn
    by_cases hlt : j < N
    · have hji : (j : Int) < (N : Int) := by omega
      have HO := hidK ((HAT.out j hlt).below (HWB.out wr HLOW.out))
      have hpbr : pb < wr.heap.size := HO.out.lt
      have CA : Hid (Calls Tryz.prog 8 #[.pointer (some ⟨pb, off + j * 13, none⟩), .int .i64 (j : Int), .map (some w.heap.size)] wr fun e w' => e = .returned (.int .i64 (aloF (P j) j)) ∧ Below wr.heap.size wr w') := checkAlone_is pb (off + j * 13) j w.heap.size (P j) V0 wr HO.out (HP.out j hlt) (HI.out.below (HWB.out wr HLOW.out)) (HVB.out wr HLOW.out) (by omega) (Utf8Tabs_below HT.out (HWB.out wr HLOW.out)) hStep
      by_cases hA : aloF (P j) j = 0
      rotate_left
      · have HFJ : Hid (F = aloF (P j) j ∧ ¬ F = 0) := by
          have e : opF P j = aloF (P j) j := by unfold opF; rw [if_neg hA]
          have e2 : F = aloF (P j) j := by rw [HF.out, planF_bad hN hlt HALL.out (by rw [e]; exact hA), e]
          exact ⟨e2, by rw [e2]; exact hA⟩
        rw [← HFJ.out.1] at CA
        have hFb : (F == 0) = false := by rw [beq_eq_false_iff_ne]; exact HFJ.out.2
        have CA1 := CA
        clear hA CA HO
        go_wp2_with (go_at_call 8; refine CA1.out.mono ?_; rintro e w2 ⟨rfl, hb2⟩; have HB2 := hidK hb2; clear hb2 CA1)
        refine bodyPost_ret (v := .tuple #[.slice none 0 0, .int .i64 F]) (by simp [results, Tryz.results4, go_sem]) rfl ⟨_, rfl, bad_lists HFJ.out.2, HWB.out _ (HLOW.out.trans (HB2.out.mono (by omega)))⟩
      · obtain ⟨hk, hn, hins, hown⟩ := aloF_ins hA
        rw [hA] at CA
        have CA1 := CA
        have CI1 : Hid (∀ W, Below wr.heap.size wr W → Calls Tryz.prog 10 #[.pointer (some ⟨pb, off + j * 13, none⟩), .slice (some ⟨tb, 0, none⟩) N N] W fun e w' => ∃ iv, e = .returned iv ∧ InsOk w' iv (inC (P j).kind) (inT (P j) (colK P) 0) (inT (P j) (colK P) 1) ∧ Below W.heap.size W w') := fun W hW => by
          have h1 := inputsOf_is pb (off + j * 13) tb N j (P j) (colK P) W (HO.out.below hW) hins hj hN (by have := hW.size; omega) ((HCOL.out.below (by omega) (by omega) hW).told HALL.out) (by rw [hn]; exact inC_le _)
          rw [hn] at h1
          exact h1
        have CL : Hid (∀ W iv, Below wr.heap.size wr W → InsOk W iv (inC (P j).kind) (inT (P j) (colK P) 0) (inT (P j) (colK P) 1) → Calls Tryz.prog 9 #[.pointer (some ⟨pb, off + j * 13, none⟩), .map (some w.heap.size), iv] W fun e w' => OutT (outF (P j) (inT (P j) (colK P) 0) (inT (P j) (colK P) 1)) (colK P j) W e w') := fun W iv hW hiv => by
          have h1 := outline_is pb (off + j * 13) w.heap.size iv (P j) _ _ V0 W (HO.out.below hW) (HP.out j hlt) hiv ((HVB.out wr HLOW.out).below hW) (Utf8Tabs_below HT.out ((HWB.out wr HLOW.out).trans (hW.mono (by have := (HWB.out wr HLOW.out).size; omega)))) hown hk
          rw [← colK_is hins] at h1
          exact h1
        by_cases hO : outF (P j) (inT (P j) (colK P) 0) (inT (P j) (colK P) 1) = 0
        rotate_left
        · have HFJ : Hid (F = outF (P j) (inT (P j) (colK P) 0) (inT (P j) (colK P) 1) ∧ ¬ F = 0) := by
            have e : opF P j = outF (P j) (inT (P j) (colK P) 0) (inT (P j) (colK P) 1) := by unfold opF; rw [if_pos hA]
            have e2 : F = outF (P j) (inT (P j) (colK P) 0) (inT (P j) (colK P) 1) := by rw [HF.out, planF_bad hN hlt HALL.out (by rw [e]; exact hO), e]
            exact ⟨e2, by rw [e2]; exact hO⟩
          rw [← HFJ.out.1] at CL
          have hFb : (F == 0) = false := by rw [beq_eq_false_iff_ne]; exact HFJ.out.2
          have CL1 := CL
          generalize colK P j = T at CL1
          generalize inT (P j) (colK P) 0 = ta at CI1 CL1
          generalize inT (P j) (colK P) 1 = tc at CI1 CL1
          generalize inC (P j).kind = kc at CI1 CL1
          clear hA CA CL HO hk hn hins hown hO
          go_wp2_with (first
            | (go_at_call 8; refine CA1.out.mono ?_; rintro e w2 ⟨rfl, hb2⟩; have HB2 := hidK hb2; clear hb2 CA1)
            | (go_at_call 10; refine (CI1.out _ HB2.out).mono ?_; rintro e w3 ⟨iv, rfl, hin3, hb3⟩; have HIN := hidK hin3; have HB3 := hidK (HB2.out.trans (hb3.mono HB2.out.size)); clear hin3 hb3 CI1)
            | (go_at_call 9; refine (CL1.out _ _ HB3.out HIN.out).mono ?_; rintro e w4 ⟨a1, k1, qa1, qk1, rfl, hfar, hrow, hb4⟩; have HB4 := hidK (HB3.out.trans (hb4.mono HB3.out.size)); have hz3 := HB3.out.size; clear hb4 hfar hrow CL1))
          refine bodyPost_ret (v := .tuple #[.slice none 0 0, .int .i64 F]) (by simp [results, Tryz.results4, go_sem]) rfl ⟨_, rfl, bad_lists HFJ.out.2, ?_⟩
          exact HWB.out _ (HLOW.out.trans (Below.mono (B := wr.heap.size) (HB4.out.alloc HB4.out.size _) (by omega)))
        · rw [hO] at CL
          have HOP : Hid (opF P j = 0) := by unfold opF; rw [if_pos hA]; exact hO
          have CL1 := CL
          obtain ⟨T, hTT⟩ : ∃ T, T = colK P j := ⟨_, rfl⟩
          have HTT := hidK hTT
          rw [← hTT] at CL1
          generalize inT (P j) (colK P) 0 = ta at CI1 CL1
          generalize inT (P j) (colK P) 1 = tc at CI1 CL1
          generalize inC (P j).kind = kc at CI1 CL1
          clear hA CA CL HO hk hn hins hown hO hTT
          go_upto_region 18 with (first
            | (go_at_call 8; refine CA1.out.mono ?_; rintro e w2 ⟨rfl, hb2⟩; have HB2 := hidK hb2; clear hb2 CA1)
            | (go_at_call 10; refine (CI1.out _ HB2.out).mono ?_; rintro e w3 ⟨iv, rfl, hin3, hb3⟩; have HIN := hidK hin3; have HB3 := hidK (HB2.out.trans (hb3.mono HB2.out.size)); clear hin3 hb3 CI1)
            | (go_at_call 9; refine (CL1.out _ _ HB3.out HIN.out).mono ?_; rintro e w4 ⟨a1, k1, qa1, qk1, rfl, hfar, hrow, hb4⟩; have HB4 := hidK (HB3.out.trans (hb4.mono HB3.out.size)); have hz3 := HB3.out.size; have HFAR := hidK hfar; have HROW := hidK hrow; clear hb4 hfar hrow CL1))
          rw [show okN 0 T.len = T.len from rfl]
          obtain ⟨W5, hW5⟩ : ∃ W, W = w4.alloc (.cells #[.slice a1 T.len k1, .slice qa1 0 qk1] 40) := ⟨_, rfl⟩
          obtain ⟨rb, hrb⟩ : ∃ r, r = w4.heap.size := ⟨_, rfl⟩
          have HR5 : Hid (W5.heap[rb]? = some (.cells #[.slice a1 T.len k1, .slice qa1 0 qk1] 40)) := by rw [hW5]; exact kNew hrb.symm
          have HB5 : Hid (Below wr.heap.size wr W5) := by rw [hW5]; exact HB4.out.alloc HB4.out.size _
          have HFAR5 : Hid (Far (tb + 2) W5 (.slice a1 T.len k1) T.len T.at_) := by
            rw [hW5]
            exact (HFAR.out.low (B' := tb + 2) (by omega)).below ((Below.refl _ _).alloc (Nat.le_refl _) _)
          have HY5 : Hid (W5.heap[tb]? = some (.cells Y 40)) := (HB5.out.block tb (by omega)).trans HY.out
          have HZ5 : Hid (W5.heap[tb + 1]? = some (.cells Z 35)) := (HB5.out.block (tb + 1) (by omega)).trans HZ.out
          have hr1 : rb ≠ tb := by have := HB4.out.size; omega
          have hr2 : rb ≠ tb + 1 := by have := HB4.out.size; omega
          have hsz5 : tb + 2 ≤ W5.heap.size := by have := HB5.out.size; omega
          obtain ⟨s0, s1, _, _, hrl⟩ := k2 HR5.out
          have hyn := HYN.out
          have hzn := HZN.out
          obtain ⟨y0, fy0⟩ := kCell HY5.out (j := j * 2) (by omega)
          obtain ⟨y1, fy1⟩ := kCell HY5.out (j := j * 2 + 1) (by omega)
          obtain ⟨z0, fz0⟩ := kCell HZ5.out (j := j) (by omega)
          generalize Y[j * 2] = yv0 at y0
          generalize Y[j * 2 + 1] = yv1 at y1
          generalize Z[j] = zv0 at z0
          have htbl : tb < W5.heap.size := by omega
          have htbl1 : tb + 1 < W5.heap.size := by omega
          try rw [← hrb]
          rw [← hW5]
          clear hW5 hrb hyn hzn hz3 HB2 HB3 HIN HFAR HY HZ
          have HALL5 : Hid (∀ t, t < j + 1 → opF P t = 0) := fun t ht => by
            by_cases e : t = j
            · rw [e]; exact HOP.out
            · exact HALL.out t (by omega)
          have HADD : Hid (ColI (((W5.setCell ⟨tb, j * 2, none⟩ (.slice a1 T.len k1)).setCell ⟨tb, j * 2 + 1, none⟩ (.slice qa1 0 qk1)).setCell ⟨tb + 1, j, none⟩ (.slice a1 T.len k1)) tb (tb + 1) (tb + 2) (j + 1) (colK P)) := by
            have h := ColI.add (ca := a1) (ck := k1) (qa := qa1) (qk := qk1) (HCOL.out.below (by omega) (by omega) HB5.out) HY5.out HZ5.out HYN.out HZN.out hlt (by omega) (by omega) (by omega) (by rw [← HTT.out]; exact HFAR5.out) HROW.out
            rw [← HTT.out] at h
            exact h
          have HYS := hidK (kOth (b := tb + 1) (j := j) (v := .slice a1 T.len k1) (kSame (kSame HY5.out (j * 2) (.slice a1 T.len k1)) (j * 2 + 1) (.slice qa1 0 qk1)) (by omega))
          have HZS := hidK (kSame (kOth (b := tb) (j := j * 2 + 1) (v := .slice qa1 0 qk1) (kOth (b := tb) (j := j * 2) (v := .slice a1 T.len k1) HZ5.out (by omega)) (by omega)) j (.slice a1 T.len k1))
          have HLO5 : Hid (Below tb w1 (((W5.setCell ⟨tb, j * 2, none⟩ (.slice a1 T.len k1)).setCell ⟨tb, j * 2 + 1, none⟩ (.slice qa1 0 qk1)).setCell ⟨tb + 1, j, none⟩ (.slice a1 T.len k1))) :=
            (((HLOW.out.trans (HB5.out.mono (by omega))).setCell (p := ⟨tb, j * 2, none⟩) (Nat.le_refl _) _).setCell (p := ⟨tb, j * 2 + 1, none⟩) (Nat.le_refl _) _).setCell (p := ⟨tb + 1, j, none⟩) (Nat.le_succ _) _
          clear HCOL HFAR5 HY5 HZ5 HTT HROW HB5 HB4 HLOW HALL HOP HR5
          go_region_held3 (fun W => W.cell? ⟨rb, 0, none⟩ = some (.slice a1 T.len k1) ∧ W.cell? ⟨rb, 1, none⟩ = some (.slice qa1 0 qk1))
            ((refine ⟨?_, ?_⟩ <;> simp [go_sem, *]))
            (fail)
          go_wp2
          go_roundw
          case rel => exact ⟨j + 1, _, _, by omega, by go_num, HALL5.out, by simp [HYN.out], by simp [HZN.out], HYS.out, HZS.out, HADD.out, by simpa using hsz5, HLO5.out.drew⟩
          case measure => simp [intOf]; omega
    · have hjn : j = N := by omega
      obtain ⟨M, hM⟩ : ∃ M, N = M + 1 := ⟨N - 1, by omega⟩
      have hw : IntKind.i64.wrap ((N : Int) - 1) = (M : Int) := by rw [IntWalk.i64_in _ (by omega)]; omega
      have hMN : (M : Int) < (N : Int) := by omega
      have HE : Hid (F = if allT (colK P M) piC = true then 0 else 9) := by
        rw [HF.out, planF_end hN h0 (fun t ht => HALL.out t (by omega)), show N - 1 = M by omega]; exact rfl
      obtain ⟨ca, ck, qa, qk, c0, c1, c2, hfar, hrow⟩ := HCOL.out M (by omega)
      have hfs := hfar.is
      have CP1 : Hid (∀ W v, Below wr.heap.size wr W → StrsIs W v piC.len piC.at_ → Calls Tryz.prog 11 #[.slice ca (colK P M).len ck, v] W fun e w' => (∃ u, e = .returned (.tuple #[u, .int .i64 F])) ∧ Below W.heap.size W w') := fun W v hW hs => by
        rw [HE.out]
        exact placesAny_is _ v (colK P M).len 2 (colK P M).at_ _ W (hfs.below hW) hs (by omega)
      have hcbl : tb + 1 < wr.heap.size := by omega
      have HLS : Hid (∀ W, Below wr.heap.size wr W → ListsIs W (.slice (some ⟨tb + 1, 0, none⟩) N N) N (colK P)) := fun W hW => ⟨_, _, rfl, Nat.le_refl _, by unfold maxLen; omega, fun _ => ⟨tb + 1, 0, rfl, Nat.lt_of_lt_of_le hcbl hW.size, fun t ht => by
        obtain ⟨ca, ck, qa, qk, c0, c1, c2, hfar, hrow⟩ := HCOL.out t (by omega)
        refine ⟨ca, ck, ?_, (hfar.is).below hW⟩
        rw [Nat.zero_add]
        exact (hW.cell (p := ⟨tb + 1, t, none⟩) hcbl).trans c2⟩⟩
      generalize (colK P M).len = cl at *
      by_cases h1 : F = 0
      · subst h1
        clear HCOL hfar hrow hfs c0 c1 hM hjn HE
        go_wp2_with (go_at_call 11; refine (CP1.out _ _ ?_ ?_).mono ?_; (· (focus (repeat (first | exact Below.refl _ _ | exact Hid.out (by assumption) | refine Below.setCell ?_ (by first | omega | (simp <;> omega)) _ | refine Below.alloc ?_ (by first | omega | (simp <;> omega)) _)))); (· exact strs_pi (kNew (by simp))); rintro e w2 ⟨⟨u, rfl⟩, hb2⟩; have HB2 : Hid (Below wr.heap.size wr w2) := Below.trans (by (focus (repeat (first | exact Below.refl _ _ | exact Hid.out (by assumption) | refine Below.setCell ?_ (by first | omega | (simp <;> omega)) _ | refine Below.alloc ?_ (by first | omega | (simp <;> omega)) _)))) (hb2.mono (by first | omega | (simp <;> omega))); clear hb2 CP1)
        refine bodyPost_ret (v := .tuple #[.slice (some ⟨tb + 1, 0, none⟩) N N, .int .i64 0]) (by simp [results, Tryz.results4, go_sem]) rfl ⟨_, rfl, HLS.out _ HB2.out, HWB.out _ (HLOW.out.trans (HB2.out.mono (by omega)))⟩
      · have HF0 := hidK h1
        have hFb : (F == 0) = false := by rw [beq_eq_false_iff_ne]; exact h1
        clear h1 HCOL hfar hrow hfs c0 c1 hM hjn HE
        go_wp2_with (go_at_call 11; refine (CP1.out _ _ ?_ ?_).mono ?_; (· (focus (repeat (first | exact Below.refl _ _ | exact Hid.out (by assumption) | refine Below.setCell ?_ (by first | omega | (simp <;> omega)) _ | refine Below.alloc ?_ (by first | omega | (simp <;> omega)) _)))); (· exact strs_pi (kNew (by simp))); rintro e w2 ⟨⟨u, rfl⟩, hb2⟩; have HB2 : Hid (Below wr.heap.size wr w2) := Below.trans (by (focus (repeat (first | exact Below.refl _ _ | exact Hid.out (by assumption) | refine Below.setCell ?_ (by first | omega | (simp <;> omega)) _ | refine Below.alloc ?_ (by first | omega | (simp <;> omega)) _)))) (hb2.mono (by first | omega | (simp <;> omega))); clear hb2 CP1)
        refine bodyPost_ret (v := .tuple #[.slice none 0 0, .int .i64 F]) (by simp [results, Tryz.results4, go_sem]) rfl ⟨_, rfl, bad_lists HF0.out, HWB.out _ (HLOW.out.trans (HB2.out.mono (by omega)))⟩
/-- the columns of a plan -/
theorem columnsOf_is (v : Value) (N : Nat) (P : Nat → Opm) (w : World) (hv : PlanIs w v N P) (hP : ∀ i, i < N → OpFine (P i)) (hI : InTabA w) (hStep : StepNil) (hT : Tabs w) :
    Calls Tryz.prog 4 #[v] w fun e w' => ∃ u, e = .returned (.tuple #[u, .int .i64 (planF P N)]) ∧ ListsIs w' u (okN (planF P N) N) (colK P) ∧ Below w.heap.size w w' := by
  by_cases hN : 200000 < N
  · exact columns_many v N P w hv hN
  · by_cases h0 : 0 < N
    · exact columns_some v N P w hv hP hI hStep hT h0 (by omega)
    · obtain rfl : N = 0 := by omega
      exact columns_none v P w hv
end Go.Proofs.YtkcejelmohameaaGreatDoor
