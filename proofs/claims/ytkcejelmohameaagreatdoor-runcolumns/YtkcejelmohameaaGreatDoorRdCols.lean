/-
  CONTRACT: the document's columns of a plan (ColumnsOf).
-/
import Derived.Test.YtkcejelmohameaaGreatDoorRdOpI
import Derived.Test.YtkcejelmohameaaGreatDoorRcOpen
import Derived.Test.YtkcejelmohameaaGreatDoorRcCols
import Derived.Deep.QuietTactic
import Derived.BigQuiet
import Derived.Deep.RegionHeld3
import Derived.Laws.EntriesVeiled
set_option linter.unusedVariables false
namespace Go.Proofs.YtkcejelmohameaaGreatDoor
set_option maxRecDepth 100000
open Go.RowKit Go.WideShapes

set_option maxHeartbeats 3200000 in
theorem rcols_many (v : Value) (N : Nat) (P : Nat → Opm) (w : World) (hv : PlanIs w v N P) (hN : 200000 < N) :
    Calls Tryz.prog 5 #[v] w fun e w' => ∃ u, e = .returned (.tuple #[u, .int .i64 (planF P N)]) ∧ ListsIs w' u (okN (planF P N) N) (colK P) ∧ Below w.heap.size w w' := by
  have hF : planF P N = 1 := by unfold planF; rw [if_pos hN]
  rw [hF]
  obtain ⟨a, cap, rfl, h1, h2, _⟩ := hv
  unfold maxLen at h2
  have hNi : (200000 : Int) < (N : Int) := by omega
  clear hN hF
  go_enter Tryz.func5, Tryz.ntmps5
  go_wp2
  refine bodyPost_ret (v := .tuple #[.slice none 0 0, .int .i64 1]) (by simp [results, Tryz.results5, go_sem]) rfl ⟨_, rfl, bad_lists (by decide), Below.refl _ _⟩
set_option maxHeartbeats 3200000 in
theorem rcols_none (v : Value) (P : Nat → Opm) (w : World) (hv : PlanIs w v 0 P) :
    Calls Tryz.prog 5 #[v] w fun e w' => ∃ u, e = .returned (.tuple #[u, .int .i64 (planF P 0)]) ∧ ListsIs w' u (okN (planF P 0) 0) (colK P) ∧ Below w.heap.size w w' := by
  have hF : planF P 0 = 5 := by unfold planF; rfl
  rw [hF]
  obtain ⟨a, cap, rfl, h1, h2, _⟩ := hv
  unfold maxLen at h2
  clear hF
  go_enter Tryz.func5, Tryz.ntmps5
  go_wp2
  refine bodyPost_ret (v := .tuple #[.slice none 0 0, .int .i64 5]) (by simp [results, Tryz.results5, go_sem]) rfl ⟨_, rfl, bad_lists (by decide), Below.refl _ _⟩
/-- an input's columns, as a value -/
theorem in_vals {w : World} {B k : Nat} {ob : Option Nat} {o : Opm} {us ivs : List Value} {K : Nat → Txts} (hu : ∀ i, i < k → ∃ u, us[i]? = some u ∧ TxtApart w B ob u (K i).len (K i).at_) (hl : ivs.length = o.nin) (hi : ∀ j, j < o.nin → 0 ≤ o.ins j ∧ o.ins j < k) (hv : ∀ j, j < o.nin → ivs[j]? = us[(o.ins j).toNat]?) {j : Nat} (hj : j < 2) :
    ∃ ua uc, (ivs ++ nilsV)[j]? = some (.slice ua (inT o K j).len uc) ∧ StrsIs w (.slice ua (inT o K j).len uc) (inT o K j).len (inT o K j).at_ := by
  by_cases h : j < o.nin
  · have hT : inT o K j = K (o.ins j).toNat := if_pos h
    rw [hT, List.getElem?_append_left (by omega), hv j h]
    have := hi j h
    obtain ⟨u, h1, ⟨ua, uc, rfl⟩, h3⟩ := hu (o.ins j).toNat (by omega)
    obtain ⟨u', h1', h2'⟩ := hu (o.ins j).toNat (by omega)
    rw [h1] at h1'
    cases h1'
    exact ⟨ua, uc, h1, h2'.is⟩
  · have hT : inT o K j = noT := if_neg h
    rw [hT, List.getElem?_append_right (by omega), hl]
    refine ⟨none, 0, ?_, nil_strs w _⟩
    have : j - o.nin = 0 ∨ j - o.nin = 1 := by omega
    rcases this with e | e <;> rw [e] <;> rfl
theorem in_may {P : Nat → Opm} {k : Nat} (h : ∀ t, t < k → opF P t = 0) (hi : ∀ j, j < (P k).nin → 0 ≤ (P k).ins j ∧ (P k).ins j < k) (j : Nat) : (inT (P k) (colK P) j).len ≤ 8 ∧ ∀ i, i < (inT (P k) (colK P) j).len → ((inT (P k) (colK P) j).at_ i).size ≤ maxLen := by
  by_cases hj : j < (P k).nin
  · have hT : inT (P k) (colK P) j = colK P ((P k).ins j).toNat := if_pos hj
    rw [hT]
    have := hi j hj
    have hm := colK_may (h ((P k).ins j).toNat (by omega))
    exact ⟨colsF_le hm, (may_fine hm).2⟩
  · have hT : inT (P k) (colK P) j = noT := if_neg hj
    rw [hT]
    exact ⟨Nat.zero_le _, fun i hi => absurd hi (Nat.not_lt_zero i)⟩
set_option maxHeartbeats 12800000 in
theorem rcols_some (v : Value) (N : Nat) (P : Nat → Opm) (w : World) (hv : PlanIs w v N P) (hP : ∀ i, i < N → OpFine (P i)) (hT : Tabs w) (h0 : 0 < N) (hN : N ≤ 200000) :
    Calls Tryz.prog 5 #[v] w fun e w' => ∃ u, e = .returned (.tuple #[u, .int .i64 (planF P N)]) ∧ ListsIs w' u (okN (planF P N) N) (colK P) ∧ Below w.heap.size w w' := by
  obtain ⟨i0, hi0, hz0, hz1, hz2⟩ := info_parts infoStrs
  obtain ⟨va, vcap, rfl, v1, v2, v3⟩ := hv
  obtain ⟨pb, off, rfl, hpb, hat⟩ := v3 h0
  have HAT := hidK hat
  have HP := hidK hP
  have HT := hidK hT
  unfold maxLen at v2
  obtain ⟨F, hF⟩ : ∃ F, F = planF P N := ⟨_, rfl⟩
  rw [← hF]
  have HF := hidK hF
  have n1 : ¬ (200000 : Int) < (N : Int) := by omega
  have n2 : ((N : Int) == 0) = false := by rw [beq_eq_false_iff_ne]; omega
  try clear hat; try clear hP; try clear hT; try clear hF; try clear v3
  go_enter Tryz.func5, Tryz.ntmps5
  go_wp2
  go_loopw [4, 5] (fun v i wr => ∃ (k : Nat) (us : List Value), k ≤ N ∧ i = .int .i64 (k : Int) ∧ LsOwn wr w.heap.size v k us (colK P) ∧ (∀ t, t < k → opF P t = 0) ∧ Below w.heap.size w wr) (fun _ i _ => N - (intOf i).toNat)
  case atStart => exact ⟨0, [], Nat.zero_le _, rfl, LsOwn.nil _ _ _, fun t ht => absurd ht (Nat.not_lt_zero t), Below.refl _ _⟩
  case round =>
    obtain ⟨k, us, hk, rfl, hls, hall, hbr⟩ := hrel
    obtain ⟨oa, oc, rfl⟩ := hls.shape
    have HLS := hidK hls
    have HALL := hidK hall
    have HBR := hidK hbr
    have hzr := hbr.size
    clear hls hall hbr
    by_cases hlt : k < N
    · have hki : (k : Int) < (N : Int) := by omega
      have HO := hidK ((HAT.out k hlt).below HBR.out)
      obtain ⟨o, ho⟩ : ∃ o, o = P k := ⟨_, rfl⟩
      have HOP := hidK ho
      have HFO := hidK (HP.out k hlt)
      rw [← ho] at HO HFO
      clear ho
      have hpbr : pb < wr.heap.size := HO.out.lt
      have CK : Hid (∀ W, Calls Tryz.prog 12 #[.int .i64 o.kind, .int .i64 1, .int .i64 15] W fun e w' => e = .returned (.bool (inB o.kind 1 15)) ∧ w' = W) := fun W => in_any _ _ _ _
      have q0 := HO.out.kind
      by_cases hkd : 1 ≤ o.kind ∧ o.kind ≤ 15
      rotate_left
      · have HF3 := hidK (show F = 3 by
          have e : opF P k = 3 := opF_kind (by rw [← HOP.out]; exact hkd)
          rw [HF.out, planF_bad hN hlt HALL.out (by rw [e]; decide), e])
        rw [show inB o.kind 1 15 = false from decide_eq_false hkd] at CK
        clear hkd HO
        go_wp2_with (go_at_call 12; refine (CK.out _).mono ?_; rintro e w' ⟨rfl, hww⟩; obtain rfl := hww.symm; clear hww CK)
        refine bodyPost_ret (v := .tuple #[.slice none 0 0, .int .i64 3]) (by simp [results, Tryz.results5, go_sem]) rfl ⟨_, by rw [HF3.out], by rw [HF3.out]; exact ListsIs.nil _ _, HBR.out⟩
      · rw [show inB o.kind 1 15 = true from decide_eq_true hkd] at CK
        have HKD := hidK hkd
        obtain ⟨ia, ic, q1, hzs⟩ := HO.out.ins
        have hzs2 := hzs
        obtain ⟨_, _, ez, z1, z2, _⟩ := hzs2
        cases ez
        unfold maxLen at z2
        have HZS := hidK hzs
        have CI : Hid (∀ z, Calls Tryz.prog 13 #[.int .i64 o.kind] (wr.drewN z) fun e w' => e = .returned (.int .i64 (inC o.kind : Nat)) ∧ ∃ q, w' = (wr.drewN z).drewN q) := fun z => (inCount_is o.kind _).mono fun e w' ⟨h1, h2⟩ => ⟨h1, 0, h2⟩
        clear hkd hzs
        by_cases hct : o.nin = inC o.kind
        rotate_left
        · have HF11 := hidK (show F = 11 by
            have e : opF P k = 11 := opF_count (by rw [← HOP.out]; exact HKD.out) (by rw [← HOP.out]; exact hct)
            rw [HF.out, planF_bad hN hlt HALL.out (by rw [e]; decide), e])
          have hcn : ¬ (o.nin : Int) = (inC o.kind : Int) := by omega
          clear HO hct
          generalize inC o.kind = kc at *
          go_upto_region 11 with (go_at_call 12; refine (CK.out _).mono ?_; rintro e w' ⟨rfl, hww⟩; obtain rfl := hww.symm; clear hww CK)
          go_quiet ((go_at_call 13; exact Calls.quiet_of (CI.out _)))
          go_wp2
          refine bodyPost_ret (v := .tuple #[.slice none 0 0, .int .i64 11]) (by simp [results, Tryz.results5, go_sem]) rfl ⟨_, by rw [HF11.out], by rw [HF11.out]; exact ListsIs.nil _ _, below_drawn HBR.out _⟩
        · have hcn : (o.nin : Int) = (inC o.kind : Int) := by omega
          have HCT := hidK hct
          have hn2 : o.nin ≤ 2 := by rw [hct]; exact inC_le _
          obtain ⟨Z, hZ⟩ : ∃ Z : Int, Z = (k : Int) - 1 := ⟨_, rfl⟩
          have hw1 : IntKind.i64.wrap ((k : Int) - 1) = Z := by rw [hZ]; exact IntWalk.i64_in _ (by omega)
          have HZ := hidK hZ
          clear hZ
          clear hct
          generalize inC o.kind = kc at CI hcn
          go_upto_region 11 with (go_at_call 12; refine (CK.out _).mono ?_; rintro e w' ⟨rfl, hww⟩; obtain rfl := hww.symm; clear hww CK)
          go_quiet ((go_at_call 13; exact Calls.quiet_of (CI.out _)))
          go_wp2
          go_loopw [6, 7] (fun v i W => ∃ (q : Nat) (ivs : List Value), q ≤ o.nin ∧ i = .int .i64 (q : Int) ∧ W.ownsRow wr.heap.size 35 1 v q ivs ∧ (∀ j, j < q → ivs[j]? = us[(o.ins j).toNat]?) ∧ (∀ j, j < q → 0 ≤ o.ins j ∧ o.ins j < k) ∧ Below wr.heap.size wr W) (fun _ i _ => o.nin - (intOf i).toNat)
          case atStart => exact ⟨0, [], Nat.zero_le _, rfl, World.ownsRow_nil _ _ _ _, fun j hj => absurd hj (Nat.not_lt_zero j), fun j hj => absurd hj (Nat.not_lt_zero j), below_drawn (Below.refl _ _) _⟩
          case round =>
            rename World => W
            try clear hcn
            obtain ⟨q, ivs, hq, rfl, hown, hiv, hin, hbw⟩ := hrel
            obtain ⟨xa, xc, rfl⟩ := own_shape hown
            have HV := hidK hown
            have HIV := hidK hiv
            have HIN := hidK hin
            have HBW := hidK hbw
            have hzw := hbw.size
            have q1 := (hbw.cell (p := ⟨pb, off + k * 13 + 1, none⟩) hpbr).trans q1
            have hpw : pb < W.heap.size := by omega
            clear hown hiv hin hbw
            by_cases hql : q < o.nin
            · have hqi : (q : Int) < (o.nin : Int) := by omega
              obtain ⟨_, _, ez, _, _, hzat⟩ := HZS.out
              obtain ⟨zb, zo, rfl, hzb, hzel⟩ := hzat (by omega)
              obtain rfl : ia = some ⟨zb, zo, none⟩ := by cases ez; rfl
              have e1 := (HBW.out.cell (p := ⟨zb, zo + q, none⟩) hzb).trans (hzel q hql)
              have hzbw : zb < W.heap.size := by omega
              have CN : Hid (∀ W, Calls Tryz.prog 12 #[.int .i64 (o.ins q), .int .i64 0, .int .i64 Z] W fun e w' => e = .returned (.bool (inB (o.ins q) 0 Z)) ∧ w' = W) := fun W => in_any _ _ _ _
              clear ez hzat hzel
              by_cases hir : 0 ≤ o.ins q ∧ o.ins q < k
              rotate_left
              · have HF2 := hidK (show F = 2 by
                  have e : opF P k = 2 := opF_ins (by rw [← HOP.out]; exact HKD.out) (by rw [← HOP.out]; exact HCT.out) (by rw [← HOP.out]; exact insB_noD hql hir)
                  rw [HF.out, planF_bad hN hlt HALL.out (by rw [e]; decide), e])
                rw [show inB (o.ins q) 0 Z = false from decide_eq_false (by have := HZ.out; omega)] at CN
                clear HO hir
                generalize o.ins q = z at *
                go_wp2_with (go_at_call 12; refine (CN.out _).mono ?_; rintro e w' ⟨rfl, hww⟩; obtain rfl := hww.symm; clear hww CN)
                refine bodyPost_ret (v := .tuple #[.slice none 0 0, .int .i64 2]) (by simp [results, Tryz.results5, go_sem]) rfl ⟨_, by rw [HF2.out], by rw [HF2.out]; exact ListsIs.nil _ _, HBR.out.trans (HBW.out.mono hzr)⟩
              · rw [show inB (o.ins q) 0 Z = true from decide_eq_true (by have := HZ.out; omega)] at CN
                obtain ⟨x, hx⟩ : ∃ x : Nat, o.ins q = (x : Int) := ⟨(o.ins q).toNat, by omega⟩
                have hxk : x < k := by omega
                have hxi : (x : Int) < (k : Int) := by omega
                obtain ⟨u, hu1, ⟨ua, uc, rfl⟩, hu2⟩ := HLS.out.2 x hxk
                obtain ⟨og, oc', eo, ho1, ho2, ho3⟩ := own_cell HLS.out.1 hxk
                obtain rfl : oa = some ⟨og, 0, none⟩ := by cases eo; rfl
                have e2 := (HBW.out.cell (p := ⟨og, x, none⟩) ho2).trans (ho3.trans hu1)
                have hogw : og < W.heap.size := by omega
                have HIV2 : Hid (∀ j, j < q + 1 → (ivs ++ elemV (.slice ua (colK P x).len uc))[j]? = us[(o.ins j).toNat]?) := fun j hj => by
                  have hl := HV.out.1
                  by_cases e : j = q
                  · subst e
                    rw [List.getElem?_append_right (by omega), hx, Int.toNat_natCast, hu1, show j - ivs.length = 0 by omega]
                    rfl
                  · rw [List.getElem?_append_left (by omega)]
                    exact HIV.out j (by omega)
                have HIN2 : Hid (∀ j, j < q + 1 → 0 ≤ o.ins j ∧ o.ins j < k) := fun j hj => by
                  by_cases e : j = q
                  · rw [e]; exact hir
                  · exact HIN.out j (by omega)
                rw [hx] at e1 CN
                try clear eo; try clear ho1; try clear ho3; try clear hu1; try clear hu2; try clear hir; try clear hx; try clear HO
                generalize (colK P x).len = kl at *
                go_wp2_with (first
                  | (go_at_call 12; refine (CN.out _).mono ?_; rintro e w' ⟨rfl, hww⟩; obtain rfl := hww.symm; clear hww CN)
                  | (at_builtin; refine wpList_append_own _ rfl (.tmp 64) (.tmp 76) 24 rfl wr.heap.size 35 i0 _ 1 24 Tryz.underlying24 hi0 hz0 hz1 hz2 rfl (by decide) _ _ _ rfl (HV.out.alloc _) ⟨W.heap.size, 0, none⟩ 1 1 (elemV (.slice ua kl uc)) rfl rfl (elemV_in (.slice ua kl uc) _) elemV_one (by unfold maxLen; omega) (by omega) (by simp <;> omega) ?_; intro v6 w6 hown6 hgrow6 _; obtain ⟨va6, vc6, rfl⟩ := own_shape hown6; have HV6 : Hid (w6.ownsRow wr.heap.size 35 1 (.slice va6 (q + 1) vc6) (q + 1) (ivs ++ elemV (.slice ua kl uc))) := hown6; have HB6 : Hid (Below wr.heap.size wr w6) := (HBW.out.alloc hzw _).grown hgrow6 (by simp <;> omega) (fun z hz => (HV.out.lt z hz).1); clear hown6 hgrow6))
                go_roundw
                case rel => exact ⟨q + 1, _, by omega, by go_num, HV6.out, HIV2.out, HIN2.out, HB6.out⟩
                case measure => simp [intOf]; omega
            · have hqn : q = o.nin := by omega
              subst hqn
              have hqi : ¬ (o.nin : Int) < (o.nin : Int) := by omega
              have hins := insB_yesD HIN.out
              have HRS := hidK (opF_rest (P := P) (i := k) (by rw [← HOP.out]; exact HKD.out) (by rw [← HOP.out]; exact HCT.out) (by rw [← HOP.out]; exact hins))
              have HCO := hidK (colK_is (P := P) (i := k) (by rw [← HOP.out]; exact hins))
              have hm0 := in_may (P := P) (k := k) HALL.out (by rw [← HOP.out]; exact HIN.out) 0
              have hm1 := in_may (P := P) (k := k) HALL.out (by rw [← HOP.out]; exact HIN.out) 1
              rw [← HOP.out] at HRS HCO hm0 hm1
              have hiv : ∀ j, j < 2 → ∃ ua uc, (ivs ++ nilsV)[j]? = some (.slice ua (inT o (colK P) j).len uc) ∧ StrsIs wr (.slice ua (inT o (colK P) j).len uc) (inT o (colK P) j).len (inT o (colK P) j).at_ := fun j hj => in_vals (w := wr) (o := o) HLS.out.2 (by have := HV.out.1; omega) HIN.out HIV.out hj
              obtain ⟨ua0, uc0, g0, s0⟩ := hiv 0 (by decide)
              obtain ⟨ua1, uc1, g1, s1⟩ := hiv 1 (by decide)
              obtain ⟨ta, hta⟩ : ∃ t, t = inT o (colK P) 0 := ⟨_, rfl⟩
              obtain ⟨tc, htc⟩ : ∃ t, t = inT o (colK P) 1 := ⟨_, rfl⟩
              obtain ⟨T, hTT⟩ : ∃ T, T = colK P k := ⟨_, rfl⟩
              have HTT := hidK hTT
              rw [← hta] at HRS HCO hm0 g0 s0
              rw [← htc] at HRS HCO hm1 g1 s1
              rw [← hTT] at HRS HCO
              have HSZ := hidK (outC_sizes HFO.out hm0.2 hm1.2)
              rw [← HCO.out] at HSZ
              have S0 := hidK s0
              have S1 := hidK s1
              have hm0 := hm0.1
              have hm1 := hm1.1
              have G0 := hidK g0
              have G1 := hidK g1
              obtain ⟨E, hE⟩ : ∃ E, E = opE o ta tc := ⟨_, rfl⟩
              have HE := hidK hE
              rw [← hE] at HRS
              have HLW := hidK (HLS.out.below HBW.out)
              have hEW : Hid (Below w.heap.size w W) := HBR.out.trans (HBW.out.mono hzr)
              have HOW := hidK (HO.out.below HBW.out)
              try clear hins; try clear hta; try clear htc; try clear hTT; try clear s0; try clear s1; try clear g0; try clear g1; try clear hiv; try clear hE; try clear HIV; try clear HIN; try clear HO; try clear q0; try clear HZS; try clear CK; try clear CI; try clear hcn; try clear hki
              go_upto_region 21 with (first
                | (at_builtin; refine wpList_append_own _ rfl (.tmp 78) (.tmp 79) 24 rfl wr.heap.size 35 i0 _ 1 24 Tryz.underlying24 hi0 hz0 hz1 hz2 rfl (by decide) _ _ _ rfl (HV.out.alloc _) ⟨W.heap.size, 0, none⟩ 2 2 nilsV rfl rfl (nilsV_in _) nilsV_one (by unfold maxLen; omega) (by omega) (by simp <;> omega) ?_; intro v6 w6 hown6 hgrow6 _; obtain ⟨va6, vc6, rfl⟩ := own_shape hown6; have HV6 : Hid (w6.ownsRow wr.heap.size 35 1 (.slice va6 (o.nin + 2) vc6) (o.nin + 2) (ivs ++ nilsV)) := hown6; have HG6 := hidK hgrow6; clear hown6 hgrow6))
              have hb6 : Below wr.heap.size wr w6 := (HBW.out.alloc hzw _).grown HG6.out (by simp <;> omega) (fun z hz => (HV.out.lt z hz).1)
              have HB6 := hidK hb6
              have hz6 := hb6.size
              have HO6 := hidK (OpAt.below (w := wr) (by have h := HAT.out k hlt; rw [← HOP.out] at h; exact h.below HBR.out) hb6)
              obtain ⟨gi, gc, ei, gi1, gi2, gi3⟩ := own_cell HV6.out (i := 0) (by omega)
              obtain ⟨gj, gd, ej, gj1, gj2, gj3⟩ := own_cell HV6.out (i := 1) (by omega)
              obtain rfl : va6 = some ⟨gi, 0, none⟩ := by cases ei; rfl
              obtain rfl : gj = gi := by cases ej; rfl
              rw [G0.out] at gi3
              rw [G1.out] at gj3
              obtain ⟨ho0, t0, ⟨ja, jc, t1, _⟩, t2, ⟨ka, kc, t3, h3⟩, ⟨la, lc, t4, h4⟩, t5, t6, t7, t8, t9, t10, ⟨ma, mc, t11, h11⟩, ⟨qa, qc, t12, h12⟩⟩ := HO6.out
              have CO : Hid (∀ V, Below w6.heap.size w6 V → Calls Tryz.prog 14 #[.agg #[.int .i64 o.kind, .slice ja o.nin jc, .string o.new, .slice ka o.cols.len kc, .slice la o.olds.len lc, .string o.part, .string o.name, .int .i64 o.n, .int .i64 o.axis, .int .i64 o.tk, .string o.tn, .slice ma o.rc.len mc, .slice qa o.rm qc], .slice ua0 ta.len uc0, .slice ua1 tc.len uc1] V fun e w' => OpR o ta tc V e w') := fun V hV => opCols_is o ta tc ja ka la ma qa ua0 ua1 jc kc lc mc qc uc0 uc1 V (h3.below hV) (h4.below hV) (h11.below hV) (h12.below hV) HFO.out ((S0.out.below hb6).below hV) ((S1.out.below hb6).below hV) hm0 hm1 (Utf8Tabs_below HT.out (HBR.out.trans ((hb6.trans (hV.mono hz6)).mono hzr))) HKD.out
              have HS : Hid (∀ V, Below w6.heap.size w6 V → V.cell? ⟨pb, off + k * 13, none⟩ = some (.int .i64 o.kind) ∧ V.cell? ⟨pb, off + k * 13 + 1, none⟩ = some (.slice ja o.nin jc) ∧ V.cell? ⟨pb, off + k * 13 + 2, none⟩ = some (.string o.new) ∧ V.cell? ⟨pb, off + k * 13 + 3, none⟩ = some (.slice ka o.cols.len kc) ∧ V.cell? ⟨pb, off + k * 13 + 4, none⟩ = some (.slice la o.olds.len lc) ∧ V.cell? ⟨pb, off + k * 13 + 5, none⟩ = some (.string o.part) ∧ V.cell? ⟨pb, off + k * 13 + 6, none⟩ = some (.string o.name) ∧ V.cell? ⟨pb, off + k * 13 + 7, none⟩ = some (.int .i64 o.n) ∧ V.cell? ⟨pb, off + k * 13 + 8, none⟩ = some (.int .i64 o.axis) ∧ V.cell? ⟨pb, off + k * 13 + 9, none⟩ = some (.int .i64 o.tk) ∧ V.cell? ⟨pb, off + k * 13 + 10, none⟩ = some (.string o.tn) ∧ V.cell? ⟨pb, off + k * 13 + 11, none⟩ = some (.slice ma o.rc.len mc) ∧ V.cell? ⟨pb, off + k * 13 + 12, none⟩ = some (.slice qa o.rm qc) ∧ V.cell? ⟨gj, 0, none⟩ = some (.slice ua0 ta.len uc0) ∧ V.cell? ⟨gj, 1, none⟩ = some (.slice ua1 tc.len uc1)) := fun V hV =>
                ⟨(hV.cell (p := ⟨pb, off + k * 13, none⟩) ho0).trans t0, (hV.cell (p := ⟨pb, off + k * 13 + 1, none⟩) ho0).trans t1, (hV.cell (p := ⟨pb, off + k * 13 + 2, none⟩) ho0).trans t2, (hV.cell (p := ⟨pb, off + k * 13 + 3, none⟩) ho0).trans t3, (hV.cell (p := ⟨pb, off + k * 13 + 4, none⟩) ho0).trans t4, (hV.cell (p := ⟨pb, off + k * 13 + 5, none⟩) ho0).trans t5, (hV.cell (p := ⟨pb, off + k * 13 + 6, none⟩) ho0).trans t6, (hV.cell (p := ⟨pb, off + k * 13 + 7, none⟩) ho0).trans t7, (hV.cell (p := ⟨pb, off + k * 13 + 8, none⟩) ho0).trans t8, (hV.cell (p := ⟨pb, off + k * 13 + 9, none⟩) ho0).trans t9, (hV.cell (p := ⟨pb, off + k * 13 + 10, none⟩) ho0).trans t10, (hV.cell (p := ⟨pb, off + k * 13 + 11, none⟩) ho0).trans t11, (hV.cell (p := ⟨pb, off + k * 13 + 12, none⟩) ho0).trans t12, (hV.cell (p := ⟨gj, 0, none⟩) gi2).trans gi3, (hV.cell (p := ⟨gj, 1, none⟩) gi2).trans gj3⟩
              obtain ⟨M, hM⟩ : ∃ M, M = o.nin + 2 := ⟨_, rfl⟩
              have hM0 : (0 : Int) < (M : Int) := by omega
              have hM1 : (1 : Int) < (M : Int) := by omega
              have hM0n : 0 < M := by omega
              have hM1n : 1 < M := by omega
              have hki : (k : Int) < (N : Int) := by omega
              rw [← hM]
              have HL6 := hidK (HLS.out.below hb6)
              have hbw6 : Hid (Below w.heap.size w w6) := HBR.out.trans (hb6.mono hzr)
              have HBW6 := hbw6
              have hzw6 := hb6.size
              try clear hM; try clear G0; try clear G1; try clear S0; try clear S1; try clear HG6; try clear HV6; try clear HV; try clear ei; try clear ej; try clear gi1; try clear gj1; try clear h3; try clear h4; try clear h11; try clear h12; try clear hm0; try clear hm1; try clear hbw6; try clear HBW; try clear HLW; try clear HOW; try clear hEW; try clear HB6; try clear hb6; try clear hqi; try clear hw1; try clear gi3; try clear gj3; try clear t0; try clear t1; try clear t2; try clear t3; try clear t4; try clear t5; try clear t6; try clear t7; try clear t8; try clear t9; try clear t10; try clear t11; try clear t12
              by_cases hE0 : E = 0
              rotate_left
              · have HFE := hidK (show F = E ∧ ¬ E = 0 by
                  have e : opF P k = E := by rw [HRS.out, if_neg hE0]
                  exact ⟨by rw [HF.out, planF_bad hN hlt HALL.out (by rw [e]; exact hE0), e], hE0⟩)
                have hEb : (E == 0) = false := by rw [beq_eq_false_iff_ne]; exact hE0
                have CE : Hid (∀ V, Below w6.heap.size w6 V → Calls Tryz.prog 14 #[.agg #[.int .i64 o.kind, .slice ja o.nin jc, .string o.new, .slice ka o.cols.len kc, .slice la o.olds.len lc, .string o.part, .string o.name, .int .i64 o.n, .int .i64 o.axis, .int .i64 o.tk, .string o.tn, .slice ma o.rc.len mc, .slice qa o.rm qc], .slice ua0 ta.len uc0, .slice ua1 tc.len uc1] V fun e w' => (∃ u, e = .returned (.tuple #[u, .int .i64 E])) ∧ Below V.heap.size V w') := fun V hV => (CO.out V hV).mono fun e w' ⟨u, h1, _, h3⟩ => ⟨⟨u, by rw [h1, ← HE.out]⟩, h3⟩
                try clear hE0; try clear CO; try clear HRS; try clear HE; try clear HCO; try clear HSZ; try clear HTT; try clear HKD; try clear HCT; try clear HFO; try clear HO6; try clear HOP
                obtain ⟨t0, t1, t2, t3, t4, t5, t6, t7, t8, t9, t10, t11, t12, t13, t14⟩ := HS.out w6 (Below.refl _ _)
                go_region_held3 (fun W => W.cell? ⟨pb, off + k * 13, none⟩ = some (.int .i64 o.kind) ∧ W.cell? ⟨pb, off + k * 13 + 1, none⟩ = some (.slice ja o.nin jc) ∧ W.cell? ⟨pb, off + k * 13 + 2, none⟩ = some (.string o.new) ∧ W.cell? ⟨pb, off + k * 13 + 3, none⟩ = some (.slice ka o.cols.len kc) ∧ W.cell? ⟨pb, off + k * 13 + 4, none⟩ = some (.slice la o.olds.len lc) ∧ W.cell? ⟨pb, off + k * 13 + 5, none⟩ = some (.string o.part) ∧ W.cell? ⟨pb, off + k * 13 + 6, none⟩ = some (.string o.name) ∧ W.cell? ⟨pb, off + k * 13 + 7, none⟩ = some (.int .i64 o.n) ∧ W.cell? ⟨pb, off + k * 13 + 8, none⟩ = some (.int .i64 o.axis) ∧ W.cell? ⟨pb, off + k * 13 + 9, none⟩ = some (.int .i64 o.tk) ∧ W.cell? ⟨pb, off + k * 13 + 10, none⟩ = some (.string o.tn) ∧ W.cell? ⟨pb, off + k * 13 + 11, none⟩ = some (.slice ma o.rc.len mc) ∧ W.cell? ⟨pb, off + k * 13 + 12, none⟩ = some (.slice qa o.rm qc) ∧ W.cell? ⟨gj, 0, none⟩ = some (.slice ua0 ta.len uc0) ∧ W.cell? ⟨gj, 1, none⟩ = some (.slice ua1 tc.len uc1))
                  ((refine HS.out _ ?_; (focus (repeat (first | exact Below.refl _ _ | exact Hid.out (by assumption) | refine Below.trans ?_ (drewO _ _))))))
                  (first | (go_at_call 14; refine (CE.out _ ?_).mono ?_; (· (focus (repeat (first | exact Below.refl _ _ | exact Hid.out (by assumption) | refine Below.trans ?_ (drewO _ _))))); rintro e w7 ⟨⟨u7, rfl⟩, hb7⟩; have HB7 : Hid (Below w6.heap.size w6 w7) := Below.trans (by (focus (repeat (first | exact Below.refl _ _ | exact Hid.out (by assumption) | refine Below.trans ?_ (drewO _ _))))) (hb7.mono (Nat.le_refl _)); obtain ⟨t0, t1, t2, t3, t4, t5, t6, t7, t8, t9, t10, t11, t12, t13, t14⟩ := HS.out _ HB7.out; clear hb7 CE))
                go_wp2
                refine bodyPost_ret (v := .tuple #[.slice none 0 0, .int .i64 E]) (by simp [results, Tryz.results5, go_sem]) rfl ⟨_, by rw [HFE.out.1], by rw [HFE.out.1]; exact bad_lists HFE.out.2, HBW6.out.trans (HB7.out.mono (by have := HBW6.out.size; omega))⟩
              · subst hE0
                have CE : Hid (∀ V, Below w6.heap.size w6 V → Calls Tryz.prog 14 #[.agg #[.int .i64 o.kind, .slice ja o.nin jc, .string o.new, .slice ka o.cols.len kc, .slice la o.olds.len lc, .string o.part, .string o.name, .int .i64 o.n, .int .i64 o.axis, .int .i64 o.tk, .string o.tn, .slice ma o.rc.len mc, .slice qa o.rm qc], .slice ua0 ta.len uc0, .slice ua1 tc.len uc1] V fun e w' => (∃ x y, e = .returned (.tuple #[.slice x T.len y, .int .i64 0]) ∧ StrsIs w' (.slice x T.len y) T.len T.at_) ∧ Below V.heap.size V w') := fun V hV => (CO.out V hV).mono fun e w' ⟨u, h1, h2, h3⟩ => by
                  obtain ⟨x, y, h4, h5⟩ := h2 HE.out.symm
                  rw [← HCO.out] at h4 h5
                  rw [← HE.out, h4] at h1
                  rw [h4] at h5
                  exact ⟨⟨x, y, h1, h5⟩, h3⟩
                have CG : Hid (∀ V v, StrsIs V v T.len T.at_ → Calls Tryz.prog 15 #[v] V fun e w' => e = .returned (.int .i64 (colsF T.at_ T.len)) ∧ Below V.heap.size V w') := fun V v hv => colsFault_is v T.len T.at_ V hv HSZ.out
                have HRG : Hid (opF P k = colsF T.at_ T.len) := by
                  have h := HRS.out
                  rw [if_pos rfl] at h
                  exact h
                obtain ⟨t0, t1, t2, t3, t4, t5, t6, t7, t8, t9, t10, t11, t12, t13, t14⟩ := HS.out w6 (Below.refl _ _)
                by_cases hG0 : colsF T.at_ T.len = 0
                rotate_left
                · have HFG := hidK (show F = colsF T.at_ T.len ∧ ¬ colsF T.at_ T.len = 0 from ⟨by rw [HF.out, planF_bad hN hlt HALL.out (by rw [HRG.out]; exact hG0), HRG.out], hG0⟩)
                  have hGb : (colsF T.at_ T.len == 0) = false := by rw [beq_eq_false_iff_ne]; exact hG0
                  try clear hG0; try clear CO; try clear HRS; try clear HE; try clear HCO; try clear HSZ; try clear HTT; try clear HKD; try clear HCT; try clear HFO; try clear HO6; try clear HOP; try clear HRG
                  generalize colsF T.at_ T.len = G at *
                  generalize T.len = tl at *
                  go_region_held3 (fun W => W.cell? ⟨pb, off + k * 13, none⟩ = some (.int .i64 o.kind) ∧ W.cell? ⟨pb, off + k * 13 + 1, none⟩ = some (.slice ja o.nin jc) ∧ W.cell? ⟨pb, off + k * 13 + 2, none⟩ = some (.string o.new) ∧ W.cell? ⟨pb, off + k * 13 + 3, none⟩ = some (.slice ka o.cols.len kc) ∧ W.cell? ⟨pb, off + k * 13 + 4, none⟩ = some (.slice la o.olds.len lc) ∧ W.cell? ⟨pb, off + k * 13 + 5, none⟩ = some (.string o.part) ∧ W.cell? ⟨pb, off + k * 13 + 6, none⟩ = some (.string o.name) ∧ W.cell? ⟨pb, off + k * 13 + 7, none⟩ = some (.int .i64 o.n) ∧ W.cell? ⟨pb, off + k * 13 + 8, none⟩ = some (.int .i64 o.axis) ∧ W.cell? ⟨pb, off + k * 13 + 9, none⟩ = some (.int .i64 o.tk) ∧ W.cell? ⟨pb, off + k * 13 + 10, none⟩ = some (.string o.tn) ∧ W.cell? ⟨pb, off + k * 13 + 11, none⟩ = some (.slice ma o.rc.len mc) ∧ W.cell? ⟨pb, off + k * 13 + 12, none⟩ = some (.slice qa o.rm qc) ∧ W.cell? ⟨gj, 0, none⟩ = some (.slice ua0 ta.len uc0) ∧ W.cell? ⟨gj, 1, none⟩ = some (.slice ua1 tc.len uc1))
                  ((refine HS.out _ ?_; (focus (repeat (first | exact Below.refl _ _ | exact Hid.out (by assumption) | refine Below.trans ?_ (drewO _ _))))))
                  (first | (go_at_call 14; refine (CE.out _ ?_).mono ?_; (· (focus (repeat (first | exact Below.refl _ _ | exact Hid.out (by assumption) | refine Below.trans ?_ (drewO _ _))))); rintro e w7 ⟨⟨x7, y7, rfl, hs7⟩, hb7⟩; have HS7 := hidK hs7; have HB7 : Hid (Below w6.heap.size w6 w7) := Below.trans (by (focus (repeat (first | exact Below.refl _ _ | exact Hid.out (by assumption) | refine Below.trans ?_ (drewO _ _))))) (hb7.mono (Nat.le_refl _)); obtain ⟨t0, t1, t2, t3, t4, t5, t6, t7, t8, t9, t10, t11, t12, t13, t14⟩ := HS.out _ HB7.out; clear hb7 hs7 CE))
                  go_wp2_with (first | (go_at_call 15; refine (CG.out _ _ HS7.out).mono ?_; rintro e w8 ⟨rfl, hb8⟩; have HB8 : Hid (Below w6.heap.size w6 w8) := HB7.out.trans (hb8.mono HB7.out.size); clear hb8 CG))
                  refine bodyPost_ret (v := .tuple #[.slice none 0 0, .int .i64 G]) (by simp [results, Tryz.results5, go_sem]) rfl ⟨_, by rw [HFG.out.1], by rw [HFG.out.1]; exact bad_lists HFG.out.2, HBW6.out.trans (HB8.out.mono (by have := HBW6.out.size; omega))⟩
                · have hT8 := colsF_le hG0
                  rw [hG0] at CG HRG
                  have CX : Hid (∀ V b v, b < V.heap.size → V.cell? ⟨b, 0, none⟩ = some v → StrsIs V v T.len T.at_ → Calls Tryz.prog 16 #[.slice (some ⟨b, 0, none⟩) 1 1] V fun e w' => (∃ a' c', e = .returned (.slice a' T.len c') ∧ StrsFrom w' V.heap.size (.slice a' T.len c') T.len T.at_) ∧ Below V.heap.size V w') := fun V b v hb hc hv => (texts_one b 0 1 v T.len T.at_ V (Nat.le_refl _) (by unfold maxLen; omega) hb hc hv (by omega)).mono (by
                    rintro e w' ⟨u, rfl, h1, ⟨a', c', rfl⟩, h2⟩
                    exact ⟨⟨a', c', rfl, h1⟩, h2⟩)
                  have HTA : Hid (∀ V g x y, StrsFrom V g (.slice x T.len y) T.len T.at_ → wr.heap.size ≤ g → TxtApart V w.heap.size (Value.slice oa k oc).ownBlock (.slice x T.len y) (colK P k).len (colK P k).at_) := fun V g x y h hg => by
                    rw [← HTT.out]
                    exact TxtApart.from h (by omega) (fun z hz => by have := (HLS.out.lt z hz).2; omega)
                  have HALL2 : Hid (∀ t, t < k + 1 → opF P t = 0) := fun t ht => by
                    by_cases e : t = k
                    · rw [e]; exact HRG.out
                    · exact HALL.out t (by omega)
                  obtain ⟨tl, htl⟩ : ∃ tl, tl = T.len := ⟨_, rfl⟩
                  rw [← htl] at CE CG CX HTA hT8
                  try clear hG0; try clear CO; try clear HRS; try clear HE; try clear HCO; try clear HSZ; try clear HTT; try clear HKD; try clear HCT; try clear HFO; try clear HO6; try clear HOP; try clear HRG; try clear htl
                  go_region_held3 (fun W => W.cell? ⟨pb, off + k * 13, none⟩ = some (.int .i64 o.kind) ∧ W.cell? ⟨pb, off + k * 13 + 1, none⟩ = some (.slice ja o.nin jc) ∧ W.cell? ⟨pb, off + k * 13 + 2, none⟩ = some (.string o.new) ∧ W.cell? ⟨pb, off + k * 13 + 3, none⟩ = some (.slice ka o.cols.len kc) ∧ W.cell? ⟨pb, off + k * 13 + 4, none⟩ = some (.slice la o.olds.len lc) ∧ W.cell? ⟨pb, off + k * 13 + 5, none⟩ = some (.string o.part) ∧ W.cell? ⟨pb, off + k * 13 + 6, none⟩ = some (.string o.name) ∧ W.cell? ⟨pb, off + k * 13 + 7, none⟩ = some (.int .i64 o.n) ∧ W.cell? ⟨pb, off + k * 13 + 8, none⟩ = some (.int .i64 o.axis) ∧ W.cell? ⟨pb, off + k * 13 + 9, none⟩ = some (.int .i64 o.tk) ∧ W.cell? ⟨pb, off + k * 13 + 10, none⟩ = some (.string o.tn) ∧ W.cell? ⟨pb, off + k * 13 + 11, none⟩ = some (.slice ma o.rc.len mc) ∧ W.cell? ⟨pb, off + k * 13 + 12, none⟩ = some (.slice qa o.rm qc) ∧ W.cell? ⟨gj, 0, none⟩ = some (.slice ua0 ta.len uc0) ∧ W.cell? ⟨gj, 1, none⟩ = some (.slice ua1 tc.len uc1))
                  ((refine HS.out _ ?_; (focus (repeat (first | exact Below.refl _ _ | exact Hid.out (by assumption) | refine Below.trans ?_ (drewO _ _))))))
                  (first | (go_at_call 14; refine (CE.out _ ?_).mono ?_; (· (focus (repeat (first | exact Below.refl _ _ | exact Hid.out (by assumption) | refine Below.trans ?_ (drewO _ _))))); rintro e w7 ⟨⟨x7, y7, rfl, hs7⟩, hb7⟩; have HS7 := hidK hs7; have HB7 : Hid (Below w6.heap.size w6 w7) := Below.trans (by (focus (repeat (first | exact Below.refl _ _ | exact Hid.out (by assumption) | refine Below.trans ?_ (drewO _ _))))) (hb7.mono (Nat.le_refl _)); obtain ⟨t0, t1, t2, t3, t4, t5, t6, t7, t8, t9, t10, t11, t12, t13, t14⟩ := HS.out _ HB7.out; clear hb7 hs7 CE))
                  have hz7 := HB7.out.size
                  go_wp2_with (first
                    | (go_at_call 15; refine (CG.out _ _ HS7.out).mono ?_; rintro e w8 ⟨rfl, hb8⟩; have HS8 := hidK (HS7.out.below hb8); have HB8 : Hid (Below w6.heap.size w6 w8) := HB7.out.trans (hb8.mono HB7.out.size); have hz8 := HB8.out.size; clear hb8 CG HS7)
                    | (go_at_call 16; refine (CX.out _ _ (.slice x7 tl y7) ?_ ?_ ?_).mono ?_; (· simp); (· simp [go_sem]); (· exact HS8.out.below ((Below.refl _ _).alloc (Nat.le_refl _) _)); rintro e w9 ⟨⟨x9, y9, rfl, hs9⟩, hb9⟩; have HS9 := hidK (hs9.below ((Below.refl _ _).alloc (Nat.le_refl _) (.cells #[.slice x9 tl y9] 35))); have HB9 : Hid (Below w6.heap.size w6 w9) := (HB8.out.alloc HB8.out.size _).trans (hb9.mono (by simp; omega)); have hz9 := HB9.out.size; clear hb9 hs9 CX HS8)
                    | (at_builtin; refine wpList_push_ls rfl (.tmp 102) (.tmp 106) rfl w.heap.size k (.slice oa k oc) us (colK P) rfl (HL6.out.below (HB9.out.alloc HB9.out.size _)) (by simp; omega) ⟨w9.heap.size, 0, none⟩ 1 (.slice x9 tl y9) rfl (by simp) (HTA.out _ _ _ _ HS9.out (by simp; omega)) (by omega) ?_; intro v10 w10 hl10 hsh10 hg10; obtain ⟨va10, vc10, rfl⟩ := hsh10; have HL10 := hidK hl10; have HB10 : Hid (Below w.heap.size w w10) := (HBW6.out.trans ((HB9.out.alloc HB9.out.size _).mono (by omega))).grown hg10 (by simp; omega) (fun z hz => (HLS.out.lt z hz).1); clear hl10 hg10))
                  go_roundw
                  case rel => exact ⟨k + 1, _, by omega, by go_num, HL10.out, HALL2.out, HB10.out⟩
                  case measure => simp [intOf]; omega
    · have hkn : k = N := by omega
      subst hkn
      obtain ⟨M, hM⟩ : ∃ M, k = M + 1 := ⟨k - 1, by omega⟩
      have hw : IntKind.i64.wrap ((k : Int) - 1) = (M : Int) := by rw [IntWalk.i64_in _ (by omega)]; omega
      have hMk : (M : Int) < (k : Int) := by omega
      have hki : ¬ (k : Int) < (k : Int) := by omega
      have HE : Hid (F = if allT (colK P M) piC = true then 0 else 9) := by
        have h : F = if allT (colK P M) piC = true then 0 else 9 := by rw [HF.out, planF_end hN h0 HALL.out, show k - 1 = M by omega]
        exact h
      obtain ⟨u, hu1, ⟨ua, uc, rfl⟩, _⟩ := HLS.out.2 M (by omega)
      obtain ⟨u2, hu2, hu3⟩ := HLS.out.2 M (by omega)
      rw [hu1] at hu2
      cases hu2
      have hus := hu3.is
      obtain ⟨og, oc', eo, ho1, ho2, ho3⟩ := own_cell HLS.out.1 (i := M) (by omega)
      obtain rfl : oa = some ⟨og, 0, none⟩ := by cases eo; rfl
      rw [hu1] at ho3
      have CT : Hid (∀ V v, Below wr.heap.size wr V → StrsIs V v piC.len piC.at_ → Calls Tryz.prog 17 #[.slice ua (colK P M).len uc, v] V fun e w' => e = .returned (.bool (allT (colK P M) piC)) ∧ w' = V) := fun V v hV hv => allThere_is _ _ (colK P M) piC V (hus.below hV) hv
      try clear hu1; try clear hu3; try clear eo; try clear ho1; try clear hus; try clear hM
      cases hB : allT (colK P M) piC with
      | false =>
        have HF9 := hidK (show F = 9 by rw [HE.out, hB]; rfl)
        rw [hB] at CT
        clear HE hB
        generalize (colK P M).len = kl at *
        go_wp2_with (go_at_call 17; refine (CT.out _ _ ?_ ?_).mono ?_; (· exact (Below.refl _ _).alloc (Nat.le_refl _) _); (· exact strs_pi (kNew (by simp))); rintro e w' ⟨rfl, hww⟩; obtain rfl := hww.symm; clear hww CT)
        refine bodyPost_ret (v := .tuple #[.slice none 0 0, .int .i64 9]) (by simp [results, Tryz.results5, go_sem]) rfl ⟨_, by rw [HF9.out], by rw [HF9.out]; exact ListsIs.nil _ _, HBR.out.alloc hzr _⟩
      | true =>
        have HF0 := hidK (show F = 0 by rw [HE.out, hB]; rfl)
        rw [hB] at CT
        clear HE hB
        generalize (colK P M).len = kl at *
        go_wp2_with (go_at_call 17; refine (CT.out _ _ ?_ ?_).mono ?_; (· exact (Below.refl _ _).alloc (Nat.le_refl _) _); (· exact strs_pi (kNew (by simp))); rintro e w' ⟨rfl, hww⟩; obtain rfl := hww.symm; clear hww CT)
        refine bodyPost_ret (v := .tuple #[.slice (some ⟨og, 0, none⟩) k oc, .int .i64 0]) (by simp [results, Tryz.results5, go_sem]) rfl ⟨_, by rw [HF0.out], by rw [HF0.out]; exact HLS.out.is.below ((Below.refl _ _).alloc (Nat.le_refl _) _), HBR.out.alloc hzr _⟩
/-- the document's columns of a plan -/
theorem rcolsOf_is (v : Value) (N : Nat) (P : Nat → Opm) (w : World) (hv : PlanIs w v N P) (hP : ∀ i, i < N → OpFine (P i)) (hT : Tabs w) :
    Calls Tryz.prog 5 #[v] w fun e w' => ∃ u, e = .returned (.tuple #[u, .int .i64 (planF P N)]) ∧ ListsIs w' u (okN (planF P N) N) (colK P) ∧ Below w.heap.size w w' := by
  by_cases hN : 200000 < N
  · exact rcols_many v N P w hv hN
  · by_cases h0 : 0 < N
    · exact rcols_some v N P w hv hP hT h0 (by omega)
    · obtain rfl : N = 0 := by omega
      exact rcols_none v P w hv
end Go.Proofs.YtkcejelmohameaaGreatDoor
