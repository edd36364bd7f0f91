/-
  THE LAW JoinCross of package pleacherkeep.
-/
import Derived.Test.YtalllggokmhgeaaDoorKpJo
import Derived.Deep.QuietTactic
import Derived.BigQuiet
import Derived.Deep.RegionHeld3
set_option linter.unusedVariables false
namespace Go.Proofs.YtalllggokmhgeaaDoor
set_option maxRecDepth 100000
open Go.RowKit Go.WideShapes

theorem relation_ex (v : Value) (n : Nat) (X : Nat → Rw) (a b : ByteArray) (w : World) (hv : RawsIs w v n X) (hf : RawsFine n X) :
    Calls Tryd.prog 4 #[v, .string a, .string b] w fun e w' => ∃ ca cc ra rc, e = .returned (.agg #[.slice ca 2 cc, .slice ra (rawN n) rc]) ∧ CopyIs w' (.slice ca 2 cc) (.slice ra (rawN n) rc) 2 (rawN n) (twoC a b) (rawR X) ∧ Chain w w' := by
  refine (relation_is v n X a b w hv hf).mono ?_
  rintro e w' ⟨c, q, rfl, h1, h2, h3, h4⟩
  have h1' := h1
  obtain ⟨ca, cc, rfl, _⟩ := h1
  have h2' := h2.is
  obtain ⟨ra, rc, rfl⟩ := h2.shape
  exact ⟨ca, cc, ra, rc, rfl, ⟨h1', h2'⟩, h3⟩
set_option maxHeartbeats 12800000 in
theorem lawJoinCross (v u : Value) (n n' : Nat) (X Y : Nat → Rw) (w : World) (hv : RawsIs w v n X) (hf : RawsFine n X) (hu : RawsIs w u n' Y) (hf' : RawsFine n' Y) (hT : Tabs w) :
    Calls Tryd.prog 3 #[v, u] w fun e w' => e = .returned (.bool true) ∧ Below w.heap.size w w' := by
  have hm := rawN_le n
  have hm' := rawN_le n'
  have CA : Hid (∀ W, Chain w W → Calls Tryd.prog 4 #[v, .string ⟨#[97]⟩, .string ⟨#[98]⟩] W fun e w' => ∃ ca cc ra rc, e = .returned (.agg #[.slice ca 2 cc, .slice ra (rawN n) rc]) ∧ CopyIs w' (.slice ca 2 cc) (.slice ra (rawN n) rc) 2 (rawN n) (twoC nA nB) (rawR X) ∧ Chain W w') := fun W hW => relation_ex v n X nA nB W (hv.below hW) hf
  have CB : Hid (∀ W, Chain w W → Calls Tryd.prog 4 #[u, .string ⟨#[99]⟩, .string ⟨#[100]⟩] W fun e w' => ∃ ca cc ra rc, e = .returned (.agg #[.slice ca 2 cc, .slice ra (rawN n') rc]) ∧ CopyIs w' (.slice ca 2 cc) (.slice ra (rawN n') rc) 2 (rawN n') (twoC nC nD) (rawR Y) ∧ Chain W w') := fun W hW => relation_ex u n' Y nC nD W (hu.below hW) hf'
  have CJ : Hid (∀ W c q c' q', Chain w W → CopyIs W c q 2 (rawN n) (twoC nA nB) (rawR X) → CopyIs W c' q' 2 (rawN n') (twoC nC nD) (rawR Y) → Calls Tryd.prog 5 #[.agg #[c, q], .agg #[c', q'], .string ⟨#[97]⟩, .string ⟨#[99]⟩] W fun e w' => ∃ a3 k3 b3 l3, e = .returned (.tuple #[.agg #[.slice a3 4 k3, .slice b3 (keptN (wantK X Y (rawN n) (rawN n')) (rawN n * rawN n')) l3], .int .i64 0]) ∧ RowsIs w' (.slice b3 (keptN (wantK X Y (rawN n) (rawN n')) (rawN n * rawN n')) l3) (keptN (wantK X Y (rawN n) (rawN n')) (rawN n * rawN n')) (joR (rawR X) (rawN n) (rawR Y) (rawN n') 0 0) ∧ Chain W w') := fun W c q c' q' hW h1 h2 => by
    have h := join_is c q c' q' 2 (rawN n) 2 (rawN n') (twoC nA nB) (twoC nC nD) (rawR X) (rawR Y) nA nC W h1.1 h1.2 (cols_fine _ _ (by decide) (by decide)) (raw_fine X _ hm) h2.1 h2.2 (cols_fine _ _ (by decide) (by decide)) (raw_fine Y _ hm') (Utf8Tabs_below hT hW)
    rw [jo_ok X Y _ _ hm hm', show joP (twoC nA nB) 2 nA = 0 by unfold joP; rw [col_at0]; rfl, show joP (twoC nC nD) 2 nC = 0 by unfold joP; rw [col_at0]; rfl, want_n] at h
    refine h.mono ?_
    rintro e w' ⟨c1, q1, h3, h4, h5⟩
    obtain ⟨h7, h8⟩ := h4 w' (Nat.le_refl _) (fun _ _ _ => rfl)
    have h9 := h8
    obtain ⟨a3, k3, rfl, _⟩ := h7
    obtain ⟨b3, l3, rfl, _⟩ := h8
    exact ⟨a3, k3, b3, l3, h3, h9, h5⟩
  have CX : Hid (∀ W c q c' q', Chain w W → CopyIs W c q 2 (rawN n) (twoC nA nB) (rawR X) → CopyIs W c' q' 2 (rawN n') (twoC nC nD) (rawR Y) → Calls Tryd.prog 6 #[.agg #[c, q], .agg #[c', q']] W fun e w' => ∃ a3 k3 b3 l3, e = .returned (.tuple #[.agg #[.slice a3 4 k3, .slice b3 (rawN n * rawN n') l3], .int .i64 0]) ∧ RowsIs w' (.slice b3 (rawN n * rawN n') l3) (rawN n * rawN n') (crR (rawR X) (rawN n) (rawR Y) (rawN n')) ∧ Chain W w') := fun W c q c' q' hW h1 h2 => by
    have h := cross_is c q c' q' 2 (rawN n) 2 (rawN n') (twoC nA nB) (twoC nC nD) (rawR X) (rawR Y) W h1.1 h1.2 (cols_fine _ _ (by decide) (by decide)) (raw_fine X _ hm) h2.1 h2.2 (cols_fine _ _ (by decide) (by decide)) (raw_fine Y _ hm') (Utf8Tabs_below hT hW)
    rw [cr_ok X Y _ _ hm hm', pairN_con] at h
    refine h.mono ?_
    rintro e w' ⟨c1, q1, h3, h4, h5⟩
    obtain ⟨h7, h8⟩ := h4 w' (Nat.le_refl _) (fun _ _ _ => rfl)
    have h9 := h8
    obtain ⟨a3, k3, rfl, _⟩ := h7
    obtain ⟨b3, l3, rfl, _⟩ := h8
    exact ⟨a3, k3, b3, l3, h3, h9, h5⟩
  have CT : Hid (∀ W c q, Chain w W → CopyIs W c q 2 (rawN n) (twoC nA nB) (rawR X) → Calls Tryd.prog 5 #[.agg #[c, q], .agg #[c, q], .string ⟨#[97]⟩, .string ⟨#[97]⟩] W fun e w' => ∃ a3 k3 b3 l3, e = .returned (.tuple #[.agg #[.slice a3 0 k3, .slice b3 0 l3], .int .i64 7]) ∧ Chain W w') := fun W c q hW h1 => by
    have h := join_is c q c q 2 (rawN n) 2 (rawN n) (twoC nA nB) (twoC nA nB) (rawR X) (rawR X) nA nA W h1.1 h1.2 (cols_fine _ _ (by decide) (by decide)) (raw_fine X _ hm) h1.1 h1.2 (cols_fine _ _ (by decide) (by decide)) (raw_fine X _ hm) (Utf8Tabs_below hT hW)
    rw [jo_twice X _ hm] at h
    refine h.mono ?_
    rintro e w' ⟨c1, q1, h3, h4, h5⟩
    obtain ⟨h7, h8⟩ := h4 w' (Nat.le_refl _) (fun _ _ _ => rfl)
    obtain ⟨a3, k3, rfl, _⟩ := h7
    obtain ⟨b3, l3, rfl, _⟩ := h8
    exact ⟨a3, k3, b3, l3, h3, h5⟩
  have HLEN : Hid (∀ t, t < rawN n * rawN n' → (crR (rawR X) (rawN n) (rawR Y) (rawN n') t).len = 4) := cr_len X Y _ _
  have HK : Hid (∀ t, wantK X Y (rawN n) (rawN n') t = itB ((crR (rawR X) (rawN n) (rawR Y) (rawN n') t).at_ 2) ((crR (rawR X) (rawN n) (rawR Y) (rawN n') t).at_ 0)) := fun t => rfl
  have HSAME : Hid (∀ i, i < keptN (wantK X Y (rawN n) (rawN n')) (rawN n * rawN n') → joR (rawR X) (rawN n) (rawR Y) (rawN n') 0 0 i = keptR (wantK X Y (rawN n) (rawN n')) (rawN n * rawN n') (crR (rawR X) (rawN n) (rawR Y) (rawN n')) i) := want_row X Y _ _
  have hP1 : rawN n * rawN n' ≤ 144 := Nat.mul_le_mul hm hm'
  have hwr : IntKind.i64.wrap ((rawN n : Int) * (rawN n' : Int)) = ((rawN n * rawN n' : Nat) : Int) := by
    rw [← Int.natCast_mul]
    exact IntWalk.i64_in _ (by omega)
  obtain ⟨va, vc, rfl, _⟩ := hv
  obtain ⟨ua, uc, rfl, _⟩ := hu
  clear hf hf' hT
  obtain ⟨U, hU⟩ : ∃ U, U = crR (rawR X) (rawN n) (rawR Y) (rawN n') := ⟨_, rfl⟩
  obtain ⟨V, hV⟩ : ∃ V, V = joR (rawR X) (rawN n) (rawR Y) (rawN n') 0 0 := ⟨_, rfl⟩
  obtain ⟨K, hK⟩ : ∃ K, K = wantK X Y (rawN n) (rawN n') := ⟨_, rfl⟩
  rw [← hU] at CX HLEN HK HSAME
  rw [← hV] at CJ HSAME
  rw [← hK] at CJ HK HSAME
  obtain ⟨P, hP⟩ : ∃ P, P = rawN n * rawN n' := ⟨_, rfl⟩
  rw [← hP] at CJ CX HLEN HSAME hP1 hwr
  obtain ⟨N, hN⟩ : ∃ N, N = keptN K P := ⟨_, rfl⟩
  rw [← hN] at CJ HSAME
  obtain ⟨M, hM⟩ : ∃ M, M = rawN n := ⟨_, rfl⟩
  obtain ⟨M', hM'⟩ : ∃ M', M' = rawN n' := ⟨_, rfl⟩
  rw [← hM] at CA CJ CX CT hm hwr
  rw [← hM'] at CB CJ CX hm' hwr
  have HN : Hid (N = keptN K P) := hN
  have hNP : N ≤ P := hN ▸ keptN_le K P
  clear hM hM' hP hN hU hV hK
  go_enter Tryd.func3, Tryd.ntmps3
  go_upto_region 2 with (go_at_call 4; refine (CA.out _ (Chain.refl _)).mono ?_; rintro e w1 ⟨ca, cc, ra, rc, rfl, hc1, hb1⟩)
  have HC1 : Hid (CopyIs w1 (.slice ca 2 cc) (.slice ra M rc) 2 M (twoC nA nB) (rawR X)) := hc1
  have HB1 : Hid (Chain w w1) := hb1
  clear hc1 hb1
  go_upto_region 3 with (go_at_call 4; refine (CB.out _ (HB1.out.alloc _)).mono ?_; rintro e w2 ⟨cb, cd, rb, rd, rfl, hc2, hb2⟩)
  have HC2 : Hid (CopyIs w2 (.slice cb 2 cd) (.slice rb M' rd) 2 M' (twoC nC nD) (rawR Y)) := hc2
  have HB12 : Hid (Chain w1 w2) := ((Chain.refl _).alloc _).trans hb2
  obtain ⟨x0, x1, x2, _, _⟩ := kept_new hb2
  clear hb2 hc2
  go_upto_region 4 with (go_at_call 5; refine (CJ.out _ _ _ _ _ ((HB1.out.trans HB12.out).alloc _) (HC1.out.chain (HB12.out.alloc _)) (HC2.out.alloc _)).mono ?_; rintro e w3 ⟨a3, k3, b3, l3, rfl, hr3, hb3⟩)
  have HB23 : Hid (Chain w2 w3) := ((Chain.refl _).alloc _).trans hb3
  have HR3 : Hid (RowsIs w3 (.slice b3 N l3) N V) := hr3
  obtain ⟨y0, y1, y2, _, _⟩ := kept_new hb3
  obtain ⟨x3, x4, x5⟩ := carry2 HB23.out x0 x1 x2
  clear hb3 hr3 x0 x1
  go_upto_region 5 with (go_at_call 6; refine (CX.out _ _ _ _ _ (((HB1.out.trans HB12.out).trans HB23.out).alloc _) (HC1.out.chain ((HB12.out.trans HB23.out).alloc _)) (HC2.out.chain (HB23.out.alloc _))).mono ?_; rintro e w4 ⟨a4, k4, b4, l4, rfl, hr4, hb4⟩)
  have HB34 : Hid (Chain w3 w4) := ((Chain.refl _).alloc _).trans hb4
  have HR4 : Hid (RowsIs w4 (.slice b4 P l4) P U) := hr4
  obtain ⟨z0, z1, z2, _, _⟩ := kept_new hb4
  obtain ⟨y3, y4, y5⟩ := carry2 HB34.out y0 y1 y2
  obtain ⟨x6, x7, x8⟩ := carry2 HB34.out x3 x4 x5
  clear hb4 hr4 x3 x4 y0 y1
  obtain ⟨W4, hW4⟩ : ∃ W4 : World, W4 = w4.alloc (.cells #[.slice a4 4 k4, .slice b4 P l4] 26) := ⟨_, rfl⟩
  have hsz : w4.heap.size < W4.heap.size := by rw [hW4]; simp
  have HB4W : Hid (Chain w4 W4) := by rw [hW4]; exact (Chain.refl _).alloc _
  have HS : Hid (∀ W, Chain W4 W → (W.cell? ⟨w1.heap.size, 0, none⟩ = some (.slice ca 2 cc) ∧ W.cell? ⟨w1.heap.size, 1, none⟩ = some (.slice ra M rc) ∧ w1.heap.size < W.heap.size) ∧ (W.cell? ⟨w2.heap.size, 0, none⟩ = some (.slice cb 2 cd) ∧ W.cell? ⟨w2.heap.size, 1, none⟩ = some (.slice rb M' rd) ∧ w2.heap.size < W.heap.size) ∧ (W.cell? ⟨w3.heap.size, 0, none⟩ = some (.slice a3 4 k3) ∧ W.cell? ⟨w3.heap.size, 1, none⟩ = some (.slice b3 N l3) ∧ w3.heap.size < W.heap.size) ∧ (W.cell? ⟨w4.heap.size, 0, none⟩ = some (.slice a4 4 k4) ∧ W.cell? ⟨w4.heap.size, 1, none⟩ = some (.slice b4 P l4) ∧ w4.heap.size < W.heap.size)) := fun W h => by
    have g0 : W4.cell? ⟨w4.heap.size, 0, none⟩ = some (.slice a4 4 k4) ∧ W4.cell? ⟨w4.heap.size, 1, none⟩ = some (.slice b4 P l4) := by rw [hW4]; exact ⟨by simp, by simp⟩
    exact ⟨carry2 (HB4W.out.trans h) x6 x7 x8, carry2 (HB4W.out.trans h) y3 y4 y5, carry2 (HB4W.out.trans h) z0 z1 z2, carry2 h g0.1 g0.2 hsz⟩
  obtain ⟨rv, hrv⟩ := rows_vals2 (HR4.out.below HB4W.out)
  have HRV : Hid (∀ i, i < P → ∀ W, Chain W4 W → ∃ b off, b4 = some ⟨b, off, none⟩ ∧ b < W4.heap.size ∧ W.cell? ⟨b, off + i, none⟩ = some (rv i) ∧ ItsIs W (rv i) 4 (U i).at_) := fun i hi W hW => by
    obtain ⟨b, off, k1, k2, k3, k4⟩ := hrv i hi W hW
    rw [HLEN.out i hi] at k4
    exact ⟨b, off, k1, k2, k3, k4⟩
  have HWW : Hid (∀ W, Chain W4 W → Chain w W) := fun W h => ((((HB1.out.trans HB12.out).trans HB23.out).trans HB34.out).trans HB4W.out).trans h
  have HCA : Hid (∀ W, Chain W4 W → CopyIs W (.slice ca 2 cc) (.slice ra M rc) 2 M (twoC nA nB) (rawR X)) := fun W h => HC1.out.chain ((((HB12.out.trans HB23.out).trans HB34.out).trans HB4W.out).trans h)
  have HRJ : Hid (∀ W, Chain W4 W → RowsIs W (.slice b3 N l3) N V) := fun W h => HR3.out.below ((HB34.out.trans HB4W.out).trans h)
  have HWANT : Hid (∀ W, Chain W4 W → ∀ v, W.ownsRow W4.heap.size 32 1 v (keptN K P) ((keptL K P).map rv) → RowsIs W v N (keptR K P U)) := fun W h v ho => by
    have h1 := own_rows (R := keptR K P U) ho (kept_vals fun i hi => by
      obtain ⟨b, off, _, _, _, k4⟩ := hrv i hi W h
      exact k4)
    rw [← HN.out] at h1
    exact h1
  obtain ⟨i0, hi0, hz0', hz1, hz2'⟩ := info_parts infoItems
  rw [← hW4]
  clear hW4 hrv HLEN CA CB CJ CX HB1 HB12 HB23 HB34 HB4W HC1 HC2 HR3 HR4 x2 x5 x6 x7 x8 y2 y3 y4 y5 z0 z1 z2
  obtain ⟨⟨p0, p1, p2⟩, ⟨q0, q1, q2⟩, ⟨r0, r1, r2⟩, ⟨s0, s1, s2⟩⟩ := HS.out W4 (Chain.refl _)
  go_wp2
  go_loopw [11, 35] (fun v i wr => ∃ k : Nat, k ≤ P ∧ i = .int .i64 k ∧ wr.ownsRow W4.heap.size 32 1 v (keptN K k) ((keptL K k).map rv) ∧ Chain W4 wr) (fun _ i _ => P - (intOf i).toNat)
  case atStart => exact ⟨0, Nat.zero_le _, rfl, World.ownsRow_nil _ _ _ _, Chain.refl _⟩
  case round =>
    clear p0 p1 p2 q0 q1 q2 r0 r1 r2 s0 s1 s2
    obtain ⟨k, hk, rfl, hown, hch⟩ := hrel
    have HV : Hid (wr.ownsRow W4.heap.size 32 1 _ (keptN K k) ((keptL K k).map rv)) := hown
    have HCH : Hid (Chain W4 wr) := hch
    have hzr : W4.heap.size ≤ wr.heap.size := Below.size hch
    obtain ⟨wa, wc, rfl⟩ := own_shape hown
    have hgP : keptN K k ≤ 144 := Nat.le_trans (keptN_le K k) (by omega)
    clear hown
    by_cases hkl : k < P
    · obtain ⟨b, off, rfl, hb0, e1, hu⟩ := HRV.out k hkl wr hch
      obtain ⟨ua', ucap, huv, k1, k2, _, k3⟩ := hu
      obtain ⟨ub, uo, rfl, hub, k4'⟩ := k3 (by omega)
      obtain ⟨f0, f1, f2⟩ := k4' 0 (by omega)
      obtain ⟨g0, g1, g2⟩ := k4' 2 (by omega)
      rw [huv] at e1
      have hki : (k : Int) < (P : Int) := by omega
      have hbz : b < wr.heap.size := by omega
      simp only [Nat.zero_mul, Nat.add_zero, Nat.reduceMul] at f0 f1 f2 g0 g1 g2
      clear k3 k4' k1 k2 hch
      cases hs : K k
      · have HL : Hid ((keptL K (k + 1)).map rv = (keptL K k).map rv) := by
          have h : (keptL K (k + 1)).map rv = (keptL K k).map rv := by rw [keptL_no hs]
          exact h
        have HG : Hid (keptN K (k + 1) = keptN K k) := keptN_no hs
        have hx := itB_no ((HK.out k).symm.trans hs)
        clear hs huv
        generalize ((U k).at_ 0).kind = xk at *
        generalize ((U k).at_ 0).n = xn at *
        generalize ((U k).at_ 0).s = xs at *
        generalize ((U k).at_ 2).kind = yk at *
        generalize ((U k).at_ 2).n = yn at *
        generalize ((U k).at_ 2).s = ys at *
        generalize (keptL K k).map rv = L at *
        generalize keptN K k = g at *
        rcases hx with h1 | ⟨h1, h2⟩ | ⟨h1, h2, h3⟩
        · have h1' : (xk == yk) = false := by simpa using fun h : xk = yk => h1 h.symm
          clear h1
          go_wp2
          go_quiet (fail)
          go_wp2
          go_roundw
          case rel => exact ⟨k + 1, by omega, by go_num, by rw [HG.out, HL.out]; exact own_belowJ HV.out (below_drawn (Below.refl _ _) _), below_drawn HCH.out _⟩
          case measure => simp [intOf]; omega
        · subst h1
          have h2' : (xn == yn) = false := by simpa using fun h : xn = yn => h2 h.symm
          clear h2
          go_wp2
          go_quiet (fail)
          go_wp2
          go_roundw
          case rel => exact ⟨k + 1, by omega, by go_num, by rw [HG.out, HL.out]; exact own_belowJ HV.out (below_drawn (Below.refl _ _) _), below_drawn HCH.out _⟩
          case measure => simp [intOf]; omega
        · subst h1
          subst h2
          have h3' : (xs.toList == ys.toList) = false := by
            cases e : (xs.toList == ys.toList)
            · rfl
            · have : ys.toList = xs.toList := (beq_iff_eq.1 e).symm
              rw [this] at h3
              simp at h3
          clear h3
          go_wp2
          go_quiet (fail)
          go_wp2
          go_roundw
          case rel => exact ⟨k + 1, by omega, by go_num, by rw [HG.out, HL.out]; exact own_belowJ HV.out (below_drawn (Below.refl _ _) _), below_drawn HCH.out _⟩
          case measure => simp [intOf]; omega
      · have hz : (U k).at_ 2 = (U k).at_ 0 := itB_iff.1 ((HK.out k).symm.trans hs)
        rw [hz] at g0 g1 g2
        have HL : Hid ((keptL K (k + 1)).map rv = (keptL K k).map rv ++ [.slice (some ⟨ub, uo, none⟩) 4 ucap]) := by
          have h : (keptL K (k + 1)).map rv = (keptL K k).map rv ++ [rv k] := by rw [keptL_yes hs]; simp
          rw [huv] at h
          exact h
        have HG : Hid (keptN K (k + 1) = keptN K k + 1) := keptN_yes hs
        clear hs hz huv
        generalize ((U k).at_ 0).kind = xk at *
        generalize ((U k).at_ 0).n = xn at *
        generalize ((U k).at_ 0).s = xs at *
        generalize (keptL K k).map rv = L at *
        generalize keptN K k = g at *
        go_wp2
        go_quiet (fail)
        go_wp2_with (at_builtin; refine wpList_append_at rfl (.tmp 46) (.tmp 48) 24 rfl W4.heap.size 32 i0 _ 1 24 Tryd.underlying24 hi0 hz0' hz1 hz2' rfl (by decide) _ _ _ rfl ((own_belowJ HV.out (below_drawn (Below.refl _ _) _)).alloc _) ⟨wr.heap.size, 0, none⟩ 1 1 [.slice (some ⟨ub, uo, none⟩) 4 ucap] rfl rfl (elemV_inb _ _ _ (by simp)) (elemV_one _ _ _) (by unfold maxLen; omega) (by omega) (by simp <;> omega) ?_; intro v6 w6 hown6 hgrow6 hk6; obtain ⟨va6, vc6, rfl⟩ := own_shape hown6; have HV6 : Hid (w6.ownsRow W4.heap.size 32 1 (.slice va6 (g + 1) vc6) (g + 1) (L ++ [.slice (some ⟨ub, uo, none⟩) 4 ucap])) := hown6; have HB6 : Hid (Chain W4 w6) := ((below_drawn HCH.out _).alloc (by simp <;> omega) _).grown hgrow6 (by simp <;> omega) (fun z hz => (HV.out.lt z hz).1); clear hown6 hgrow6 hk6)
        go_roundw
        case rel => exact ⟨k + 1, by omega, by go_num, by rw [HG.out, HL.out]; exact HV6.out, HB6.out⟩
        case measure => simp [intOf]; omega
    · have e : k = P := by omega
      subst e
      have hn := HN.out
      subst hn
      have HWN : Hid (∀ W, Chain wr W → RowsIs W (.slice wa (keptN K k) wc) (keptN K k) (keptR K k U)) := fun W h => (HWANT.out wr HCH.out _ HV.out).below h
      clear HWANT HN HV HK HRV hch
      generalize keptN K k = N at *
      have CS : Hid (∀ W, Chain wr W → Calls Tryd.prog 7 #[.slice b3 N l3, .slice wa N wc] W fun e w' => e = .returned (.bool true) ∧ ∃ q, w' = W.drewN q) := fun W h => sameRows_is _ _ N V (keptR K k U) W (HRJ.out W (HCH.out.trans h)) (HWN.out W h) HSAME.out
      obtain ⟨⟨p0, p1, p2⟩, ⟨q0, q1, q2⟩, ⟨r0, r1, r2⟩, ⟨s0, s1, s2⟩⟩ := HS.out wr HCH.out
      go_wp2_with (first
        | (go_at_call 5; refine (CT.out _ _ _ (HWW.out _ HCH.out) (HCA.out _ HCH.out)).mono ?_; rintro e w6 ⟨a6, k6, b6, l6, rfl, hb6⟩; have HB6 : Hid (Chain wr w6) := hb6; clear p0 p1 p2 q0 q1 q2 r0 r1 r2 s0 s1 s2; obtain ⟨⟨p0, p1, p2⟩, ⟨q0, q1, q2⟩, ⟨r0, r1, r2⟩, ⟨s0, s1, s2⟩⟩ := HS.out w6 (HCH.out.trans hb6); clear hb6)
        | (go_at_call 7; refine (CS.out _ (HB6.out.alloc _)).mono ?_; rintro e w7 ⟨rfl, q7, hw7⟩))
      go_ret
      exact ⟨ret_bool (by simp), below_drawn (HWW.out _ ((HCH.out.trans HB6.out).alloc _)) _⟩
end Go.Proofs.YtalllggokmhgeaaDoor
