/-
  THE LAW UnionSplit of package pleacherkeep.
-/
import Derived.Test.YtondigpnplmikaaDoorKpUn
import Derived.Test.YtondigpnplmikaaDoorRlChain
import Derived.Deep.QuietTactic
import Derived.BigQuiet
set_option linter.unusedVariables false
namespace Go.Proofs.YtondigpnplmikaaDoor
set_option maxRecDepth 100000
open Go.RowKit Go.WideShapes

theorem relation_ex (v : Value) (n : Nat) (X : Nat → Rw) (a b : ByteArray) (w : World) (hv : RawsIs w v n X) (hf : RawsFine n X) :
    Calls Tryd.prog 5 #[v, .string a, .string b] w fun e w' => ∃ ca cc ra rc, e = .returned (.agg #[.slice ca 2 cc, .slice ra (rawN n) rc]) ∧ CopyIs w' (.slice ca 2 cc) (.slice ra (rawN n) rc) 2 (rawN n) (twoC a b) (rawR X) ∧ Chain w w' := by
  refine (relation_is v n X a b w hv hf).mono ?_
  rintro e w' ⟨c, q, rfl, h1, h2, h3, h4⟩
  have h1' := h1
  obtain ⟨ca, cc, rfl, _⟩ := h1
  have h2' := h2.is
  obtain ⟨ra, rc, rfl⟩ := h2.shape
  exact ⟨ca, cc, ra, rc, rfl, ⟨h1', h2'⟩, h3⟩
theorem boxedD {w wr : World} {T : TypeId} (h : Chain (w.alloc (.cells #[.slice none 0 0, .slice none 0 0] T)).drew wr) :
    wr.cell? ⟨w.heap.size, 0, none⟩ = some (.slice none 0 0) ∧ wr.cell? ⟨w.heap.size, 1, none⟩ = some (.slice none 0 0) ∧ wr.frozen? ⟨w.heap.size, 0, none⟩ = false ∧ wr.frozen? ⟨w.heap.size, 1, none⟩ = false ∧ w.heap.size < wr.heap.size := boxed ((Chain.refl _).drew.trans h)
set_option maxHeartbeats 12800000 in
theorem lawUnionSplit (v u : Value) (n n' : Nat) (X Y : Nat → Rw) (w : World) (hv : RawsIs w v n X) (hf : RawsFine n X) (hu : RawsIs w u n' Y) (hf' : RawsFine n' Y) (hT : Tabs w) :
    Calls Tryd.prog 4 #[v, u] w fun e w' => e = .returned (.bool true) ∧ Below w.heap.size w w' := by
  have hm := rawN_le n
  have hm' := rawN_le n'
  have CA : Hid (∀ W, Chain w W → Calls Tryd.prog 5 #[v, .string ⟨#[97]⟩, .string ⟨#[98]⟩] W fun e w' => ∃ ca cc ra rc, e = .returned (.agg #[.slice ca 2 cc, .slice ra (rawN n) rc]) ∧ CopyIs w' (.slice ca 2 cc) (.slice ra (rawN n) rc) 2 (rawN n) (twoC nA nB) (rawR X) ∧ Chain W w') := fun W hW => relation_ex v n X nA nB W (hv.below hW) hf
  have CB : Hid (∀ W, Chain w W → Calls Tryd.prog 5 #[u, .string ⟨#[97]⟩, .string ⟨#[98]⟩] W fun e w' => ∃ ca cc ra rc, e = .returned (.agg #[.slice ca 2 cc, .slice ra (rawN n') rc]) ∧ CopyIs w' (.slice ca 2 cc) (.slice ra (rawN n') rc) 2 (rawN n') (twoC nA nB) (rawR Y) ∧ Chain W w') := fun W hW => relation_ex u n' Y nA nB W (hu.below hW) hf'
  have CD : Hid (∀ W, Chain w W → Calls Tryd.prog 5 #[u, .string ⟨#[98]⟩, .string ⟨#[97]⟩] W fun e w' => ∃ ca cc ra rc, e = .returned (.agg #[.slice ca 2 cc, .slice ra (rawN n') rc]) ∧ CopyIs w' (.slice ca 2 cc) (.slice ra (rawN n') rc) 2 (rawN n') (twoC nB nA) (rawR Y) ∧ Chain W w') := fun W hW => relation_ex u n' Y nB nA W (hu.below hW) hf'
  have CU : Hid (∀ W c q c' q', Chain w W → CopyIs W c q 2 (rawN n) (twoC nA nB) (rawR X) → CopyIs W c' q' 2 (rawN n') (twoC nA nB) (rawR Y) → Calls Tryd.prog 9 #[.agg #[c, q], .agg #[c', q']] W fun e w' => ∃ a3 k3 b3 l3, e = .returned (.tuple #[.agg #[.slice a3 2 k3, .slice b3 (rawN n + rawN n') l3], .int .i64 0]) ∧ RowsIs w' (.slice b3 (rawN n + rawN n') l3) (rawN n + rawN n') (unR (rawR X) (rawR Y) (rawN n)) ∧ Chain W w') := fun W c q c' q' hW h1 h2 => by
    have h := union_is c q c' q' 2 (rawN n) 2 (rawN n') (twoC nA nB) (twoC nA nB) (rawR X) (rawR Y) W h1.1 h1.2 (cols_fine _ _ (by decide) (by decide)) (raw_fine X _ hm) h2.1 h2.2 (cols_fine _ _ (by decide) (by decide)) (raw_fine Y _ hm') (Utf8Tabs_below hT hW)
    rw [un_ab X Y _ _ hm hm'] at h
    refine h.mono ?_
    rintro e w' ⟨c1, q1, h3, h4, h5⟩
    have h6 := h4 w' (Nat.le_refl _) (fun _ _ _ => rfl)
    obtain ⟨h7, h8⟩ := h6
    have h9 := h8
    obtain ⟨a3, k3, rfl, _⟩ := h7
    obtain ⟨b3, l3, rfl, _⟩ := h8
    exact ⟨a3, k3, b3, l3, h3, h9, h5⟩
  have CV : Hid (∀ W c q c' q', Chain w W → CopyIs W c q 2 (rawN n) (twoC nA nB) (rawR X) → CopyIs W c' q' 2 (rawN n') (twoC nB nA) (rawR Y) → Calls Tryd.prog 9 #[.agg #[c, q], .agg #[c', q']] W fun e w' => ∃ a3 k3 b3 l3, e = .returned (.tuple #[.agg #[.slice a3 0 k3, .slice b3 0 l3], .int .i64 9]) ∧ Chain W w') := fun W c q c' q' hW h1 h2 => by
    have h := union_is c q c' q' 2 (rawN n) 2 (rawN n') (twoC nA nB) (twoC nB nA) (rawR X) (rawR Y) W h1.1 h1.2 (cols_fine _ _ (by decide) (by decide)) (raw_fine X _ hm) h2.1 h2.2 (cols_fine _ _ (by decide) (by decide)) (raw_fine Y _ hm') (Utf8Tabs_below hT hW)
    rw [un_ba X Y _ _ hm hm'] at h
    refine h.mono ?_
    rintro e w' ⟨c1, q1, h3, h4, h5⟩
    have h6 := h4 w' (Nat.le_refl _) (fun _ _ _ => rfl)
    obtain ⟨h7, h8⟩ := h6
    obtain ⟨a3, k3, rfl, _⟩ := h7
    obtain ⟨b3, l3, rfl, _⟩ := h8
    exact ⟨a3, k3, b3, l3, h3, h5⟩
  obtain ⟨va, vc, rfl, _⟩ := hv
  obtain ⟨ua, uc, rfl, _⟩ := hu
  clear hf hf' hT
  obtain ⟨M, hM⟩ : ∃ M, M = rawN n := ⟨_, rfl⟩
  obtain ⟨M', hM'⟩ : ∃ M', M' = rawN n' := ⟨_, rfl⟩
  rw [← hM] at CA CU CV hm
  rw [← hM'] at CB CD CU CV hm'
  clear hM hM'
  go_enter Tryd.func4, Tryd.ntmps4
  go_upto_region 2 with (go_at_call 5; refine (CA.out _ (Chain.refl _)).mono ?_; rintro e w1 ⟨ca, cc, ra, rc, rfl, hc1, hb1⟩)
  have HC1 : Hid (CopyIs w1 (.slice ca 2 cc) (.slice ra M rc) 2 M (twoC nA nB) (rawR X)) := hc1
  have HB1 : Hid (Chain w w1) := hb1
  clear hc1 hb1
  go_upto_region 3 with (go_at_call 5; refine (CB.out _ (HB1.out.alloc _)).mono ?_; rintro e w2 ⟨cb, cd, rb, rd, rfl, hc2, hb2⟩)
  have HC2 : Hid (CopyIs w2 (.slice cb 2 cd) (.slice rb M' rd) 2 M' (twoC nA nB) (rawR Y)) := hc2
  have HB12 : Hid (Chain w1 w2) := ((Chain.refl _).alloc _).trans hb2
  obtain ⟨x0, x1, x2, x3, x4⟩ := kept_new hb2
  clear hb2 hc2
  go_upto_region 4 with (go_at_call 9; refine (CU.out _ _ _ _ _ ((HB1.out.trans HB12.out).alloc _) (HC1.out.chain (HB12.out.alloc _)) (HC2.out.alloc _)).mono ?_; rintro e w3 ⟨a3, k3, b3, l3, rfl, hr3, hb3⟩)
  have HB23 : Hid (Chain w2 w3) := ((Chain.refl _).alloc _).trans hb3
  have HR3 : Hid (RowsIs w3 (.slice b3 (M + M') l3) (M + M') (unR (rawR X) (rawR Y) M)) := hr3
  obtain ⟨y0, y1, y2, y3, y4⟩ := kept_new hb3
  clear hb3 hr3
  obtain ⟨W3, hW3⟩ : ∃ W3 : World, W3 = w3.alloc (.cells #[.slice a3 2 k3, .slice b3 (M + M') l3] 26) := ⟨_, rfl⟩
  have hsz : w3.heap.size < W3.heap.size := by rw [hW3]; simp
  have h12 := Below.size HB12.out
  have h23 := Below.size HB23.out
  have HB3W : Hid (Chain w3 W3) := by rw [hW3]; exact (Chain.refl _).alloc _
  have HWW : Hid (∀ W, Chain W3 W → Chain w W) := fun W h => (((HB1.out.trans HB12.out).trans HB23.out).trans HB3W.out).trans h
  have HRU : Hid (∀ W, Chain W3 W → RowsIs W (.slice b3 (M + M') l3) (M + M') (unR (rawR X) (rawR Y) M)) := fun W h => HR3.out.below (HB3W.out.trans h)
  have HRA : Hid (∀ W, Chain W3 W → CopyIs W (.slice ca 2 cc) (.slice ra M rc) 2 M (twoC nA nB) (rawR X)) := fun W h => HC1.out.chain (((HB12.out.trans HB23.out).trans HB3W.out).trans h)
  have HRB : Hid (∀ W, Chain W3 W → CopyIs W (.slice cb 2 cd) (.slice rb M' rd) 2 M' (twoC nA nB) (rawR Y)) := fun W h => HC2.out.chain ((HB23.out.trans HB3W.out).trans h)
  have HS : Hid (∀ W, Chain W3 W → W.cell? ⟨w1.heap.size, 0, none⟩ = some (.slice ca 2 cc) ∧ W.cell? ⟨w1.heap.size, 1, none⟩ = some (.slice ra M rc) ∧ W.cell? ⟨w2.heap.size, 0, none⟩ = some (.slice cb 2 cd) ∧ W.cell? ⟨w2.heap.size, 1, none⟩ = some (.slice rb M' rd) ∧ W.cell? ⟨w3.heap.size, 0, none⟩ = some (.slice a3 2 k3) ∧ W.cell? ⟨w3.heap.size, 1, none⟩ = some (.slice b3 (M + M') l3) ∧ w1.heap.size < W.heap.size ∧ w2.heap.size < W.heap.size ∧ w3.heap.size < W.heap.size ∧ Hid (Chain W3 W)) := fun W h => by
    have hs := Below.size h
    have g0 : W3.cell? ⟨w3.heap.size, 0, none⟩ = some (.slice a3 2 k3) ∧ W3.cell? ⟨w3.heap.size, 1, none⟩ = some (.slice b3 (M + M') l3) := by rw [hW3]; exact ⟨by simp, by simp⟩
    have k1 : ∀ o, W.cell? ⟨w1.heap.size, o, none⟩ = w2.cell? ⟨w1.heap.size, o, none⟩ := fun o => Below.cell ((HB23.out.trans HB3W.out).trans h) (p := ⟨w1.heap.size, o, none⟩) x2
    have k2 : ∀ o, W.cell? ⟨w2.heap.size, o, none⟩ = w3.cell? ⟨w2.heap.size, o, none⟩ := fun o => Below.cell (HB3W.out.trans h) (p := ⟨w2.heap.size, o, none⟩) y2
    have k3' : ∀ o, W.cell? ⟨w3.heap.size, o, none⟩ = W3.cell? ⟨w3.heap.size, o, none⟩ := fun o => Below.cell h (p := ⟨w3.heap.size, o, none⟩) (show w3.heap.size < W3.heap.size by omega)
    exact ⟨(k1 0).trans x0, (k1 1).trans x1, (k2 0).trans y0, (k2 1).trans y1, (k3' 0).trans g0.1, (k3' 1).trans g0.2, by omega, by omega, by omega, h⟩
  have CD3 : Hid (∀ W, Chain W3 W → Calls Tryd.prog 5 #[.slice ua n' uc, .string ⟨#[98]⟩, .string ⟨#[97]⟩] W fun e w' => ∃ ca cc ra rc, e = .returned (.agg #[.slice ca 2 cc, .slice ra M' rc]) ∧ CopyIs w' (.slice ca 2 cc) (.slice ra M' rc) 2 M' (twoC nB nA) (rawR Y) ∧ Chain W w' ∧ Chain W3 w') := fun W h => (CD.out W (HWW.out W h)).mono fun e w' ⟨q1, q2, q3, q4, q5, q6, q7⟩ => ⟨q1, q2, q3, q4, q5, q6, q7, h.trans q7⟩
  have CV3 : Hid (∀ W c' q', Chain W3 W → CopyIs W c' q' 2 M' (twoC nB nA) (rawR Y) → Calls Tryd.prog 9 #[.agg #[.slice ca 2 cc, .slice ra M rc], .agg #[c', q']] W fun e w' => ∃ a3 k3 b3 l3, e = .returned (.tuple #[.agg #[.slice a3 0 k3, .slice b3 0 l3], .int .i64 9]) ∧ Chain W w' ∧ Chain W3 w') := fun W c' q' h hc => (CV.out W _ _ c' q' (HWW.out W h) (HRA.out W h) hc).mono fun e w' ⟨q1, q2, q3, q4, q5, q6⟩ => ⟨q1, q2, q3, q4, q5, q6, h.trans q6⟩
  rw [← hW3]
  clear hW3 CA CB CU CV CD HR3 HC1 HC2 HB1 HB12 HB23 HB3W x0 x1 x3 x4 y0 y1 y3 y4
  go_region_held3 (fun W => W.cell? ⟨w1.heap.size, 0, none⟩ = some (.slice ca 2 cc) ∧ W.cell? ⟨w1.heap.size, 1, none⟩ = some (.slice ra M rc) ∧ W.cell? ⟨w2.heap.size, 0, none⟩ = some (.slice cb 2 cd) ∧ W.cell? ⟨w2.heap.size, 1, none⟩ = some (.slice rb M' rd) ∧ W.cell? ⟨w3.heap.size, 0, none⟩ = some (.slice a3 2 k3) ∧ W.cell? ⟨w3.heap.size, 1, none⟩ = some (.slice b3 (M + M') l3) ∧ w1.heap.size < W.heap.size ∧ w2.heap.size < W.heap.size ∧ w3.heap.size < W.heap.size ∧ Hid (Chain W3 W))
    ((refine HS.out _ ?_; repeat (first | exact Hid.out (by assumption) | exact Chain.refl _ | refine Chain.alloc ?_ _ | refine Chain.setCell ?_ (by simp <;> omega) _ | refine Chain.drew ?_)))
    (first
      | (go_at_call 5; refine (CD3.out _ ?_).mono ?_; (focus (repeat (first | exact Hid.out (by assumption) | exact Chain.refl _ | refine Chain.alloc ?_ _ | refine Chain.setCell ?_ (by simp <;> omega) _ | refine Chain.drew ?_))); rintro e w4 ⟨ce, cf, re, rf, rfl, hc4, hb4, hn4⟩; (first | (have zz := boxedD hb4; obtain ⟨z0, z1, z2, z3, z4⟩ := zz) | (have zz := boxed hb4; obtain ⟨z0, z1, z2, z3, z4⟩ := zz) | (have zz := carried hb4 z0 z1 z2 z3 z4; clear z0 z1 z2 z3 z4; obtain ⟨z0, z1, z2, z3, z4⟩ := zz) | skip); have HC4 : Hid (CopyIs w4 (.slice ce 2 cf) (.slice re M' rf) 2 M' (twoC nB nA) (rawR Y)) := hc4; have HN4 : Hid (Chain W3 w4) := hn4; have hs4 := Below.size hn4; clear hc4 hb4 hn4)
      | (go_at_call 9; refine (CV3.out _ _ _ ?_ ?_).mono ?_; (focus (repeat (first | exact Hid.out (by assumption) | exact Chain.refl _ | refine Chain.alloc ?_ _ | refine Chain.setCell ?_ (by simp <;> omega) _ | refine Chain.drew ?_))); (focus (repeat (first | exact HC4.out | refine CopyIs.alloc ?_ _))); rintro e w5 ⟨a5, k5, b5, l5, rfl, hb5, hn5⟩; (first | (have zz := boxedD hb5; obtain ⟨z0, z1, z2, z3, z4⟩ := zz) | (have zz := boxed hb5; obtain ⟨z0, z1, z2, z3, z4⟩ := zz) | (have zz := carried hb5 z0 z1 z2 z3 z4; clear z0 z1 z2 z3 z4; obtain ⟨z0, z1, z2, z3, z4⟩ := zz) | skip); have HN5 : Hid (Chain W3 w5) := hn5; have hs5 := Below.size hn5; clear hb5 hn5))
  all_goals
    rename_i hh
    obtain ⟨p0, p1, q0, q1, r0, r1, s1, s2, s3, HCH⟩ := hh
    clear HC4 HN4 hs4 HN5 hs5
    try clear z0 z1 z2 z3 z4
    (first
      | (generalize w5.alloc (.cells #[.slice a5 0 k5, .slice b5 0 l5] 26) = W at *; generalize w5.heap.size = g9; clear w5 w4)
      | (generalize (w5.setCell ⟨w4.heap.size, 0, none⟩ (.slice a5 0 k5)).setCell ⟨w4.heap.size, 1, none⟩ (.slice b5 0 l5) = W at *; generalize w4.heap.size = g9; clear w5 w4)
      | (generalize (w5.setCell ⟨W3.heap.size, 0, none⟩ (.slice a5 0 k5)).setCell ⟨W3.heap.size, 1, none⟩ (.slice b5 0 l5) = W at *; generalize W3.heap.size = g9; clear w5 w4))
    revert HCH s3 s2 s1 r1 r0 q1 q0 p1 p0
    revert W
    revert g9 a5 k5 b5 l5 ce cf re rf
    refine ?merged
  intro g9 a5 k5 b5 l5 ce cf re rf W p0 p1 q0 q1 r0 r1 s1 s2 s3 HCH
  clear HS CD3 CV3
  have hRU := HRU.out W HCH.out
  have hl3 : M + M' ≤ l3 := by
    obtain ⟨_, _, e, h1, _⟩ := hRU
    simp only [Value.slice.injEq, true_and] at e
    obtain ⟨_, rfl⟩ := e
    exact h1
  by_cases h0 : 0 < M'
  · obtain ⟨bu, ou, rfl⟩ : ∃ bu ou, b3 = some ⟨bu, ou, none⟩ := by
      obtain ⟨a0, c0, e, _, _, _, h4⟩ := hRU
      simp only [Value.slice.injEq, true_and] at e
      obtain ⟨rfl, rfl⟩ := e
      obtain ⟨b, off, e1, _⟩ := h4 (by omega)
      exact ⟨b, off, e1⟩
    clear hRU
    have CS1 : Hid (∀ z, Calls Tryd.prog 10 #[.slice (some ⟨bu, ou, none⟩) M l3, .slice ra M rc] (W.drewN z) fun e w' => e = .returned (.bool true) ∧ ∃ q, w' = (W.drewN z).drewN q) := fun z =>
      sameRows_is _ _ M (unR (rawR X) (rawR Y) M) (rawR X) _ (((HRU.out W HCH.out).below (below_drawn (Below.refl _ _) z)).take (by omega)) ((HRA.out W HCH.out).2.below (below_drawn (Below.refl _ _) z)) (fun i hi => if_pos hi)
    have CS2 : Hid (∀ z, Calls Tryd.prog 10 #[.slice (some ⟨bu, ou + M, none⟩) M' (l3 - M), .slice rb M' rd] (W.drewN z) fun e w' => e = .returned (.bool true) ∧ ∃ q, w' = (W.drewN z).drewN q) := fun z => by
      have h1 := ((HRU.out W HCH.out).below (below_drawn (Below.refl _ _) z)).drop (m := M) (by omega)
      rw [show M + M' - M = M' by omega] at h1
      exact sameRows_is _ _ M' (fun i => unR (rawR X) (rawR Y) M (M + i)) (rawR Y) _ h1 ((HRB.out W HCH.out).2.below (below_drawn (Below.refl _ _) z)) (fun i hi => by unfold unR; rw [if_neg (by omega), show M + i - M = i by omega])
    have hwr : IntKind.i64.wrap ((M : Int) + (M' : Int)) = (M : Int) + (M' : Int) := by
      exact IntWalk.i64_in _ (by omega)
    have hMl : (M : Int) ≤ (l3 : Int) := by omega
    have hMl2 : (M : Int) ≤ ((M + M' : Nat) : Int) := by omega
    have hMl3 : (M : Int) < (l3 : Int) := by omega
    have hMl4 : (M : Int) ≤ (M : Int) + (M' : Int) := by omega
    have hN2 : M < l3 := by omega
    have hN3 : ¬ M = l3 := by omega
    have hN4 : M ≤ l3 := by omega
    have hN5 : ¬ l3 = M := by omega
    have hN6 : M ≤ M + M' := by omega
    go_upto_region 5 with fail
    go_quiet ((first | (go_at_call 10; exact Calls.quiet_of (CS1.out _)) | (go_at_call 10; exact Calls.quiet_of (CS2.out _))))
    go_wp2
    go_ret
    exact ⟨ret_bool (by simp), below_drawn (HWW.out W HCH.out) _⟩
  · obtain rfl : M' = 0 := by omega
    have CZ2 : Hid (∀ z (aX : Option Addr) (cX : Nat), (aX = none → cX = 0) → cX ≤ maxLen → Calls Tryd.prog 10 #[.slice aX 0 cX, .slice rb 0 rd] (W.drewN z) fun e w' => e = .returned (.bool true) ∧ ∃ q, w' = (W.drewN z).drewN q) := fun z aX cX h1 h2 =>
      sameRows_is _ _ 0 (rawR Y) (rawR Y) _ (rows_none _ h2 h1) ((HRB.out W HCH.out).2.below (below_drawn (Below.refl _ _) z)) (fun i hi => by omega)
    simp only [Nat.add_zero] at hRU hl3 r1
    obtain ⟨a0, c0, e, _, hlm, hln, h4⟩ := hRU
    simp only [Value.slice.injEq, true_and] at e
    obtain ⟨rfl, rfl⟩ := e
    rcases Nat.eq_zero_or_pos M with hz | hz
    · subst hz
      have CZ1 : Hid (∀ z, Calls Tryd.prog 10 #[.slice b3 0 l3, .slice ra 0 rc] (W.drewN z) fun e w' => e = .returned (.bool true) ∧ ∃ q, w' = (W.drewN z).drewN q) := fun z =>
        sameRows_is _ _ 0 (rawR X) (rawR X) _ (rows_none _ hlm hln) ((HRA.out W HCH.out).2.below (below_drawn (Below.refl _ _) z)) (fun i hi => by omega)
      have CZ3 : Hid (∀ z, Calls Tryd.prog 10 #[.slice b3 0 l3, .slice rb 0 rd] (W.drewN z) fun e w' => e = .returned (.bool true) ∧ ∃ q, w' = (W.drewN z).drewN q) := fun z => CZ2.out z b3 l3 hln hlm
      clear CZ2 h4 HRU HRA HRB
      cases b3 with
      | none =>
        obtain rfl : l3 = 0 := hln rfl
        go_upto_region 5 with fail
        go_quiet ((first | (go_at_call 10; exact Calls.quiet_of (CZ1.out _)) | (go_at_call 10; exact Calls.quiet_of (CZ3.out _))))
        go_wp2
        go_ret
        exact ⟨ret_bool (by simp), below_drawn (HWW.out W HCH.out) _⟩
      | some ad =>
        go_upto_region 5 with fail
        go_quiet ((first | (go_at_call 10; exact Calls.quiet_of (CZ1.out _)) | (go_at_call 10; exact Calls.quiet_of (CZ3.out _))))
        go_wp2
        go_ret
        exact ⟨ret_bool (by simp), below_drawn (HWW.out W HCH.out) _⟩
    · obtain ⟨bu, ou, rfl, _⟩ := h4 hz
      have CS1 : Hid (∀ z, Calls Tryd.prog 10 #[.slice (some ⟨bu, ou, none⟩) M l3, .slice ra M rc] (W.drewN z) fun e w' => e = .returned (.bool true) ∧ ∃ q, w' = (W.drewN z).drewN q) := fun z =>
        sameRows_is _ _ M (unR (rawR X) (rawR Y) M) (rawR X) _ (((HRU.out W HCH.out).below (below_drawn (Below.refl _ _) z)).take (by omega)) ((HRA.out W HCH.out).2.below (below_drawn (Below.refl _ _) z)) (fun i hi => if_pos hi)
      have CZ4 : Hid (∀ z (o c : Nat), c ≤ l3 → Calls Tryd.prog 10 #[.slice (some ⟨bu, o, none⟩) 0 c, .slice rb 0 rd] (W.drewN z) fun e w' => e = .returned (.bool true) ∧ ∃ q, w' = (W.drewN z).drewN q) := fun z o c hc => CZ2.out z _ c (fun h => nomatch h) (by omega)
      have hMl : (M : Int) ≤ (l3 : Int) := by omega
      clear CZ2 HRU HRA HRB hln
      by_cases hc : M = l3
      · subst hc
        go_upto_region 5 with fail
        go_quiet ((first | (go_at_call 10; exact Calls.quiet_of (CS1.out _)) | (go_at_call 10; exact Calls.quiet_of (CZ4.out _ _ _ (by omega)))))
        go_wp2
        go_ret
        exact ⟨ret_bool (by simp), below_drawn (HWW.out W HCH.out) _⟩
      · have hN2 : M < l3 := by omega
        have hN5 : ¬ l3 = M := by omega
        have hMl3 : (M : Int) < (l3 : Int) := by omega
        go_upto_region 5 with fail
        go_quiet ((first | (go_at_call 10; exact Calls.quiet_of (CS1.out _)) | (go_at_call 10; exact Calls.quiet_of (CZ4.out _ _ _ (by omega)))))
        go_wp2
        go_ret
        exact ⟨ret_bool (by simp), below_drawn (HWW.out W HCH.out) _⟩
end Go.Proofs.YtondigpnplmikaaDoor
