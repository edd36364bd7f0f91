/-
  THE LAW ProjectBack of package pleacherkeep.
-/
import Derived.Test.YtpheiklbngmmnaaDoorKpPr
import Derived.Deep.QuietTactic
import Derived.BigQuiet
import Derived.Deep.RegionHeld3
set_option linter.unusedVariables false
namespace Go.Proofs.YtpheiklbngmmnaaDoor
set_option maxRecDepth 100000
open Go.RowKit Go.WideShapes

theorem relation_ex (v : Value) (n : Nat) (X : Nat → Rw) (a b : ByteArray) (w : World) (hv : RawsIs w v n X) (hf : RawsFine n X) :
    Calls Tryd.prog 4 #[v, .string a, .string b] w fun e w' => ∃ ca cc ra rc, e = .returned (.agg #[.slice ca 2 cc, .slice ra (rawN n) rc]) ∧ CopyIs w' (.slice ca 2 cc) (.slice ra (rawN n) rc) 2 (rawN n) (twoC a b) (rawR X) ∧ Chain w w' := by
  refine (relation_is v n X a b w hv hf).mono ?_
  rintro e w' ⟨c, q, rfl, h1, h2, h3, h4⟩
  have h1' := h1
  obtain ⟨ca, cc, rfl, _⟩ := h1
  have h2' := h2.is
  obtain ⟨ra, rc, rfl⟩ := h2.shape
  exact ⟨ca, cc, ra, rc, rfl, ⟨h1', h2'⟩, h3⟩
set_option maxHeartbeats 12800000 in
theorem lawProjectBack (v : Value) (n : Nat) (X : Nat → Rw) (w : World) (hv : RawsIs w v n X) (hf : RawsFine n X) (hT : Tabs w) :
    Calls Tryd.prog 3 #[v] w fun e w' => e = .returned (.bool true) ∧ Below w.heap.size w w' := by
  have hm := rawN_le n
  have CA : Hid (∀ W, Chain w W → Calls Tryd.prog 4 #[v, .string ⟨#[97]⟩, .string ⟨#[98]⟩] W fun e w' => ∃ ca cc ra rc, e = .returned (.agg #[.slice ca 2 cc, .slice ra (rawN n) rc]) ∧ CopyIs w' (.slice ca 2 cc) (.slice ra (rawN n) rc) 2 (rawN n) (twoC nA nB) (rawR X) ∧ Chain W w') := fun W hW => relation_ex v n X nA nB W (hv.below hW) hf
  have CP1 : Hid (∀ W c q d l, Chain w W → CopyIs W c q 2 (rawN n) (twoC nA nB) (rawR X) → StrsIs W d 3 (triC nX nY nZ) → StrsIs W l 3 (triC nB nA nB) → Calls Tryd.prog 5 #[.agg #[c, q], d, l] W fun e w' => ∃ a3 k3 b3 l3, e = .returned (.tuple #[.agg #[.slice a3 3 k3, .slice b3 (rawN n) l3], .int .i64 0]) ∧ CopyIs w' (.slice a3 3 k3) (.slice b3 (rawN n) l3) 3 (rawN n) (triC nX nY nZ) (babR X) ∧ Chain W w') := fun W c q d l hW h1 hd hl => by
    refine (project_ok c q d l 2 (rawN n) 3 3 _ _ _ _ W (pr1 X _ hm) h1.1 h1.2 (cols_fine _ _ (by decide) (by decide)) (raw_fine X _ hm) hd (tri_fine _ _ _ (by decide) (by decide) (by decide)) hl (tri_fine _ _ _ (by decide) (by decide) (by decide)) (Utf8Tabs_below hT hW)).mono ?_
    rintro e w' ⟨a3, k3, b3, l3, h3, h4, _, h5⟩
    exact ⟨a3, k3, b3, l3, h3, h4, h5⟩
  have CP2 : Hid (∀ W c q d l, Chain w W → CopyIs W c q 3 (rawN n) (triC nX nY nZ) (babR X) → StrsIs W d 2 (twoC nA nB) → StrsIs W l 2 (twoC nY nX) → Calls Tryd.prog 5 #[.agg #[c, q], d, l] W fun e w' => ∃ a3 k3 b3 l3, e = .returned (.tuple #[.agg #[.slice a3 2 k3, .slice b3 (rawN n) l3], .int .i64 0]) ∧ RowsIs w' (.slice b3 (rawN n) l3) (rawN n) (prR (triC nX nY nZ) 3 (twoC nY nX) 2 (babR X)) ∧ Chain W w') := fun W c q d l hW h1 hd hl => by
    refine (project_ok c q d l 3 (rawN n) 2 2 _ _ _ _ W (pr2 X _ hm) h1.1 h1.2 (tri_fine _ _ _ (by decide) (by decide) (by decide)) (bab_fine X _ hm) hd (cols_fine _ _ (by decide) (by decide)) hl (cols_fine _ _ (by decide) (by decide)) (Utf8Tabs_below hT hW)).mono ?_
    rintro e w' ⟨a3, k3, b3, l3, h3, h4, _, h5⟩
    exact ⟨a3, k3, b3, l3, h3, h4.2, h5⟩
  have CP3 : Hid (∀ W c q d l, Chain w W → CopyIs W c q 2 (rawN n) (twoC nA nB) (rawR X) → StrsIs W d 2 (twoC nX nX) → StrsIs W l 2 (twoC nA nB) → Calls Tryd.prog 5 #[.agg #[c, q], d, l] W fun e w' => ∃ a3 k3 b3 l3, e = .returned (.tuple #[.agg #[.slice a3 0 k3, .slice b3 0 l3], .int .i64 7]) ∧ Chain W w') := fun W c q d l hW h1 hd hl =>
    project_no c q d l 2 (rawN n) 2 2 _ _ _ _ 7 (by decide) W (pr3 X _ hm) h1.1 h1.2 (cols_fine _ _ (by decide) (by decide)) (raw_fine X _ hm) hd (cols_fine _ _ (by decide) (by decide)) hl (cols_fine _ _ (by decide) (by decide)) (Utf8Tabs_below hT hW)
  have CP4 : Hid (∀ W c q d l, Chain w W → CopyIs W c q 2 (rawN n) (twoC nA nB) (rawR X) → StrsIs W d 1 (fun _ => nX) → StrsIs W l 1 (fun _ => nC) → Calls Tryd.prog 5 #[.agg #[c, q], d, l] W fun e w' => ∃ a3 k3 b3 l3, e = .returned (.tuple #[.agg #[.slice a3 0 k3, .slice b3 0 l3], .int .i64 9]) ∧ Chain W w') := fun W c q d l hW h1 hd hl =>
    project_no c q d l 2 (rawN n) 1 1 _ _ _ _ 9 (by decide) W (pr4 X _ hm) h1.1 h1.2 (cols_fine _ _ (by decide) (by decide)) (raw_fine X _ hm) hd (one_fine _ (by decide)) hl (one_fine _ (by decide)) (Utf8Tabs_below hT hW)
  obtain ⟨va, vc, rfl, _⟩ := hv
  clear hf hT
  obtain ⟨M, hM⟩ : ∃ M, M = rawN n := ⟨_, rfl⟩
  rw [← hM] at CA CP1 CP2 CP3 CP4 hm
  clear hM
  go_enter Tryd.func3, Tryd.ntmps3
  go_upto_region 2 with (go_at_call 4; refine (CA.out _ (Chain.refl _)).mono ?_; rintro e w1 ⟨ca, cc, ra, rc, rfl, hc1, hb1⟩)
  have HC1 : Hid (CopyIs w1 (.slice ca 2 cc) (.slice ra M rc) 2 M (twoC nA nB) (rawR X)) := hc1
  have HB1 : Hid (Chain w w1) := hb1
  clear hc1 hb1
  go_upto_region 3 with (go_at_call 5; refine (CP1.out _ _ _ _ _ (((HB1.out.alloc _).alloc _).alloc _) (((HC1.out.alloc _).alloc _).alloc _) (strs_chain (tri_litb _ _ _ _ _ _ (by simp)) ((Chain.refl _).alloc _)) (tri_litb _ _ _ _ _ _ (by simp))).mono ?_; rintro e w2 ⟨a3, k3, b3, l3, rfl, hc2, hb2⟩)
  have HC2 : Hid (CopyIs w2 (.slice a3 3 k3) (.slice b3 M l3) 3 M (triC nX nY nZ) (babR X)) := hc2
  have hb2' := Chain.trans (((Chain.refl (w1.alloc (.cells #[.slice ca 2 cc, .slice ra M rc] 26))).alloc _).alloc _) hb2
  obtain ⟨x0, x1, x2, _, _⟩ := kept_new hb2'
  have HB12 : Hid (Chain w1 w2) := ((Chain.refl _).alloc _).trans hb2'
  clear hc2 hb2 hb2'
  go_upto_region 4 with (go_at_call 5; refine (CP2.out _ _ _ _ _ ((((HB1.out.trans HB12.out).alloc _).alloc _).alloc _) (((HC2.out.alloc _).alloc _).alloc _) (strs_chain (two_litb _ _ _ _ _ (by simp)) ((Chain.refl _).alloc _)) (two_litb _ _ _ _ _ (by simp))).mono ?_; rintro e w3 ⟨a4, k4, b4, l4, rfl, hc3, hb3⟩)
  have HR3 : Hid (RowsIs w3 (.slice b4 M l4) M (prR (triC nX nY nZ) 3 (twoC nY nX) 2 (babR X))) := hc3
  have HB23 : Hid (Chain w2 w3) := ((((Chain.refl _).alloc _).alloc _).alloc _).trans hb3
  obtain ⟨y0, y1, y2⟩ := carry2 HB23.out x0 x1 x2
  clear hc3 hb3 x0 x1 HC2
  go_upto_region 5 with (go_at_call 5; refine (CP3.out _ _ _ _ _ (((((HB1.out.trans HB12.out).trans HB23.out).alloc _).alloc _).alloc _) (HC1.out.chain ((((HB12.out.trans HB23.out).alloc _).alloc _).alloc _)) (strs_chain (two_litb _ _ _ _ _ (by simp)) ((Chain.refl _).alloc _)) (two_litb _ _ _ _ _ (by simp))).mono ?_; rintro e w4 ⟨a5, k5, b5, l5, rfl, hb4⟩)
  have hb4' := Chain.trans (((Chain.refl (w3.alloc (.cells #[.slice a4 2 k4, .slice b4 M l4] 26))).alloc _).alloc _) hb4
  obtain ⟨u0, u1, u2, _, _⟩ := kept_new hb4'
  have HB34 : Hid (Chain w3 w4) := ((Chain.refl _).alloc _).trans hb4'
  obtain ⟨z0, z1, z2⟩ := carry2 HB34.out y0 y1 y2
  clear hb4 hb4' y0 y1
  go_upto_region 6 with (go_at_call 5; refine (CP4.out _ _ _ _ _ ((((((HB1.out.trans HB12.out).trans HB23.out).trans HB34.out).alloc _).alloc _).alloc _) (HC1.out.chain (((((HB12.out.trans HB23.out).trans HB34.out).alloc _).alloc _).alloc _)) (strs_chain (one_litb _ _ _ _ (by simp)) ((Chain.refl _).alloc _)) (one_litb _ _ _ _ (by simp))).mono ?_; rintro e w5 ⟨a6, k6, b6, l6, rfl, hb5⟩)
  have HB45 : Hid (Chain w4 w5) := ((((Chain.refl _).alloc _).alloc _).alloc _).trans hb5
  obtain ⟨s0, s1, s2⟩ := carry2 HB45.out z0 z1 z2
  obtain ⟨t0, t1, t2⟩ := carry2 HB45.out u0 u1 u2
  clear hb5 z0 z1 u0 u1
  have HWW : Hid (∀ o, Chain w (w5.alloc o)) := fun o => ((((HB1.out.trans HB12.out).trans HB23.out).trans HB34.out).trans HB45.out).alloc _
  have CS1 : Hid (∀ o, Calls Tryd.prog 6 #[.slice ra M rc, .slice b4 M l4] (w5.alloc o) fun e w' => e = .returned (.bool true) ∧ ∃ q, w' = (w5.alloc o).drewN q) := fun o =>
    sameRows_is _ _ M (rawR X) (prR (triC nX nY nZ) 3 (twoC nY nX) 2 (babR X)) _ (HC1.out.chain ((((HB12.out.trans HB23.out).trans HB34.out).trans HB45.out).alloc _)).2 (HR3.out.below ((HB34.out.trans HB45.out).alloc o)) (fun i _ => back_row X i)
  clear CA CP1 CP2 CP3 CP4
  go_wp2_with (go_at_call 6; refine (CS1.out _).mono ?_; rintro e w6 ⟨rfl, q6, hw6⟩)
  go_ret
  exact ⟨ret_bool (by simp), below_drawn (HWW.out _) _⟩
end Go.Proofs.YtpheiklbngmmnaaDoor
