/-
  CONTRACTS: a look at an expression of the core (core.Check).
-/
import Derived.Test.YtcbpjgnbdpfiiaaGreatDoorCkLook3
import Derived.Test.YtcbpjgnbdpfiiaaGreatDoorLaidP
import Derived.Deep.Cut
set_option linter.unusedVariables false
namespace Go.Proofs.YtcbpjgnbdpfiiaaGreatDoor
set_option maxRecDepth 100000
open Go.RowKit Go.WideShapes

theorem Ex.At.wider {w : World} {B B' : Nat} {x : Ex} (hB : B ≤ B') : ∀ {b off : Nat}, x.At w B b off → x.At w B' b off := by
  induction x with
  | no => intro b off h; exact h.elim
  | mk k it nm a n ax tk tn m A ih =>
    intro b off h
    obtain ⟨h1, sl, cap, h2, h3, h4, h5⟩ := h
    refine ⟨by omega, sl, cap, h2, h3, h4, fun h0 => ?_⟩
    obtain ⟨b', off', k1, k2, k3⟩ := h5 h0
    exact ⟨b', off', k1, by omega, fun i hi => ih i (k3 i hi)⟩
theorem TB.wider {B B' : Nat} {w : World} (h : TB B w) (hB : B ≤ B') : TB B' w := fun W hW => h W (hW.mono hB)
theorem ck_start {W0 w1 : World} {tb : Nat} (hv : VMap w1 tb fnsV) : CkS ((w1.alloc (.map #[] 0)).alloc (.cells #[.map (some tb), .map (some w1.heap.size), .int .i64 0, .int .i64 0, .int .i64 0] 103)) (w1.heap.size + 1) tb w1.heap.size (cntS []) 0 0 0 := by
  have hlt := hv.lt
  refine ⟨?_, (hv.alloc _).alloc _, ?_, by omega⟩
  · have h := heap_alloc_new (w1.alloc (.map #[] 0)) (.cells #[.map (some tb), .map (some w1.heap.size), .int .i64 0, .int .i64 0, .int .i64 0] 103)
    have e : (w1.alloc (.map #[] 0)).heap.size = w1.heap.size + 1 := by simp
    rw [e] at h
    exact h
  · have h := SMap.made w1
    exact (h.keep (Below.heap_alloc _ _ _ (by simp))).congr (fun x => rfl)
set_option maxHeartbeats 3200000 in
theorem check_is (B : Nat) (x : Ex) (v : Value) (w : World) (hv : x.V w B v) (hB : B ≤ w.heap.size) (hT : TB B w) (hN : nodesX x ≤ 1048576) :
    Calls Tryz.prog 27 #[v] w fun e w' => e = .returned (.int .i64 (coreF x)) ∧ Below w.heap.size w w' := by
  have HV : Hid (Ex.V w B x v) := hv
  cases x with
  | no => exact hv.elim
  | mk k it nm a n ax tk tn m A =>
  obtain ⟨sl, cap, rfl, s1, s2, s3, hmc, hcm, hsl⟩ := hv
  obtain ⟨x, hx⟩ : ∃ y, y = Ex.mk k it nm a n ax tk tn m A := ⟨_, rfl⟩
  rw [← hx] at HV hN ⊢
  have HBOX0 : Hid (∀ W, Below (w.heap.size + 1) (w.alloc (.cells #[.int .i64 k, .int .i64 it.kind, .int .i64 it.n, .string it.s, .string nm, .string a, .int .i64 n, .int .i64 ax, .int .i64 tk, .string tn, .slice sl m cap] 43)) W → HeadAt W w.heap.size 0 k it nm a n ax tk tn (.slice sl m cap)) := fun W hW => (head_box w k it nm a n ax tk tn _ s1 s2 s3 _).keep (hW.block _ (by omega))
  have HB00 : Hid (Below w.heap.size w (w.alloc (.cells #[.int .i64 k, .int .i64 it.kind, .int .i64 it.n, .string it.s, .string nm, .string a, .int .i64 n, .int .i64 ax, .int .i64 tk, .string tn, .slice sl m cap] 43))) := (Below.refl _ _).alloc (Nat.le_refl _) _
  have hz0 : (w.alloc (.cells #[.int .i64 k, .int .i64 it.kind, .int .i64 it.n, .string it.s, .string nm, .string a, .int .i64 n, .int .i64 ax, .int .i64 tk, .string tn, .slice sl m cap] 43)).heap.size = w.heap.size + 1 := by simp
  have CF : Hid (∀ W : World, Calls Tryz.prog 55 #[] W fun e w' => e = .returned (.map (some W.heap.size)) ∧ VMap w' W.heap.size fnsV ∧ Below W.heap.size W w') := fun W => functions_is W
  have CL : Hid (∀ W tb sb cb, Below (w.heap.size + 1) (w.alloc (.cells #[.int .i64 k, .int .i64 it.kind, .int .i64 it.n, .string it.s, .string nm, .string a, .int .i64 n, .int .i64 ax, .int .i64 tk, .string tn, .slice sl m cap] 43)) W → CkS W cb tb sb (cntS []) 0 0 0 → w.heap.size + 1 ≤ cb → w.heap.size + 1 ≤ sb → Calls Tryz.prog 56 #[.pointer (some ⟨cb, 0, none⟩), .pointer (some ⟨w.heap.size, 0, none⟩)] W fun e w' => e = .returned (.int .i64 (exF x [])) ∧
      (∃ l' mk' p', CkS w' cb tb sb (cntS []) l' mk' p' ∧ (exF x [] = 0 → l' = cntX loopB x ∧ mk' = cntX makeB x ∧ p' = nodesX x)) ∧ Below (w.heap.size + 1) W w') := fun W tb sb cb hW hS h1 h2 => by
    have hb0 : Below w.heap.size w (w.alloc (.cells #[.int .i64 k, .int .i64 it.kind, .int .i64 it.n, .string it.s, .string nm, .string a, .int .i64 n, .int .i64 ax, .int .i64 tk, .string tn, .slice sl m cap] 43)) := HB00.out
    have hAt : x.At W (w.heap.size + 1) w.heap.size 0 := by
      rw [hx]
      refine ⟨by omega, sl, cap, HBOX0.out W hW, hmc, hcm, fun h0 => ?_⟩
      obtain ⟨b', off', k1, k2, k3⟩ := hsl h0
      exact ⟨b', off', k1, by omega, fun i hi => (((k3 i hi).below (hb0.mono hB)).below (hW.mono (by omega))).wider (by omega)⟩
    have hTT : TB (w.heap.size + 1) W := ((hT.below (hb0.mono hB)).below (hW.mono (by omega))).wider (by omega)
    have hsz : w.heap.size + 1 ≤ W.heap.size := by have := hW.size; omega
    have h := look_is (w.heap.size + 1) x [] W cb tb sb 0 0 0 w.heap.size 0 hS hAt h1 h2 hsz hTT (Nat.le_refl _) (Nat.le_refl _) (by omega) (by simp; omega)
    refine Calls.mono h ?_
    rintro e w' ⟨rfl, ⟨l', mk', p', h3, h4⟩, h5⟩
    exact ⟨rfl, ⟨l', mk', p', h3, fun h0 => by obtain ⟨q1, q2, q3⟩ := h4 h0; omega⟩, h5⟩
  have HCF : Hid (coreF x = if exF x [] = 0 then (if 6 < cntX loopB x ∨ 6 < cntX makeB x ∨ 700 < nodesX x then 1 else 0) else exF x []) := rfl
  rw [HCF.out]
  clear hx HV
  generalize exF x [] = R at *
  generalize cntX loopB x = L at *
  generalize cntX makeB x = K at *
  generalize nodesX x = N at *
  clear hsl hT hmc hcm s1 s2 s3 hN
  by_cases hR : R = 0
  rotate_left
  · rw [if_neg hR]
    have hR1 : (R == 0) = false := by simpa using hR
    have hR2 : (R != 0) = true := by simpa using hR
    clear hR HCF
    have hmm := @run_makeMap Tryz.prog
    go_enter Tryz.func27, Tryz.ntmps27
    go_upto_region 1 with fail
    obtain ⟨W0, hW0⟩ : ∃ W, W = w.alloc (.cells #[.int .i64 k, .int .i64 it.kind, .int .i64 it.n, .string it.s, .string nm, .string a, .int .i64 n, .int .i64 ax, .int .i64 tk, .string tn, .slice sl m cap] 43) := ⟨_, rfl⟩
    have HBOX := HBOX0
    have HB0 := HB00
    rw [← hW0] at HBOX HB0 hz0 CL ⊢
    have HZ0 : Hid (W0.heap.size = w.heap.size + 1) := hz0
    have hlt0 : w.heap.size < W0.heap.size := by omega
    clear hW0 hz0 HBOX0 HB00
    obtain ⟨d0, d1, d2, d3, d4, d5, d6, d7, d8, d9, d10, _, _, _⟩ := HBOX.out W0 (Below.refl _ _)
    go_wp2_with (first
      | (go_at_call 55; refine (CF.out _).mono ?_; rintro e w1 ⟨rfl, hv1, hb1⟩; have HV1 : Hid (VMap w1 W0.heap.size fnsV) := hv1; have HB1 : Hid (Below (w.heap.size + 1) W0 w1) := hb1.mono (by omega); have hz1 : W0.heap.size ≤ w1.heap.size := hb1.size; clear hv1 hb1 CF; clear d0 d1 d2 d3 d4 d5 d6 d7 d8 d9 d10)
      | (go_at_call 56; refine (CL.out _ W0.heap.size w1.heap.size (w1.heap.size + 1) ?_ (ck_start (W0 := W0) HV1.out) (by omega) (by omega)).mono ?_; (· exact (HB1.out.alloc (by omega) _).alloc (by simp; omega) _); rintro e w2 ⟨rfl, ⟨l2, k2, p2, hs2, hc2⟩, hb2⟩; have HB2 : Hid (Below (w.heap.size + 1) W0 w2) := ((HB1.out.alloc (by omega) _).alloc (by simp; omega) _).trans hb2; have hcb2 := hs2.lt; obtain ⟨_, _, c2, c3, c4, _⟩ := hs2.cells; have HC2 : Hid (R = 0 → l2 = L ∧ k2 = K ∧ p2 = N) := hc2; clear hb2 hs2 hc2 CL))
    go_ret
    exact ⟨rfl, HB0.out.trans (HB2.out.mono (by omega))⟩
  subst hR
  rw [if_pos rfl]
  by_cases hL : (6 : Int) < (L : Int)
  · rw [if_pos (by omega)]
    have hmm := @run_makeMap Tryz.prog
    go_enter Tryz.func27, Tryz.ntmps27
    go_upto_region 1 with fail
    obtain ⟨W0, hW0⟩ : ∃ W, W = w.alloc (.cells #[.int .i64 k, .int .i64 it.kind, .int .i64 it.n, .string it.s, .string nm, .string a, .int .i64 n, .int .i64 ax, .int .i64 tk, .string tn, .slice sl m cap] 43) := ⟨_, rfl⟩
    have HBOX := HBOX0
    have HB0 := HB00
    rw [← hW0] at HBOX HB0 hz0 CL ⊢
    have HZ0 : Hid (W0.heap.size = w.heap.size + 1) := hz0
    have hlt0 : w.heap.size < W0.heap.size := by omega
    clear hW0 hz0 HBOX0 HB00
    obtain ⟨d0, d1, d2, d3, d4, d5, d6, d7, d8, d9, d10, _, _, _⟩ := HBOX.out W0 (Below.refl _ _)
    go_wp2_with (first
      | (go_at_call 55; refine (CF.out _).mono ?_; rintro e w1 ⟨rfl, hv1, hb1⟩; have HV1 : Hid (VMap w1 W0.heap.size fnsV) := hv1; have HB1 : Hid (Below (w.heap.size + 1) W0 w1) := hb1.mono (by omega); have hz1 : W0.heap.size ≤ w1.heap.size := hb1.size; clear hv1 hb1 CF; clear d0 d1 d2 d3 d4 d5 d6 d7 d8 d9 d10)
      | (go_at_call 56; refine (CL.out _ W0.heap.size w1.heap.size (w1.heap.size + 1) ?_ (ck_start (W0 := W0) HV1.out) (by omega) (by omega)).mono ?_; (· exact (HB1.out.alloc (by omega) _).alloc (by simp; omega) _); rintro e w2 ⟨rfl, ⟨l2, k2, p2, hs2, hc2⟩, hb2⟩; have HB2 : Hid (Below (w.heap.size + 1) W0 w2) := ((HB1.out.alloc (by omega) _).alloc (by simp; omega) _).trans hb2; have hcb2 := hs2.lt; obtain ⟨_, _, c2, c3, c4, _⟩ := hs2.cells; obtain ⟨q1, q2, q3⟩ := hc2 trivial; subst q1 q2 q3; clear hb2 hs2 hc2 CL))
    go_ret
    exact ⟨rfl, HB0.out.trans (HB2.out.mono (by omega))⟩
  by_cases hK : (6 : Int) < (K : Int)
  · rw [if_pos (by omega)]
    have hmm := @run_makeMap Tryz.prog
    go_enter Tryz.func27, Tryz.ntmps27
    go_upto_region 1 with fail
    obtain ⟨W0, hW0⟩ : ∃ W, W = w.alloc (.cells #[.int .i64 k, .int .i64 it.kind, .int .i64 it.n, .string it.s, .string nm, .string a, .int .i64 n, .int .i64 ax, .int .i64 tk, .string tn, .slice sl m cap] 43) := ⟨_, rfl⟩
    have HBOX := HBOX0
    have HB0 := HB00
    rw [← hW0] at HBOX HB0 hz0 CL ⊢
    have HZ0 : Hid (W0.heap.size = w.heap.size + 1) := hz0
    have hlt0 : w.heap.size < W0.heap.size := by omega
    clear hW0 hz0 HBOX0 HB00
    obtain ⟨d0, d1, d2, d3, d4, d5, d6, d7, d8, d9, d10, _, _, _⟩ := HBOX.out W0 (Below.refl _ _)
    go_wp2_with (first
      | (go_at_call 55; refine (CF.out _).mono ?_; rintro e w1 ⟨rfl, hv1, hb1⟩; have HV1 : Hid (VMap w1 W0.heap.size fnsV) := hv1; have HB1 : Hid (Below (w.heap.size + 1) W0 w1) := hb1.mono (by omega); have hz1 : W0.heap.size ≤ w1.heap.size := hb1.size; clear hv1 hb1 CF; clear d0 d1 d2 d3 d4 d5 d6 d7 d8 d9 d10)
      | (go_at_call 56; refine (CL.out _ W0.heap.size w1.heap.size (w1.heap.size + 1) ?_ (ck_start (W0 := W0) HV1.out) (by omega) (by omega)).mono ?_; (· exact (HB1.out.alloc (by omega) _).alloc (by simp; omega) _); rintro e w2 ⟨rfl, ⟨l2, k2, p2, hs2, hc2⟩, hb2⟩; have HB2 : Hid (Below (w.heap.size + 1) W0 w2) := ((HB1.out.alloc (by omega) _).alloc (by simp; omega) _).trans hb2; have hcb2 := hs2.lt; obtain ⟨_, _, c2, c3, c4, _⟩ := hs2.cells; obtain ⟨q1, q2, q3⟩ := hc2 trivial; subst q1 q2 q3; clear hb2 hs2 hc2 CL))
    go_ret
    exact ⟨rfl, HB0.out.trans (HB2.out.mono (by omega))⟩
  by_cases hN : (700 : Int) < (N : Int)
  · rw [if_pos (by omega)]
    have hmm := @run_makeMap Tryz.prog
    go_enter Tryz.func27, Tryz.ntmps27
    go_upto_region 1 with fail
    obtain ⟨W0, hW0⟩ : ∃ W, W = w.alloc (.cells #[.int .i64 k, .int .i64 it.kind, .int .i64 it.n, .string it.s, .string nm, .string a, .int .i64 n, .int .i64 ax, .int .i64 tk, .string tn, .slice sl m cap] 43) := ⟨_, rfl⟩
    have HBOX := HBOX0
    have HB0 := HB00
    rw [← hW0] at HBOX HB0 hz0 CL ⊢
    have HZ0 : Hid (W0.heap.size = w.heap.size + 1) := hz0
    have hlt0 : w.heap.size < W0.heap.size := by omega
    clear hW0 hz0 HBOX0 HB00
    obtain ⟨d0, d1, d2, d3, d4, d5, d6, d7, d8, d9, d10, _, _, _⟩ := HBOX.out W0 (Below.refl _ _)
    go_wp2_with (first
      | (go_at_call 55; refine (CF.out _).mono ?_; rintro e w1 ⟨rfl, hv1, hb1⟩; have HV1 : Hid (VMap w1 W0.heap.size fnsV) := hv1; have HB1 : Hid (Below (w.heap.size + 1) W0 w1) := hb1.mono (by omega); have hz1 : W0.heap.size ≤ w1.heap.size := hb1.size; clear hv1 hb1 CF; clear d0 d1 d2 d3 d4 d5 d6 d7 d8 d9 d10)
      | (go_at_call 56; refine (CL.out _ W0.heap.size w1.heap.size (w1.heap.size + 1) ?_ (ck_start (W0 := W0) HV1.out) (by omega) (by omega)).mono ?_; (· exact (HB1.out.alloc (by omega) _).alloc (by simp; omega) _); rintro e w2 ⟨rfl, ⟨l2, k2, p2, hs2, hc2⟩, hb2⟩; have HB2 : Hid (Below (w.heap.size + 1) W0 w2) := ((HB1.out.alloc (by omega) _).alloc (by simp; omega) _).trans hb2; have hcb2 := hs2.lt; obtain ⟨_, _, c2, c3, c4, _⟩ := hs2.cells; obtain ⟨q1, q2, q3⟩ := hc2 trivial; subst q1 q2 q3; clear hb2 hs2 hc2 CL))
    go_ret
    exact ⟨rfl, HB0.out.trans (HB2.out.mono (by omega))⟩
  rw [if_neg (by omega)]
  have hmm := @run_makeMap Tryz.prog
  go_enter Tryz.func27, Tryz.ntmps27
  go_upto_region 1 with fail
  obtain ⟨W0, hW0⟩ : ∃ W, W = w.alloc (.cells #[.int .i64 k, .int .i64 it.kind, .int .i64 it.n, .string it.s, .string nm, .string a, .int .i64 n, .int .i64 ax, .int .i64 tk, .string tn, .slice sl m cap] 43) := ⟨_, rfl⟩
  have HBOX := HBOX0
  have HB0 := HB00
  rw [← hW0] at HBOX HB0 hz0 CL ⊢
  have HZ0 : Hid (W0.heap.size = w.heap.size + 1) := hz0
  have hlt0 : w.heap.size < W0.heap.size := by omega
  clear hW0 hz0 HBOX0 HB00
  obtain ⟨d0, d1, d2, d3, d4, d5, d6, d7, d8, d9, d10, _, _, _⟩ := HBOX.out W0 (Below.refl _ _)
  go_wp2_with (first
    | (go_at_call 55; refine (CF.out _).mono ?_; rintro e w1 ⟨rfl, hv1, hb1⟩; have HV1 : Hid (VMap w1 W0.heap.size fnsV) := hv1; have HB1 : Hid (Below (w.heap.size + 1) W0 w1) := hb1.mono (by omega); have hz1 : W0.heap.size ≤ w1.heap.size := hb1.size; clear hv1 hb1 CF; clear d0 d1 d2 d3 d4 d5 d6 d7 d8 d9 d10)
    | (go_at_call 56; refine (CL.out _ W0.heap.size w1.heap.size (w1.heap.size + 1) ?_ (ck_start (W0 := W0) HV1.out) (by omega) (by omega)).mono ?_; (· exact (HB1.out.alloc (by omega) _).alloc (by simp; omega) _); rintro e w2 ⟨rfl, ⟨l2, k2, p2, hs2, hc2⟩, hb2⟩; have HB2 : Hid (Below (w.heap.size + 1) W0 w2) := ((HB1.out.alloc (by omega) _).alloc (by simp; omega) _).trans hb2; have hcb2 := hs2.lt; obtain ⟨_, _, c2, c3, c4, _⟩ := hs2.cells; obtain ⟨q1, q2, q3⟩ := hc2 trivial; subst q1 q2 q3; clear hb2 hs2 hc2 CL))
  go_ret
  exact ⟨rfl, HB0.out.trans (HB2.out.mono (by omega))⟩
end Go.Proofs.YtcbpjgnbdpfiiaaGreatDoor
