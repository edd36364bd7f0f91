/-
  CONTRACTS: what the document refuses of an expression of the core (CoreFault).
-/
import Derived.Test.YtlllgelolmkapaaDoorCfF
import Derived.Test.YtlllgelolmkapaaDoorCfCount
import Derived.Deep.Cut
set_option linter.unusedVariables false
namespace Go.Proofs.YtlllgelolmkapaaDoor
set_option maxRecDepth 100000
open Go.RowKit Go.WideShapes

set_option maxHeartbeats 3200000 in
theorem coreFault_is (B : Nat) (x : Ex) (v : Value) (w : World) (hv : x.V w B v) (hB : B ≤ w.heap.size) (hT : TB B w) (hN : nodesX x ≤ 1048576) :
    Calls Tryd.prog 5 #[v] w fun e w' => e = .returned (.int .i64 (coreF x)) ∧ Below w.heap.size w w' := by
  have HV : Hid (Ex.V w B x v) := hv
  cases x with
  | no => exact hv.elim
  | mk k it nm a n ax tk tn m A =>
  obtain ⟨sl, cap, rfl, s1, s2, s3, hmc, hcm, hsl⟩ := hv
  obtain ⟨x, hx⟩ : ∃ y, y = Ex.mk k it nm a n ax tk tn m A := ⟨_, rfl⟩
  rw [← hx] at HV hN ⊢
  have HBOX0 : Hid (∀ W, Below (w.heap.size + 1) (w.alloc (.cells #[.int .i64 k, .int .i64 it.kind, .int .i64 it.n, .string it.s, .string nm, .string a, .int .i64 n, .int .i64 ax, .int .i64 tk, .string tn, .slice sl m cap] 28)) W → HeadAt W w.heap.size 0 k it nm a n ax tk tn (.slice sl m cap)) := fun W hW => (head_box w k it nm a n ax tk tn _ s1 s2 s3 _).keep (hW.block _ (by omega))
  have HB00 : Hid (Below w.heap.size w (w.alloc (.cells #[.int .i64 k, .int .i64 it.kind, .int .i64 it.n, .string it.s, .string nm, .string a, .int .i64 n, .int .i64 ax, .int .i64 tk, .string tn, .slice sl m cap] 28))) := (Below.refl _ _).alloc (Nat.le_refl _) _
  have hz0 : (w.alloc (.cells #[.int .i64 k, .int .i64 it.kind, .int .i64 it.n, .string it.s, .string nm, .string a, .int .i64 n, .int .i64 ax, .int .i64 tk, .string tn, .slice sl m cap] 28)).heap.size = w.heap.size + 1 := by simp
  have HVW : Hid (∀ W, Below w.heap.size w W → x.V W B (.agg #[.int .i64 k, .int .i64 it.kind, .int .i64 it.n, .string it.s, .string nm, .string a, .int .i64 n, .int .i64 ax, .int .i64 tk, .string tn, .slice sl m cap])) := fun W hW => HV.out.below (hW.mono hB)
  have CE : Hid (∀ W, Below w.heap.size w W → Calls Tryd.prog 8 #[.agg #[.int .i64 k, .int .i64 it.kind, .int .i64 it.n, .string it.s, .string nm, .string a, .int .i64 n, .int .i64 ax, .int .i64 tk, .string tn, .slice sl m cap], .slice none 0 0] W fun e w' => e = .returned (.int .i64 (exF x [])) ∧ Below W.heap.size W w') := fun W hW => exprFault_is B x [] W _ _ (HVW.out W hW) (ScIs.nil W) (Nat.le_trans hB hW.size) (hT.below (hW.mono hB)) (by simp; omega)
  have CL : Hid (∀ W, Below w.heap.size w W → Calls Tryd.prog 9 #[.agg #[.int .i64 k, .int .i64 it.kind, .int .i64 it.n, .string it.s, .string nm, .string a, .int .i64 n, .int .i64 ax, .int .i64 tk, .string tn, .slice sl m cap], .int .i64 5, .int .i64 6] W fun e w' => e = .returned (.int .i64 (cntX loopB x)) ∧ Below W.heap.size W w') := fun W hW => loops_is B x W _ (HVW.out W hW) (Nat.le_trans hB hW.size) (by omega)
  have CM : Hid (∀ W, Below w.heap.size w W → Calls Tryd.prog 9 #[.agg #[.int .i64 k, .int .i64 it.kind, .int .i64 it.n, .string it.s, .string nm, .string a, .int .i64 n, .int .i64 ax, .int .i64 tk, .string tn, .slice sl m cap], .int .i64 10, .int .i64 10] W fun e w' => e = .returned (.int .i64 (cntX makeB x)) ∧ Below W.heap.size W w') := fun W hW => makes_is B x W _ (HVW.out W hW) (Nat.le_trans hB hW.size) (by omega)
  have CN : Hid (∀ W, Below w.heap.size w W → Calls Tryd.prog 10 #[.agg #[.int .i64 k, .int .i64 it.kind, .int .i64 it.n, .string it.s, .string nm, .string a, .int .i64 n, .int .i64 ax, .int .i64 tk, .string tn, .slice sl m cap]] W fun e w' => e = .returned (.int .i64 (nodesX x)) ∧ Below W.heap.size W w') := fun W hW => partCount_is B x W _ (HVW.out W hW) (Nat.le_trans hB hW.size) (by omega)
  have HCF : Hid (coreF x = if exF x [] = 0 then (if 6 < cntX loopB x ∨ 6 < cntX makeB x ∨ 700 < nodesX x then 1 else 0) else exF x []) := rfl
  rw [HCF.out]
  generalize exF x [] = R at *
  generalize cntX loopB x = L at *
  generalize cntX makeB x = K at *
  generalize nodesX x = N at *
  clear hsl hT hmc hcm s1 s2 s3 hN
  by_cases hR : R = 0
  rotate_left
  · rw [if_neg hR]
    have hR1 : (R == 0) = false := by simpa using hR
    clear hR HCF
    go_enter Tryd.func5, Tryd.ntmps5
    go_upto_region 1 with fail
    obtain ⟨W0, hW0⟩ : ∃ W, W = w.alloc (.cells #[.int .i64 k, .int .i64 it.kind, .int .i64 it.n, .string it.s, .string nm, .string a, .int .i64 n, .int .i64 ax, .int .i64 tk, .string tn, .slice sl m cap] 28) := ⟨_, rfl⟩
    have HBOX := HBOX0
    have HB0 := HB00
    rw [← hW0] at HBOX HB0 hz0 ⊢
    have HZ0 : Hid (W0.heap.size = w.heap.size + 1) := hz0
    have hlt0 : w.heap.size < W0.heap.size := by omega
    clear hW0 hz0 HBOX0 HB00
    obtain ⟨d0, d1, d2, d3, d4, d5, d6, d7, d8, d9, d10, _, _, _⟩ := HBOX.out W0 (Below.refl _ _)
    go_wp2_with (first
      | (go_at_call 8; refine (CE.out _ (HB0.out.trans ((Below.refl (w.heap.size + 1) W0).mono (by omega)))).mono ?_; rintro e w1 ⟨rfl, hb1⟩; have HB1 : Hid (Below (w.heap.size + 1) W0 w1) := (Below.refl (w.heap.size + 1) W0).trans (hb1.mono (by have := (Below.refl (w.heap.size + 1) W0).size; omega)); have hz1 : w.heap.size < w1.heap.size := (by have := HB1.out.size; omega); clear hb1 CE; clear d0 d1 d2 d3 d4 d5 d6 d7 d8 d9 d10; obtain ⟨d0, d1, d2, d3, d4, d5, d6, d7, d8, d9, d10, _, _, _⟩ := HBOX.out w1 HB1.out))
    go_ret
    exact ⟨rfl, HB0.out.trans (HB1.out.mono (by omega))⟩
  subst hR
  rw [if_pos rfl]
  by_cases hL : (6 : Int) < (L : Int)
  · rw [if_pos (by omega)]
    go_enter Tryd.func5, Tryd.ntmps5
    go_upto_region 1 with fail
    obtain ⟨W0, hW0⟩ : ∃ W, W = w.alloc (.cells #[.int .i64 k, .int .i64 it.kind, .int .i64 it.n, .string it.s, .string nm, .string a, .int .i64 n, .int .i64 ax, .int .i64 tk, .string tn, .slice sl m cap] 28) := ⟨_, rfl⟩
    have HBOX := HBOX0
    have HB0 := HB00
    rw [← hW0] at HBOX HB0 hz0 ⊢
    have HZ0 : Hid (W0.heap.size = w.heap.size + 1) := hz0
    have hlt0 : w.heap.size < W0.heap.size := by omega
    clear hW0 hz0 HBOX0 HB00
    obtain ⟨d0, d1, d2, d3, d4, d5, d6, d7, d8, d9, d10, _, _, _⟩ := HBOX.out W0 (Below.refl _ _)
    go_wp2_with (first
      | (go_at_call 8; refine (CE.out _ (HB0.out.trans ((Below.refl (w.heap.size + 1) W0).mono (by omega)))).mono ?_; rintro e w1 ⟨rfl, hb1⟩; have HB1 : Hid (Below (w.heap.size + 1) W0 w1) := (Below.refl (w.heap.size + 1) W0).trans (hb1.mono (by have := (Below.refl (w.heap.size + 1) W0).size; omega)); have hz1 : w.heap.size < w1.heap.size := (by have := HB1.out.size; omega); clear hb1 CE; clear d0 d1 d2 d3 d4 d5 d6 d7 d8 d9 d10; obtain ⟨d0, d1, d2, d3, d4, d5, d6, d7, d8, d9, d10, _, _, _⟩ := HBOX.out w1 HB1.out)
      | (go_at_call 9; refine (CL.out _ (HB0.out.trans (HB1.out.mono (by omega)))).mono ?_; rintro e w2 ⟨rfl, hb2⟩; have HB2 : Hid (Below (w.heap.size + 1) W0 w2) := HB1.out.trans (hb2.mono (by have := HB1.out.size; omega)); have hz2 : w.heap.size < w2.heap.size := (by have := HB2.out.size; omega); clear hb2 CL; clear d0 d1 d2 d3 d4 d5 d6 d7 d8 d9 d10; obtain ⟨d0, d1, d2, d3, d4, d5, d6, d7, d8, d9, d10, _, _, _⟩ := HBOX.out w2 HB2.out))
    go_ret
    exact ⟨rfl, HB0.out.trans (HB2.out.mono (by omega))⟩
  by_cases hK : (6 : Int) < (K : Int)
  · rw [if_pos (by omega)]
    go_enter Tryd.func5, Tryd.ntmps5
    go_upto_region 1 with fail
    obtain ⟨W0, hW0⟩ : ∃ W, W = w.alloc (.cells #[.int .i64 k, .int .i64 it.kind, .int .i64 it.n, .string it.s, .string nm, .string a, .int .i64 n, .int .i64 ax, .int .i64 tk, .string tn, .slice sl m cap] 28) := ⟨_, rfl⟩
    have HBOX := HBOX0
    have HB0 := HB00
    rw [← hW0] at HBOX HB0 hz0 ⊢
    have HZ0 : Hid (W0.heap.size = w.heap.size + 1) := hz0
    have hlt0 : w.heap.size < W0.heap.size := by omega
    clear hW0 hz0 HBOX0 HB00
    obtain ⟨d0, d1, d2, d3, d4, d5, d6, d7, d8, d9, d10, _, _, _⟩ := HBOX.out W0 (Below.refl _ _)
    go_wp2_with (first
      | (go_at_call 8; refine (CE.out _ (HB0.out.trans ((Below.refl (w.heap.size + 1) W0).mono (by omega)))).mono ?_; rintro e w1 ⟨rfl, hb1⟩; have HB1 : Hid (Below (w.heap.size + 1) W0 w1) := (Below.refl (w.heap.size + 1) W0).trans (hb1.mono (by have := (Below.refl (w.heap.size + 1) W0).size; omega)); have hz1 : w.heap.size < w1.heap.size := (by have := HB1.out.size; omega); clear hb1 CE; clear d0 d1 d2 d3 d4 d5 d6 d7 d8 d9 d10; obtain ⟨d0, d1, d2, d3, d4, d5, d6, d7, d8, d9, d10, _, _, _⟩ := HBOX.out w1 HB1.out)
      | (go_at_call 9; refine (CL.out _ (HB0.out.trans (HB1.out.mono (by omega)))).mono ?_; rintro e w2 ⟨rfl, hb2⟩; have HB2 : Hid (Below (w.heap.size + 1) W0 w2) := HB1.out.trans (hb2.mono (by have := HB1.out.size; omega)); have hz2 : w.heap.size < w2.heap.size := (by have := HB2.out.size; omega); clear hb2 CL; clear d0 d1 d2 d3 d4 d5 d6 d7 d8 d9 d10; obtain ⟨d0, d1, d2, d3, d4, d5, d6, d7, d8, d9, d10, _, _, _⟩ := HBOX.out w2 HB2.out)
      | (go_at_call 9; refine (CM.out _ (HB0.out.trans (HB2.out.mono (by omega)))).mono ?_; rintro e w3 ⟨rfl, hb3⟩; have HB3 : Hid (Below (w.heap.size + 1) W0 w3) := HB2.out.trans (hb3.mono (by have := HB2.out.size; omega)); have hz3 : w.heap.size < w3.heap.size := (by have := HB3.out.size; omega); clear hb3 CM; clear d0 d1 d2 d3 d4 d5 d6 d7 d8 d9 d10; obtain ⟨d0, d1, d2, d3, d4, d5, d6, d7, d8, d9, d10, _, _, _⟩ := HBOX.out w3 HB3.out))
    go_ret
    exact ⟨rfl, HB0.out.trans (HB3.out.mono (by omega))⟩
  by_cases hN : (700 : Int) < (N : Int)
  · rw [if_pos (by omega)]
    go_enter Tryd.func5, Tryd.ntmps5
    go_upto_region 1 with fail
    obtain ⟨W0, hW0⟩ : ∃ W, W = w.alloc (.cells #[.int .i64 k, .int .i64 it.kind, .int .i64 it.n, .string it.s, .string nm, .string a, .int .i64 n, .int .i64 ax, .int .i64 tk, .string tn, .slice sl m cap] 28) := ⟨_, rfl⟩
    have HBOX := HBOX0
    have HB0 := HB00
    rw [← hW0] at HBOX HB0 hz0 ⊢
    have HZ0 : Hid (W0.heap.size = w.heap.size + 1) := hz0
    have hlt0 : w.heap.size < W0.heap.size := by omega
    clear hW0 hz0 HBOX0 HB00
    obtain ⟨d0, d1, d2, d3, d4, d5, d6, d7, d8, d9, d10, _, _, _⟩ := HBOX.out W0 (Below.refl _ _)
    go_wp2_with (first
      | (go_at_call 8; refine (CE.out _ (HB0.out.trans ((Below.refl (w.heap.size + 1) W0).mono (by omega)))).mono ?_; rintro e w1 ⟨rfl, hb1⟩; have HB1 : Hid (Below (w.heap.size + 1) W0 w1) := (Below.refl (w.heap.size + 1) W0).trans (hb1.mono (by have := (Below.refl (w.heap.size + 1) W0).size; omega)); have hz1 : w.heap.size < w1.heap.size := (by have := HB1.out.size; omega); clear hb1 CE; clear d0 d1 d2 d3 d4 d5 d6 d7 d8 d9 d10; obtain ⟨d0, d1, d2, d3, d4, d5, d6, d7, d8, d9, d10, _, _, _⟩ := HBOX.out w1 HB1.out)
      | (go_at_call 9; refine (CL.out _ (HB0.out.trans (HB1.out.mono (by omega)))).mono ?_; rintro e w2 ⟨rfl, hb2⟩; have HB2 : Hid (Below (w.heap.size + 1) W0 w2) := HB1.out.trans (hb2.mono (by have := HB1.out.size; omega)); have hz2 : w.heap.size < w2.heap.size := (by have := HB2.out.size; omega); clear hb2 CL; clear d0 d1 d2 d3 d4 d5 d6 d7 d8 d9 d10; obtain ⟨d0, d1, d2, d3, d4, d5, d6, d7, d8, d9, d10, _, _, _⟩ := HBOX.out w2 HB2.out)
      | (go_at_call 9; refine (CM.out _ (HB0.out.trans (HB2.out.mono (by omega)))).mono ?_; rintro e w3 ⟨rfl, hb3⟩; have HB3 : Hid (Below (w.heap.size + 1) W0 w3) := HB2.out.trans (hb3.mono (by have := HB2.out.size; omega)); have hz3 : w.heap.size < w3.heap.size := (by have := HB3.out.size; omega); clear hb3 CM; clear d0 d1 d2 d3 d4 d5 d6 d7 d8 d9 d10; obtain ⟨d0, d1, d2, d3, d4, d5, d6, d7, d8, d9, d10, _, _, _⟩ := HBOX.out w3 HB3.out)
      | (go_at_call 10; refine (CN.out _ (HB0.out.trans (HB3.out.mono (by omega)))).mono ?_; rintro e w4 ⟨rfl, hb4⟩; have HB4 : Hid (Below (w.heap.size + 1) W0 w4) := HB3.out.trans (hb4.mono (by have := HB3.out.size; omega)); have hz4 : w.heap.size < w4.heap.size := (by have := HB4.out.size; omega); clear hb4 CN; clear d0 d1 d2 d3 d4 d5 d6 d7 d8 d9 d10; obtain ⟨d0, d1, d2, d3, d4, d5, d6, d7, d8, d9, d10, _, _, _⟩ := HBOX.out w4 HB4.out))
    go_ret
    exact ⟨rfl, HB0.out.trans (HB4.out.mono (by omega))⟩
  rw [if_neg (by omega)]
  go_enter Tryd.func5, Tryd.ntmps5
  go_upto_region 1 with fail
  obtain ⟨W0, hW0⟩ : ∃ W, W = w.alloc (.cells #[.int .i64 k, .int .i64 it.kind, .int .i64 it.n, .string it.s, .string nm, .string a, .int .i64 n, .int .i64 ax, .int .i64 tk, .string tn, .slice sl m cap] 28) := ⟨_, rfl⟩
  have HBOX := HBOX0
  have HB0 := HB00
  rw [← hW0] at HBOX HB0 hz0 ⊢
  have HZ0 : Hid (W0.heap.size = w.heap.size + 1) := hz0
  have hlt0 : w.heap.size < W0.heap.size := by omega
  clear hW0 hz0 HBOX0 HB00
  obtain ⟨d0, d1, d2, d3, d4, d5, d6, d7, d8, d9, d10, _, _, _⟩ := HBOX.out W0 (Below.refl _ _)
  go_wp2_with (first
    | (go_at_call 8; refine (CE.out _ (HB0.out.trans ((Below.refl (w.heap.size + 1) W0).mono (by omega)))).mono ?_; rintro e w1 ⟨rfl, hb1⟩; have HB1 : Hid (Below (w.heap.size + 1) W0 w1) := (Below.refl (w.heap.size + 1) W0).trans (hb1.mono (by have := (Below.refl (w.heap.size + 1) W0).size; omega)); have hz1 : w.heap.size < w1.heap.size := (by have := HB1.out.size; omega); clear hb1 CE; clear d0 d1 d2 d3 d4 d5 d6 d7 d8 d9 d10; obtain ⟨d0, d1, d2, d3, d4, d5, d6, d7, d8, d9, d10, _, _, _⟩ := HBOX.out w1 HB1.out)
    | (go_at_call 9; refine (CL.out _ (HB0.out.trans (HB1.out.mono (by omega)))).mono ?_; rintro e w2 ⟨rfl, hb2⟩; have HB2 : Hid (Below (w.heap.size + 1) W0 w2) := HB1.out.trans (hb2.mono (by have := HB1.out.size; omega)); have hz2 : w.heap.size < w2.heap.size := (by have := HB2.out.size; omega); clear hb2 CL; clear d0 d1 d2 d3 d4 d5 d6 d7 d8 d9 d10; obtain ⟨d0, d1, d2, d3, d4, d5, d6, d7, d8, d9, d10, _, _, _⟩ := HBOX.out w2 HB2.out)
    | (go_at_call 9; refine (CM.out _ (HB0.out.trans (HB2.out.mono (by omega)))).mono ?_; rintro e w3 ⟨rfl, hb3⟩; have HB3 : Hid (Below (w.heap.size + 1) W0 w3) := HB2.out.trans (hb3.mono (by have := HB2.out.size; omega)); have hz3 : w.heap.size < w3.heap.size := (by have := HB3.out.size; omega); clear hb3 CM; clear d0 d1 d2 d3 d4 d5 d6 d7 d8 d9 d10; obtain ⟨d0, d1, d2, d3, d4, d5, d6, d7, d8, d9, d10, _, _, _⟩ := HBOX.out w3 HB3.out)
    | (go_at_call 10; refine (CN.out _ (HB0.out.trans (HB3.out.mono (by omega)))).mono ?_; rintro e w4 ⟨rfl, hb4⟩; have HB4 : Hid (Below (w.heap.size + 1) W0 w4) := HB3.out.trans (hb4.mono (by have := HB3.out.size; omega)); have hz4 : w.heap.size < w4.heap.size := (by have := HB4.out.size; omega); clear hb4 CN; clear d0 d1 d2 d3 d4 d5 d6 d7 d8 d9 d10; obtain ⟨d0, d1, d2, d3, d4, d5, d6, d7, d8, d9, d10, _, _, _⟩ := HBOX.out w4 HB4.out))
  go_ret
  exact ⟨rfl, HB0.out.trans (HB4.out.mono (by omega))⟩
end Go.Proofs.YtlllgelolmkapaaDoor
