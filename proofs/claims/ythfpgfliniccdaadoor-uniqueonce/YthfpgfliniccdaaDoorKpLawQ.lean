/-
  THE LAW UniqueOnce of package pleacherkeep.
-/
import Derived.Test.YthfpgfliniccdaaDoorKpUq
import Derived.Deep.QuietTactic
import Derived.BigQuiet
import Derived.Sort.AtCall
set_option linter.unusedVariables false
namespace Go.Proofs.YthfpgfliniccdaaDoor
set_option maxRecDepth 100000
open Go.RowKit Go.WideShapes

theorem relation_ex (v : Value) (n : Nat) (X : Nat → Rw) (a b : ByteArray) (w : World) (hv : RawsIs w v n X) (hf : RawsFine n X) :
    Calls Tryd.prog 5 #[v, .string a, .string b] w fun e w' => ∃ ca cc ra rc, e = .returned (.agg #[.slice ca 2 cc, .slice ra (rawN n) rc]) ∧ CopyIs w' (.slice ca 2 cc) (.slice ra (rawN n) rc) 2 (rawN n) (twoC a b) (rawR X) ∧ Chain w w' := by
  refine (relation_is v n X a b w hv hf).mono ?_
  rintro e w' ⟨c, q, rfl, h1, h2, h3, h4⟩
  have h1' := h1
  obtain ⟨ca, cc, rfl, _⟩ := h1
  have h2' := h2.is
  obtain ⟨ra, rc, rfl⟩ := h2.shape
  exact ⟨ca, cc, ra, rc, rfl, ⟨h1', h2'⟩, h3⟩
theorem two_litb (w : World) (a b : ByteArray) (T : TypeId) (g : Nat) (h : w.heap.size = g) : StrsIs (w.alloc (.cells #[.string a, .string b] T)) (.slice (some ⟨g, 0, none⟩) 2 2) 2 (twoC a b) := by
  subst h
  exact ⟨_, _, rfl, Nat.le_refl _, by unfold maxLen; omega, (fun h => nomatch h), fun _ => ⟨_, _, rfl, by simp, fun i hi => by
    have : i = 0 ∨ i = 1 := by omega
    rcases this with rfl | rfl <;> simp [twoC]⟩⟩
theorem one_litb (w : World) (a : ByteArray) (T : TypeId) (g : Nat) (h : w.heap.size = g) : StrsIs (w.alloc (.cells #[.string a] T)) (.slice (some ⟨g, 0, none⟩) 1 1) 1 (fun _ => a) := by
  subst h
  exact ⟨_, _, rfl, Nat.le_refl _, by unfold maxLen; omega, (fun h => nomatch h), fun _ => ⟨_, _, rfl, by simp, fun i hi => by
    obtain rfl : i = 0 := by omega
    simp⟩⟩
theorem carry2 {w wr : World} {b : Nat} {x y : Value} (h : Chain w wr) (h0 : w.cell? ⟨b, 0, none⟩ = some x) (h1 : w.cell? ⟨b, 1, none⟩ = some y) (hb : b < w.heap.size) : wr.cell? ⟨b, 0, none⟩ = some x ∧ wr.cell? ⟨b, 1, none⟩ = some y ∧ b < wr.heap.size :=
  ⟨(Below.cell h (p := ⟨b, 0, none⟩) hb).trans h0, (Below.cell h (p := ⟨b, 1, none⟩) hb).trans h1, Nat.lt_of_lt_of_le hb (Below.size h)⟩
set_option maxHeartbeats 1600000 in
theorem relTells_is (w : World) (hT : Tabs w) : Calls Tryd.prog 4 #[] w fun e w' => e = .returned (.bool true) ∧ Chain w w' := by
  have C1 : Hid (∀ W, Chain w W → Calls Tryd.prog 9 #[.agg #[.int .i64 (-1), .int .i64 0, .string ByteArray.empty]] W fun e w' => e = .returned (.int .i64 12) ∧ Chain W w') := fun W hW => checkItem_any (-1) 0 ByteArray.empty W (by decide) (Utf8Tabs_below hT hW)
  clear hT
  go_enter Tryd.func4, Tryd.ntmps4
  go_wp2_with (go_at_call 9; refine (C1.out _ ?_).mono ?_; (focus (repeat (first | exact Chain.refl _ | refine Chain.alloc ?_ _))); rintro e w1 ⟨rfl, hb1⟩)
  go_ret
  exact ⟨ret_bool (by simp), by first | exact hb1 | exact ((Chain.refl _).alloc _).trans hb1⟩
theorem uq1 (X : Nat → Rw) (M ko : Nat) (O : Nat → ByteArray) (hm : M ≤ 12) (hF : foundB (twoC nA nB) 2 O ko = true) (hfl : StrsFine ko O) (c q l : Value) (W : World) (hT : Tabs W) (h1 : CopyIs W c q 2 M (twoC nA nB) (rawR X)) (hl : StrsIs W l ko O) :
    Calls Tryd.prog 6 #[.agg #[c, q], l] W fun e w' => ∃ a3 k3 b3 l3, e = .returned (.tuple #[.agg #[.slice a3 2 k3, .slice b3 (keptN (uniK (rawR X) (prP (twoC nA nB) 2 O) ko) M) l3], .int .i64 0]) ∧ CopyIs w' (.slice a3 2 k3) (.slice b3 (keptN (uniK (rawR X) (prP (twoC nA nB) 2 O) ko) M) l3) 2 (keptN (uniK (rawR X) (prP (twoC nA nB) 2 O) ko) M) (twoC nA nB) (keptR (uniK (rawR X) (prP (twoC nA nB) 2 O) ko) M (rawR X)) ∧ Chain W w' := by
  have h := unique_is c q l 2 M ko (twoC nA nB) O (rawR X) W h1.1 h1.2 (cols_fine _ _ (by decide) (by decide)) (raw_fine X _ hm) hl hfl hT
  rw [uni_a X M hm hF] at h
  refine h.mono ?_
  rintro e w' ⟨c1, q1, h3, h4, h5⟩
  obtain ⟨h7, h8⟩ := h4 w' (Nat.le_refl _) (fun _ _ _ => rfl)
  have h9 := h8
  have h10 := h7
  obtain ⟨a3, k3, rfl, _⟩ := h7
  obtain ⟨b3, l3, rfl, _⟩ := h8
  exact ⟨a3, k3, b3, l3, h3, ⟨h10, h9⟩, h5⟩
theorem uq2 (X : Nat → Rw) (M ko : Nat) (O : Nat → ByteArray) (hm : M ≤ 12) (hF : foundB (twoC nA nB) 2 O ko = true) (hfl : StrsFine ko O) (K : Nat → Bool) (N : Nat) (hK : K = uniK (rawR X) (prP (twoC nA nB) 2 O) ko) (hN : N = keptN K M) (c q l : Value) (W : World) (hT : Tabs W) (h1 : CopyIs W c q 2 N (twoC nA nB) (keptR K M (rawR X))) (hl : StrsIs W l ko O) :
    Calls Tryd.prog 6 #[.agg #[c, q], l] W fun e w' => ∃ a3 k3 b3 l3, e = .returned (.tuple #[.agg #[.slice a3 2 k3, .slice b3 N l3], .int .i64 0]) ∧ RowsIs w' (.slice b3 N l3) N (keptR (uniK (keptR K M (rawR X)) (prP (twoC nA nB) 2 O) ko) N (keptR K M (rawR X))) ∧ Chain W w' := by
  subst hK
  subst hN
  have hN' := Nat.le_trans (keptN_le (uniK (rawR X) (prP (twoC nA nB) 2 O) ko) M) hm
  have h := unique_is c q l 2 _ ko (twoC nA nB) O _ W h1.1 h1.2 (cols_fine _ _ (by decide) (by decide)) (kept_fine X _ _ _ hN') hl hfl hT
  rw [uni_u X _ M _ hN' hF, twice_n] at h
  refine h.mono ?_
  rintro e w' ⟨c1, q1, h3, h4, h5⟩
  obtain ⟨h7, h8⟩ := h4 w' (Nat.le_refl _) (fun _ _ _ => rfl)
  have h9 := h8
  obtain ⟨a3, k3, rfl, _⟩ := h7
  obtain ⟨b3, l3, rfl, _⟩ := h8
  exact ⟨a3, k3, b3, l3, h3, h9, h5⟩
theorem uqe (X : Nat → Rw) (M ko : Nat) (O : Nat → ByteArray) (hm : M ≤ 12) (hF : foundB (twoC nA nB) 2 O ko = true) (hfl : StrsFine ko O) (K : Nat → Bool) (N : Nat) (hK : K = uniK (rawR X) (prP (twoC nA nB) 2 O) ko) (hN : N = keptN K M) (c q c' q' l : Value) (W : World) (hT : Tabs W) (h1 : CopyIs W c q 2 M (twoC nA nB) (rawR X)) (h2 : CopyIs W c' q' 2 N (twoC nA nB) (keptR K M (rawR X))) (hl : StrsIs W l ko O) :
    Calls Tryd.prog 7 #[.agg #[c, q], .agg #[c', q'], l] W fun e w' => ∃ a3 k3 b3 l3, e = .returned (.tuple #[.agg #[.slice a3 2 k3, .slice b3 0 l3], .int .i64 0]) ∧ Chain W w' := by
  subst hK
  subst hN
  have hN' := Nat.le_trans (keptN_le (uniK (rawR X) (prP (twoC nA nB) 2 O) ko) M) hm
  have h := except_is c q c' q' l 2 M 2 _ ko (twoC nA nB) (twoC nA nB) O (rawR X) _ W h1.1 h1.2 (cols_fine _ _ (by decide) (by decide)) (raw_fine X _ hm) h2.1 h2.2 (cols_fine _ _ (by decide) (by decide)) (kept_fine X _ _ _ hN') hl hfl hT
  rw [exc_u X _ M _ hm hN' hF, none_left] at h
  refine h.mono ?_
  rintro e w' ⟨c1, q1, h3, h4, h5⟩
  obtain ⟨h7, h8⟩ := h4 w' (Nat.le_refl _) (fun _ _ _ => rfl)
  obtain ⟨a3, k3, rfl, _⟩ := h7
  obtain ⟨b3, l3, rfl, _⟩ := h8
  exact ⟨a3, k3, b3, l3, h3, h5⟩
set_option maxHeartbeats 12800000 in
theorem lawUniqueNo (v : Value) (n : Nat) (X : Nat → Rw) (w : World) (hv : RawsIs w v n X) (hf : RawsFine n X) (hT : Tabs w) :
    Calls Tryd.prog 3 #[v, .bool false] w fun e w' => e = .returned (.bool true) ∧ Below w.heap.size w w' := by
  have hm := rawN_le n
  have CR : Hid (Calls Tryd.prog 4 #[] w fun e w' => e = .returned (.bool true) ∧ Chain w w') := relTells_is w hT
  have CA : Hid (∀ W, Chain w W → Calls Tryd.prog 5 #[v, .string ⟨#[97]⟩, .string ⟨#[98]⟩] W fun e w' => ∃ ca cc ra rc, e = .returned (.agg #[.slice ca 2 cc, .slice ra (rawN n) rc]) ∧ CopyIs w' (.slice ca 2 cc) (.slice ra (rawN n) rc) 2 (rawN n) (twoC nA nB) (rawR X) ∧ Chain W w') := fun W hW => relation_ex v n X nA nB W (hv.below hW) hf
  obtain ⟨M, hM⟩ : ∃ M, M = rawN n := ⟨_, rfl⟩
  rw [← hM] at CA hm
  obtain ⟨K, hK⟩ : ∃ K, K = uniK (rawR X) (prP (twoC nA nB) 2 (fun _ => nB)) 1 := ⟨_, rfl⟩
  obtain ⟨N, hN⟩ : ∃ N, N = keptN K M := ⟨_, rfl⟩
  obtain ⟨U, hU⟩ : ∃ U, U = keptR K M (rawR X) := ⟨_, rfl⟩
  obtain ⟨V, hV⟩ : ∃ V, V = keptR (uniK U (prP (twoC nA nB) 2 (fun _ => nB)) 1) N U := ⟨_, rfl⟩
  have CQ1 : Hid (∀ W c q l, Chain w W → CopyIs W c q 2 M (twoC nA nB) (rawR X) → StrsIs W l 1 (fun _ => nB) → Calls Tryd.prog 6 #[.agg #[c, q], l] W fun e w' => ∃ a3 k3 b3 l3, e = .returned (.tuple #[.agg #[.slice a3 2 k3, .slice b3 N l3], .int .i64 0]) ∧ CopyIs w' (.slice a3 2 k3) (.slice b3 N l3) 2 N (twoC nA nB) U ∧ Chain W w') := fun W c q l hW h1 hl => by
    have h := uq1 X M 1 (fun _ => nB) hm found_one (one_fine _ (by decide)) c q l W (Utf8Tabs_below hT hW) h1 hl
    rw [← hK, ← hN, ← hU] at h
    exact h
  have CQ2 : Hid (∀ W c q l, Chain w W → CopyIs W c q 2 N (twoC nA nB) U → StrsIs W l 1 (fun _ => nB) → Calls Tryd.prog 6 #[.agg #[c, q], l] W fun e w' => ∃ a3 k3 b3 l3, e = .returned (.tuple #[.agg #[.slice a3 2 k3, .slice b3 N l3], .int .i64 0]) ∧ RowsIs w' (.slice b3 N l3) N V ∧ Chain W w') := fun W c q l hW h1 hl => by
    rw [hU] at h1
    have h := uq2 X M 1 (fun _ => nB) hm found_one (one_fine _ (by decide)) K N hK hN c q l W (Utf8Tabs_below hT hW) h1 hl
    rw [← hU, ← hV] at h
    exact h
  have CE : Hid (∀ W c q c' q' l, Chain w W → CopyIs W c q 2 M (twoC nA nB) (rawR X) → CopyIs W c' q' 2 N (twoC nA nB) U → StrsIs W l 1 (fun _ => nB) → Calls Tryd.prog 7 #[.agg #[c, q], .agg #[c', q'], l] W fun e w' => ∃ a3 k3 b3 l3, e = .returned (.tuple #[.agg #[.slice a3 2 k3, .slice b3 0 l3], .int .i64 0]) ∧ Chain W w') := fun W c q c' q' l hW h1 h2 hl => by
    rw [hU] at h2
    exact uqe X M 1 (fun _ => nB) hm found_one (one_fine _ (by decide)) K N hK hN c q c' q' l W (Utf8Tabs_below hT hW) h1 h2 hl
  have HSAME : Hid (∀ i, i < N → U i = V i) := fun i hi => by
    rw [hV, hU, hN, hK] at *
    exact twice_row _ _ _ _ i hi
  obtain ⟨va, vc, rfl, _⟩ := hv
  clear hf hT hM hK hN hU hV
  go_enter Tryd.func3, Tryd.ntmps3
  go_wp2_with (first
    | (go_at_call 4; refine CR.out.mono ?_; rintro e w0 ⟨rfl, hb0⟩; have HB0 : Hid (Chain w w0) := hb0; clear hb0)
    | (go_at_call 5; refine (CA.out _ HB0.out).mono ?_; rintro e w1 ⟨ca, cc, ra, rc, rfl, hc1, hb1⟩; have HC1 : Hid (CopyIs w1 (.slice ca 2 cc) (.slice ra M rc) 2 M (twoC nA nB) (rawR X)) := hc1; have HB1 : Hid (Chain w w1) := HB0.out.trans hb1; clear hc1 hb1)
    | (go_at_call_has 6 (Value.slice ra M rc); refine (CQ1.out _ _ _ _ ?_ ?_ ?_).mono ?_; (focus (repeat (first | exact HB1.out | refine Chain.alloc ?_ _))); (focus (repeat (first | exact HC1.out | refine CopyIs.alloc ?_ _))); (focus (exact one_litb _ _ _ _ (by simp))); rintro e w2 ⟨a3, k3, b3, l3, rfl, hc2, hb2⟩; have HCO : Hid (StrsIs w2 (.slice (some ⟨w1.heap.size + 1, 0, none⟩) 1 1) 1 (fun _ => nB)) := strs_chain (one_litb _ _ _ _ (by simp)) hb2; have HC2 : Hid (CopyIs w2 (.slice a3 2 k3) (.slice b3 N l3) 2 N (twoC nA nB) U) := hc2; have hb2' : Chain (w1.alloc (.cells #[.slice ca 2 cc, .slice ra M rc] 27)) w2 := Chain.trans (by (repeat (first | exact Chain.refl _ | refine Chain.alloc ?_ _))) hb2; obtain ⟨x0, x1, x2, _, _⟩ := kept_new hb2'; have HB12 : Hid (Chain w1 w2) := ((Chain.refl _).alloc _).trans hb2'; clear hc2 hb2 hb2')
    | (go_at_call_has 6 (Value.slice b3 N l3); refine (CQ2.out _ _ _ _ ((HB1.out.trans HB12.out).alloc _) (HC2.out.alloc _) (strs_chain HCO.out ((Chain.refl _).alloc _))).mono ?_; rintro e w3 ⟨a4, k4, b4, l4, rfl, hr3, hb3⟩; have HR3 : Hid (RowsIs w3 (.slice b4 N l4) N V) := hr3; have HB23 : Hid (Chain w2 w3) := ((Chain.refl _).alloc _).trans hb3; obtain ⟨y0, y1, y2, _, _⟩ := kept_new hb3; have hx := carry2 HB23.out x0 x1 x2; clear x0 x1 x2; obtain ⟨x0, x1, x2⟩ := hx; clear hr3 hb3)
    | (go_at_call 7; refine (CE.out _ _ _ _ _ _ (((HB1.out.trans HB12.out).trans HB23.out).alloc _) (HC1.out.chain ((HB12.out.trans HB23.out).alloc _)) (HC2.out.chain (HB23.out.alloc _)) (strs_chain HCO.out (HB23.out.alloc _))).mono ?_; rintro e w4 ⟨a5, k5, b5, l5, rfl, hb4⟩; have HB34 : Hid (Chain w3 w4) := ((Chain.refl _).alloc _).trans hb4; obtain ⟨z0, z1, z2, _, _⟩ := kept_new hb4; have hy := carry2 HB34.out y0 y1 y2; clear y0 y1 y2; obtain ⟨y0, y1, y2⟩ := hy; clear hb4)
    | (go_at_call 8; refine (sameRows_is _ _ N U V _ (HC2.out.chain ((HB23.out.trans HB34.out).alloc _)).2 (HR3.out.below (HB34.out.alloc _)) HSAME.out).mono ?_; rintro e w5 ⟨rfl, hq5⟩; have hb5 : Chain (w4.alloc (.cells #[.slice a5 2 k5, .slice b5 0 l5] 27)) w5 := (by obtain ⟨q, rfl⟩ := hq5; exact below_drawn (Below.refl _ _) q); obtain ⟨s0, s1, s2, _, _⟩ := kept_new hb5; have HB5 : Hid (Chain w4 w5) := ((Chain.refl _).alloc _).trans hb5; clear hb5 hq5))
  go_ret
  exact ⟨ret_bool (by simp), (((HB1.out.trans HB12.out).trans HB23.out).trans HB34.out).trans HB5.out⟩
set_option maxHeartbeats 12800000 in
theorem lawUniqueYes (v : Value) (n : Nat) (X : Nat → Rw) (w : World) (hv : RawsIs w v n X) (hf : RawsFine n X) (hT : Tabs w) :
    Calls Tryd.prog 3 #[v, .bool true] w fun e w' => e = .returned (.bool true) ∧ Below w.heap.size w w' := by
  have hm := rawN_le n
  have CR : Hid (Calls Tryd.prog 4 #[] w fun e w' => e = .returned (.bool true) ∧ Chain w w') := relTells_is w hT
  have CA : Hid (∀ W, Chain w W → Calls Tryd.prog 5 #[v, .string ⟨#[97]⟩, .string ⟨#[98]⟩] W fun e w' => ∃ ca cc ra rc, e = .returned (.agg #[.slice ca 2 cc, .slice ra (rawN n) rc]) ∧ CopyIs w' (.slice ca 2 cc) (.slice ra (rawN n) rc) 2 (rawN n) (twoC nA nB) (rawR X) ∧ Chain W w') := fun W hW => relation_ex v n X nA nB W (hv.below hW) hf
  obtain ⟨M, hM⟩ : ∃ M, M = rawN n := ⟨_, rfl⟩
  rw [← hM] at CA hm
  obtain ⟨K, hK⟩ : ∃ K, K = uniK (rawR X) (prP (twoC nA nB) 2 (twoC nA nB)) 2 := ⟨_, rfl⟩
  obtain ⟨N, hN⟩ : ∃ N, N = keptN K M := ⟨_, rfl⟩
  obtain ⟨U, hU⟩ : ∃ U, U = keptR K M (rawR X) := ⟨_, rfl⟩
  obtain ⟨V, hV⟩ : ∃ V, V = keptR (uniK U (prP (twoC nA nB) 2 (twoC nA nB)) 2) N U := ⟨_, rfl⟩
  have CQ1 : Hid (∀ W c q l, Chain w W → CopyIs W c q 2 M (twoC nA nB) (rawR X) → StrsIs W l 2 (twoC nA nB) → Calls Tryd.prog 6 #[.agg #[c, q], l] W fun e w' => ∃ a3 k3 b3 l3, e = .returned (.tuple #[.agg #[.slice a3 2 k3, .slice b3 N l3], .int .i64 0]) ∧ CopyIs w' (.slice a3 2 k3) (.slice b3 N l3) 2 N (twoC nA nB) U ∧ Chain W w') := fun W c q l hW h1 hl => by
    have h := uq1 X M 2 (twoC nA nB) hm found_two (cols_fine _ _ (by decide) (by decide)) c q l W (Utf8Tabs_below hT hW) h1 hl
    rw [← hK, ← hN, ← hU] at h
    exact h
  have CQ2 : Hid (∀ W c q l, Chain w W → CopyIs W c q 2 N (twoC nA nB) U → StrsIs W l 2 (twoC nA nB) → Calls Tryd.prog 6 #[.agg #[c, q], l] W fun e w' => ∃ a3 k3 b3 l3, e = .returned (.tuple #[.agg #[.slice a3 2 k3, .slice b3 N l3], .int .i64 0]) ∧ RowsIs w' (.slice b3 N l3) N V ∧ Chain W w') := fun W c q l hW h1 hl => by
    rw [hU] at h1
    have h := uq2 X M 2 (twoC nA nB) hm found_two (cols_fine _ _ (by decide) (by decide)) K N hK hN c q l W (Utf8Tabs_below hT hW) h1 hl
    rw [← hU, ← hV] at h
    exact h
  have CE : Hid (∀ W c q c' q' l, Chain w W → CopyIs W c q 2 M (twoC nA nB) (rawR X) → CopyIs W c' q' 2 N (twoC nA nB) U → StrsIs W l 2 (twoC nA nB) → Calls Tryd.prog 7 #[.agg #[c, q], .agg #[c', q'], l] W fun e w' => ∃ a3 k3 b3 l3, e = .returned (.tuple #[.agg #[.slice a3 2 k3, .slice b3 0 l3], .int .i64 0]) ∧ Chain W w') := fun W c q c' q' l hW h1 h2 hl => by
    rw [hU] at h2
    exact uqe X M 2 (twoC nA nB) hm found_two (cols_fine _ _ (by decide) (by decide)) K N hK hN c q c' q' l W (Utf8Tabs_below hT hW) h1 h2 hl
  have HSAME : Hid (∀ i, i < N → U i = V i) := fun i hi => by
    rw [hV, hU, hN, hK] at *
    exact twice_row _ _ _ _ i hi
  obtain ⟨va, vc, rfl, _⟩ := hv
  clear hf hT hM hK hN hU hV
  go_enter Tryd.func3, Tryd.ntmps3
  go_wp2_with (first
    | (go_at_call 4; refine CR.out.mono ?_; rintro e w0 ⟨rfl, hb0⟩; have HB0 : Hid (Chain w w0) := hb0; clear hb0)
    | (go_at_call 5; refine (CA.out _ HB0.out).mono ?_; rintro e w1 ⟨ca, cc, ra, rc, rfl, hc1, hb1⟩; have HC1 : Hid (CopyIs w1 (.slice ca 2 cc) (.slice ra M rc) 2 M (twoC nA nB) (rawR X)) := hc1; have HB1 : Hid (Chain w w1) := HB0.out.trans hb1; clear hc1 hb1)
    | (go_at_call_has 6 (Value.slice ra M rc); refine (CQ1.out _ _ _ _ ?_ ?_ ?_).mono ?_; (focus (repeat (first | exact HB1.out | refine Chain.alloc ?_ _))); (focus (repeat (first | exact HC1.out | refine CopyIs.alloc ?_ _))); (focus (exact two_litb _ _ _ _ _ (by simp))); rintro e w2 ⟨a3, k3, b3, l3, rfl, hc2, hb2⟩; have HCO : Hid (StrsIs w2 (.slice (some ⟨w1.heap.size + 1 + 1, 0, none⟩) 2 2) 2 (twoC nA nB)) := strs_chain (two_litb _ _ _ _ _ (by simp)) hb2; have HC2 : Hid (CopyIs w2 (.slice a3 2 k3) (.slice b3 N l3) 2 N (twoC nA nB) U) := hc2; have hb2' : Chain (w1.alloc (.cells #[.slice ca 2 cc, .slice ra M rc] 27)) w2 := Chain.trans (by (repeat (first | exact Chain.refl _ | refine Chain.alloc ?_ _))) hb2; obtain ⟨x0, x1, x2, _, _⟩ := kept_new hb2'; have HB12 : Hid (Chain w1 w2) := ((Chain.refl _).alloc _).trans hb2'; clear hc2 hb2 hb2')
    | (go_at_call_has 6 (Value.slice b3 N l3); refine (CQ2.out _ _ _ _ ((HB1.out.trans HB12.out).alloc _) (HC2.out.alloc _) (strs_chain HCO.out ((Chain.refl _).alloc _))).mono ?_; rintro e w3 ⟨a4, k4, b4, l4, rfl, hr3, hb3⟩; have HR3 : Hid (RowsIs w3 (.slice b4 N l4) N V) := hr3; have HB23 : Hid (Chain w2 w3) := ((Chain.refl _).alloc _).trans hb3; obtain ⟨y0, y1, y2, _, _⟩ := kept_new hb3; have hx := carry2 HB23.out x0 x1 x2; clear x0 x1 x2; obtain ⟨x0, x1, x2⟩ := hx; clear hr3 hb3)
    | (go_at_call 7; refine (CE.out _ _ _ _ _ _ (((HB1.out.trans HB12.out).trans HB23.out).alloc _) (HC1.out.chain ((HB12.out.trans HB23.out).alloc _)) (HC2.out.chain (HB23.out.alloc _)) (strs_chain HCO.out (HB23.out.alloc _))).mono ?_; rintro e w4 ⟨a5, k5, b5, l5, rfl, hb4⟩; have HB34 : Hid (Chain w3 w4) := ((Chain.refl _).alloc _).trans hb4; obtain ⟨z0, z1, z2, _, _⟩ := kept_new hb4; have hy := carry2 HB34.out y0 y1 y2; clear y0 y1 y2; obtain ⟨y0, y1, y2⟩ := hy; clear hb4)
    | (go_at_call 8; refine (sameRows_is _ _ N U V _ (HC2.out.chain ((HB23.out.trans HB34.out).alloc _)).2 (HR3.out.below (HB34.out.alloc _)) HSAME.out).mono ?_; rintro e w5 ⟨rfl, hq5⟩; have hb5 : Chain (w4.alloc (.cells #[.slice a5 2 k5, .slice b5 0 l5] 27)) w5 := (by obtain ⟨q, rfl⟩ := hq5; exact below_drawn (Below.refl _ _) q); obtain ⟨s0, s1, s2, _, _⟩ := kept_new hb5; have HB5 : Hid (Chain w4 w5) := ((Chain.refl _).alloc _).trans hb5; clear hb5 hq5))
  go_ret
  exact ⟨ret_bool (by simp), (((HB1.out.trans HB12.out).trans HB23.out).trans HB34.out).trans HB5.out⟩
end Go.Proofs.YthfpgfliniccdaaDoor
