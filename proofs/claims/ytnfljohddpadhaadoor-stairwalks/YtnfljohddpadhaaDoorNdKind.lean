/-
  CONTRACTS of store.isName, store.isLeaf, store.fitsKind, and of the document's answer to it (nodeMay): has a node the name, the value and the size that its kind may have?
-/
import Derived.Test.YtnfljohddpadhaaDoorNames
import Derived.Test.YtnfljohddpadhaaDoorTexts
import Derived.Test.YtnfljohddpadhaaDoorNd
set_option linter.unusedVariables false
namespace Go.Proofs.YtnfljohddpadhaaDoor
open Go.RowKit

theorem isEmpty_yes {s : ByteArray} (h : s.size = 0) : s.toList.isEmpty = true := by
  rw [ByteArray.toList_eq, List.isEmpty_iff, List.eq_nil_iff_length_eq_zero]; exact h
theorem isEmpty_no {s : ByteArray} (h : ¬ s.size = 0) : s.toList.isEmpty = false := by
  rw [ByteArray.toList_eq, List.isEmpty_eq_false_iff, ne_eq, List.eq_nil_iff_length_eq_zero]; exact h

set_option maxHeartbeats 400000 in
theorem storeIsName_any (s : ByteArray) (w : World) (hs : s.size ≤ maxLen) :
    Calls Tryd.prog 47 #[.string s] w fun e w' => e = .returned (.bool (decide (nameF s = 0))) ∧ w' = w := by
  go_enter Tryd.func47, Tryd.ntmps47
  go_wp2_with (first | (go_at_call 62; refine (checkName_any _ _ hs).mono ?_; rintro e w1 ⟨rfl, rfl⟩))
  go_ret
  refine ⟨ret_bool ?_, rfl⟩
  rw [Bool.eq_iff_iff]
  simp

set_option maxHeartbeats 400000 in
theorem isLeaf_any (k : Int) (n v : ByteArray) (s l p : Int) (w : World) (hv : v.size ≤ maxLen) (hT : Tabs w) :
    Calls Tryd.prog 48 #[.agg #[.int .i64 k, .string n, .string v, .int .i64 s, .int .i64 l, .int .i64 p]] w fun e w' => e = .returned (.bool (decide (s = 0 ∧ textF v = 0))) ∧ Below w.heap.size w w' := by
  have CT : Hid (∀ o, Calls Tryd.prog 63 #[.string v] (w.alloc o) fun e w' => e = .returned (.int .i64 (textF v)) ∧ Below (w.alloc o).heap.size (w.alloc o) w') :=
    fun o => checkText_any v _ hv (Utf8Tabs_below hT ((Below.refl _ _).alloc (Nat.le_refl _) _))
  clear hT
  by_cases h0 : s = 0
  · subst h0
    go_enter Tryd.func48, Tryd.ntmps48
    go_wp2_with (first | (go_at_call 63; refine (CT.out _).mono ?_; rintro e w1 ⟨rfl, hb⟩))
    go_ret
    refine ⟨ret_bool ?_, ((Below.refl _ _).alloc (Nat.le_refl _) _).trans (hb.mono (by simp))⟩
    rw [Bool.eq_iff_iff]
    simp
  · have h0' : (s == 0) = false := by simpa using h0
    have HF : Hid (decide (s = 0 ∧ textF v = 0) = false) := decide_eq_false (fun h => h0 h.1)
    clear h0
    go_enter Tryd.func48, Tryd.ntmps48
    go_wp2
    go_ret
    exact ⟨ret_bool HF.out.symm, (Below.refl _ _).alloc (Nat.le_refl _) _⟩

set_option maxHeartbeats 800000 in
theorem fitsKind_any (k : Int) (n v : ByteArray) (s l p : Int) (w : World) (hn : n.size ≤ maxLen) (hv : v.size ≤ maxLen) (hT : Tabs w) :
    Calls Tryd.prog 21 #[.agg #[.int .i64 k, .string n, .string v, .int .i64 s, .int .i64 l, .int .i64 p]] w fun e w' => e = .returned (.bool (kindB ⟨k, n, v, s, l, p⟩)) ∧ Below w.heap.size w w' := by
  have CN : Hid (∀ W, Calls Tryd.prog 47 #[.string n] W fun e w' => e = .returned (.bool (decide (nameF n = 0))) ∧ w' = W) := fun W => storeIsName_any n W hn
  have CL : Hid (∀ o, Calls Tryd.prog 48 #[.agg #[.int .i64 k, .string n, .string v, .int .i64 s, .int .i64 l, .int .i64 p]] (w.alloc o) fun e w' => e = .returned (.bool (decide (s = 0 ∧ textF v = 0))) ∧ Below (w.alloc o).heap.size (w.alloc o) w') :=
    fun o => isLeaf_any k n v s l p _ hv (Utf8Tabs_below hT ((Below.refl _ _).alloc (Nat.le_refl _) _))
  have HK : Hid (kindB ⟨k, n, v, s, l, p⟩ = if k = 6 then decide (n.size = 0 ∧ v.size = 0) else if k = 1 then decide (nameF n = 0 ∧ v.size = 0) else if k = 2 then decide (nameF n = 0 ∧ s = 0 ∧ textF v = 0) else if k = 3 ∨ k = 4 then decide (n.size = 0 ∧ s = 0 ∧ textF v = 0) else false) := rfl
  generalize kindB ⟨k, n, v, s, l, p⟩ = R at HK
  clear hT hn hv
  generalize hA : decide (nameF n = 0) = A at CN
  generalize hB : decide (s = 0 ∧ textF v = 0) = B at CL
  have HA : Hid ((nameF n = 0) ↔ A = true) := by rw [← hA]; exact decide_eq_true_iff.symm
  have HB : Hid ((s = 0 ∧ textF v = 0) ↔ B = true) := by rw [← hB]; exact decide_eq_true_iff.symm
  clear hA hB
  by_cases k6 : k = 6
  · subst k6
    have HF : Hid (R = decide (n.size = 0 ∧ v.size = 0)) := HK.out
    by_cases hz : n.size = 0
    · have he := isEmpty_yes hz
      by_cases hy : v.size = 0
      · have hf := isEmpty_yes hy
        have HR : Hid (R = true) := HF.out.trans (decide_eq_true ⟨hz, hy⟩)
        clear HF HK hz hy
        go_enter Tryd.func21, Tryd.ntmps21
        go_wp2
        go_ret
        exact ⟨ret_bool HR.out.symm, (Below.refl _ _).alloc (Nat.le_refl _) _⟩
      · have hf := isEmpty_no hy
        have HR : Hid (R = false) := HF.out.trans (decide_eq_false (fun h => hy h.2))
        clear HF HK hz hy
        go_enter Tryd.func21, Tryd.ntmps21
        go_wp2
        go_ret
        exact ⟨ret_bool HR.out.symm, (Below.refl _ _).alloc (Nat.le_refl _) _⟩
    · have he := isEmpty_no hz
      have HR : Hid (R = false) := HF.out.trans (decide_eq_false (fun h => hz h.1))
      clear HF HK hz
      go_enter Tryd.func21, Tryd.ntmps21
      go_wp2
      go_ret
      exact ⟨ret_bool HR.out.symm, (Below.refl _ _).alloc (Nat.le_refl _) _⟩
  by_cases k1 : k = 1
  · subst k1
    have HF : Hid (R = decide (nameF n = 0 ∧ v.size = 0)) := HK.out
    cases A
    · have HR : Hid (R = false) := HF.out.trans (decide_eq_false (fun h => by have := HA.out.1 h.1; cases this))
      clear HF HK k6
      go_enter Tryd.func21, Tryd.ntmps21
      go_wp2_with (first | (go_at_call 47; refine (CN.out _).mono ?_; rintro e w1 ⟨rfl, rfl⟩))
      go_ret
      exact ⟨ret_bool HR.out.symm, (Below.refl _ _).alloc (Nat.le_refl _) _⟩
    · by_cases hy : v.size = 0
      · have hf := isEmpty_yes hy
        have HR : Hid (R = true) := HF.out.trans (decide_eq_true ⟨HA.out.2 rfl, hy⟩)
        clear HF HK hy k6
        go_enter Tryd.func21, Tryd.ntmps21
        go_wp2_with (first | (go_at_call 47; refine (CN.out _).mono ?_; rintro e w1 ⟨rfl, rfl⟩))
        go_ret
        exact ⟨ret_bool HR.out.symm, (Below.refl _ _).alloc (Nat.le_refl _) _⟩
      · have hf := isEmpty_no hy
        have HR : Hid (R = false) := HF.out.trans (decide_eq_false (fun h => hy h.2))
        clear HF HK hy k6
        go_enter Tryd.func21, Tryd.ntmps21
        go_wp2_with (first | (go_at_call 47; refine (CN.out _).mono ?_; rintro e w1 ⟨rfl, rfl⟩))
        go_ret
        exact ⟨ret_bool HR.out.symm, (Below.refl _ _).alloc (Nat.le_refl _) _⟩
  by_cases k2 : k = 2
  · subst k2
    have HF : Hid (R = decide (nameF n = 0 ∧ s = 0 ∧ textF v = 0)) := HK.out
    cases A
    · have HR : Hid (R = false) := HF.out.trans (decide_eq_false (fun h => by have := HA.out.1 h.1; cases this))
      clear HF HK k6 k1
      go_enter Tryd.func21, Tryd.ntmps21
      go_wp2_with (first | (go_at_call 47; refine (CN.out _).mono ?_; rintro e w1 ⟨rfl, rfl⟩))
      go_ret
      exact ⟨ret_bool HR.out.symm, (Below.refl _ _).alloc (Nat.le_refl _) _⟩
    · have HR : Hid (R = B) := by
        have e : R = B := by
          rw [HF.out, Bool.eq_iff_iff, decide_eq_true_iff, ← HB.out]
          exact ⟨fun h => h.2, fun h => ⟨HA.out.2 rfl, h⟩⟩
        exact e
      clear HF HK k6 k1
      go_enter Tryd.func21, Tryd.ntmps21
      go_wp2_with (first | (go_at_call 47; refine (CN.out _).mono ?_; rintro e w1 ⟨rfl, rfl⟩) | (go_at_call 48; refine (CL.out _).mono ?_; rintro e w2 ⟨rfl, hb⟩))
      go_ret
      exact ⟨ret_bool HR.out.symm, ((Below.refl _ _).alloc (Nat.le_refl _) _).trans (hb.mono (by simp))⟩
  by_cases k3 : k = 3 ∨ k = 4
  · have HF : Hid (R = decide (n.size = 0 ∧ s = 0 ∧ textF v = 0)) := by
      have e : R = decide (n.size = 0 ∧ s = 0 ∧ textF v = 0) := by rw [HK.out, if_neg k6, if_neg k1, if_neg k2, if_pos k3]
      exact e
    clear HK k6 k1 k2
    by_cases hz : n.size = 0
    · have he := isEmpty_yes hz
      have HR : Hid (R = B) := by
        have e : R = B := by
          rw [HF.out, Bool.eq_iff_iff, decide_eq_true_iff, ← HB.out]
          exact ⟨fun h => h.2, fun h => ⟨hz, h⟩⟩
        exact e
      clear HF hz
      rcases k3 with rfl | rfl
      all_goals
        go_enter Tryd.func21, Tryd.ntmps21
        go_wp2_with (first | (go_at_call 48; refine (CL.out _).mono ?_; rintro e w2 ⟨rfl, hb⟩))
        go_ret
        exact ⟨ret_bool HR.out.symm, ((Below.refl _ _).alloc (Nat.le_refl _) _).trans (hb.mono (by simp))⟩
    · have he := isEmpty_no hz
      have HR : Hid (R = false) := HF.out.trans (decide_eq_false (fun h => hz h.1))
      clear HF hz
      rcases k3 with rfl | rfl
      all_goals
        go_enter Tryd.func21, Tryd.ntmps21
        go_wp2
        go_ret
        exact ⟨ret_bool HR.out.symm, (Below.refl _ _).alloc (Nat.le_refl _) _⟩
  · have HR : Hid (R = false) := by
      have e : R = false := by rw [HK.out, if_neg k6, if_neg k1, if_neg k2, if_neg k3]
      exact e
    have c6 : (k == 6) = false := by simpa using k6
    have c1 : (k == 1) = false := by simpa using k1
    have c2 : (k == 2) = false := by simpa using k2
    have c3 : (k == 3) = false := by simpa using (fun h => k3 (.inl h))
    have c4 : (k == 4) = false := by simpa using (fun h => k3 (.inr h))
    clear HK k6 k1 k2 k3
    go_enter Tryd.func21, Tryd.ntmps21
    go_wp2
    go_ret
    exact ⟨ret_bool HR.out.symm, (Below.refl _ _).alloc (Nat.le_refl _) _⟩
end Go.Proofs.YtnfljohddpadhaaDoor
