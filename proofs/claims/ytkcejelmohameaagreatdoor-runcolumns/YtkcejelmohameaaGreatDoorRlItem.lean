/-
  CONTRACTS: may an item be (rel.mayBe, and the document's answer ItemMay)?
-/
import Derived.Test.YtkcejelmohameaaGreatDoorUnroll
import Derived.Test.YtkcejelmohameaaGreatDoorKpOrd
import Derived.WalkKit
import Derived.WalkSpells
import Derived.WalkLawsBesides
import Derived.Outline
set_option linter.unusedVariables false
namespace Go.Proofs.YtkcejelmohameaaGreatDoor
open Go.RowKit

theorem in_anyR (n l h : Int) (w : World) :
    Calls Tryz.prog 12 #[.int .i64 n, .int .i64 l, .int .i64 h] w fun e w' => e = .returned (.bool (inB n l h)) ∧ w' = w := by
  go_enter Tryz.func12, Tryz.ntmps12
  go_wp2
  all_goals
    go_ret
    refine ⟨ret_bool ?_, rfl⟩
    simp_all [inB] <;> omega
theorem inBounds_any (n : Int) (w : World) :
    Calls Tryz.prog 126 #[.int .i64 n] w fun e w' => e = .returned (.bool (inB n (-1099511627776) 1099511627776)) ∧ w' = w := by
  go_enter Tryz.func126, Tryz.ntmps126
  go_wp2
  all_goals
    go_ret
    refine ⟨ret_bool ?_, rfl⟩
    simp_all [inB] <;> omega

set_option maxHeartbeats 800000 in
theorem mayBe_any (k n : Int) (s : ByteArray) (w : World) (hs : s.size ≤ maxLen) (hT : Tabs w) :
    Calls Tryz.prog 167 #[.agg #[.int .i64 k, .int .i64 n, .string s]] w fun e w' => e = .returned (.bool (mayI ⟨k, n, s⟩)) ∧ Below w.heap.size w w' := by
  have CL : Hid (∀ o, Calls Tryz.prog 201 #[.string s] (w.alloc o) fun e w' => e = .returned (.int .i64 (textF s)) ∧ Below (w.alloc o).heap.size (w.alloc o) w') :=
    fun o => checkText_any s _ hs (Utf8Tabs_below hT ((Below.refl _ _).alloc (Nat.le_refl _) _))
  have HK : Hid (mayI ⟨k, n, s⟩ = if k = 1 then decide (s.size = 0 ∧ 0 ≤ n ∧ n < 100000) else if k = 2 then decide (s.size = 0 ∧ -1099511627776 ≤ n ∧ n ≤ 1099511627776) else if k = 3 then decide (n = 0 ∧ textF s = 0) else if k = 4 then decide (s.size = 0 ∧ (n = 0 ∨ n = 1)) else false) := rfl
  generalize mayI ⟨k, n, s⟩ = R at HK
  clear hT hs
  by_cases k3 : k = 3
  · subst k3
    have HF : Hid (R = decide (n = 0 ∧ textF s = 0)) := HK.out
    clear HK
    generalize textF s = B at *
    by_cases hn : n = 0
    · subst hn
      by_cases hb : B = 0
      · subst hb
        have HR : Hid (R = true) := HF.out.trans (decide_eq_true ⟨rfl, rfl⟩)
        clear HF
        go_enter Tryz.func167, Tryz.ntmps167
        go_wp2_with (first | (go_at_call 201; refine (CL.out _).mono ?_; rintro e w2 ⟨rfl, hb⟩))
        go_ret
        exact ⟨ret_bool HR.out.symm, ((Below.refl _ _).alloc (Nat.le_refl _) _).trans (hb.mono (by simp))⟩
      · have HR : Hid (R = false) := HF.out.trans (decide_eq_false (fun h => hb h.2))
        have hb' : (B == 0) = false := by simpa using hb
        clear HF hb
        go_enter Tryz.func167, Tryz.ntmps167
        go_wp2_with (first | (go_at_call 201; refine (CL.out _).mono ?_; rintro e w2 ⟨rfl, hb⟩))
        go_ret
        exact ⟨ret_bool HR.out.symm, ((Below.refl _ _).alloc (Nat.le_refl _) _).trans (hb.mono (by simp))⟩
    · have HR : Hid (R = false) := HF.out.trans (decide_eq_false (fun h => hn h.1))
      have hn' : (n == 0) = false := by simpa using hn
      clear HF hn
      go_enter Tryz.func167, Tryz.ntmps167
      go_wp2
      go_ret
      exact ⟨ret_bool HR.out.symm, (Below.refl _ _).alloc (Nat.le_refl _) _⟩
  clear CL
  by_cases k1 : k = 1
  · subst k1
    have HF : Hid (R = decide (s.size = 0 ∧ 0 ≤ n ∧ n < 100000)) := HK.out
    clear HK k3
    by_cases hz : s.size = 0
    · have he := isEmpty_yes hz
      have HR : Hid (R = decide (0 ≤ n ∧ n < 100000)) := HF.out.trans (decide_eq_decide.2 ⟨fun h => h.2, fun h => ⟨hz, h⟩⟩)
      clear HF hz
      go_enter Tryz.func167, Tryz.ntmps167
      go_wp2
      all_goals
        go_ret
        refine ⟨ret_bool ?_, (Below.refl _ _).alloc (Nat.le_refl _) _⟩
        rw [HR.out, Bool.eq_iff_iff]
        simp <;> omega
    · have he := isEmpty_no hz
      have HR : Hid (R = false) := HF.out.trans (decide_eq_false (fun h => hz h.1))
      clear HF hz
      go_enter Tryz.func167, Tryz.ntmps167
      go_wp2
      go_ret
      exact ⟨ret_bool HR.out.symm, (Below.refl _ _).alloc (Nat.le_refl _) _⟩
  by_cases k2 : k = 2
  · subst k2
    have HF : Hid (R = decide (s.size = 0 ∧ -1099511627776 ≤ n ∧ n ≤ 1099511627776)) := HK.out
    clear HK k3 k1
    by_cases hz : s.size = 0
    · have he := isEmpty_yes hz
      have HR : Hid (R = inB n (-1099511627776) 1099511627776) := HF.out.trans (decide_eq_decide.2 ⟨fun h => h.2, fun h => ⟨hz, h⟩⟩)
      clear HF hz
      go_enter Tryz.func167, Tryz.ntmps167
      go_wp2_with (first | (go_at_call 126; refine (inBounds_any _ _).mono ?_; rintro e w2 ⟨rfl, rfl⟩))
      go_ret
      exact ⟨ret_bool HR.out.symm, (Below.refl _ _).alloc (Nat.le_refl _) _⟩
    · have he := isEmpty_no hz
      have HR : Hid (R = false) := HF.out.trans (decide_eq_false (fun h => hz h.1))
      clear HF hz
      go_enter Tryz.func167, Tryz.ntmps167
      go_wp2
      go_ret
      exact ⟨ret_bool HR.out.symm, (Below.refl _ _).alloc (Nat.le_refl _) _⟩
  by_cases k4 : k = 4
  · subst k4
    have HF : Hid (R = decide (s.size = 0 ∧ (n = 0 ∨ n = 1))) := HK.out
    clear HK k3 k1 k2
    by_cases hz : s.size = 0
    · have he := isEmpty_yes hz
      have HR : Hid (R = decide (n = 0 ∨ n = 1)) := HF.out.trans (decide_eq_decide.2 ⟨fun h => h.2, fun h => ⟨hz, h⟩⟩)
      clear HF hz
      by_cases h0 : n = 0
      · subst h0
        go_enter Tryz.func167, Tryz.ntmps167
        go_wp2
        go_ret
        exact ⟨ret_bool HR.out.symm, (Below.refl _ _).alloc (Nat.le_refl _) _⟩
      · have h0' : (n == 0) = false := by simpa using h0
        have HR' : Hid (R = (n == 1)) := HR.out.trans (by rw [Bool.eq_iff_iff]; simp [h0])
        clear h0 HR
        go_enter Tryz.func167, Tryz.ntmps167
        go_wp2
        all_goals
          go_ret
          refine ⟨ret_bool ?_, (Below.refl _ _).alloc (Nat.le_refl _) _⟩
          first | exact HR'.out.symm | (rw [HR'.out]; simp_all)
    · have he := isEmpty_no hz
      have HR : Hid (R = false) := HF.out.trans (decide_eq_false (fun h => hz h.1))
      clear HF hz
      go_enter Tryz.func167, Tryz.ntmps167
      go_wp2
      go_ret
      exact ⟨ret_bool HR.out.symm, (Below.refl _ _).alloc (Nat.le_refl _) _⟩
  · have HR : Hid (R = false) := by
      have e : R = false := by rw [HK.out, if_neg k1, if_neg k2, if_neg k3, if_neg k4]
      exact e
    have c1 : (k == 1) = false := by simpa using k1
    have c2 : (k == 2) = false := by simpa using k2
    have c3 : (k == 3) = false := by simpa using k3
    have c4 : (k == 4) = false := by simpa using k4
    clear HK k1 k2 k3 k4
    go_enter Tryz.func167, Tryz.ntmps167
    go_wp2
    go_ret
    exact ⟨ret_bool HR.out.symm, (Below.refl _ _).alloc (Nat.le_refl _) _⟩

set_option maxHeartbeats 800000 in
theorem itemMay_any (k n : Int) (s : ByteArray) (w : World) (hs : s.size ≤ maxLen) (hT : Tabs w) :
    Calls Tryz.prog 108 #[.agg #[.int .i64 k, .int .i64 n, .string s]] w fun e w' => e = .returned (.bool (mayI ⟨k, n, s⟩)) ∧ Below w.heap.size w w' := by
  have CL : Hid (∀ o, Calls Tryz.prog 150 #[.string s] (w.alloc o) fun e w' => e = .returned (.int .i64 (textF s)) ∧ Below (w.alloc o).heap.size (w.alloc o) w') :=
    fun o => valueFault_any s _ hs (Utf8Tabs_below hT ((Below.refl _ _).alloc (Nat.le_refl _) _))
  have HK : Hid (mayI ⟨k, n, s⟩ = if k = 1 then decide (s.size = 0 ∧ 0 ≤ n ∧ n < 100000) else if k = 2 then decide (s.size = 0 ∧ -1099511627776 ≤ n ∧ n ≤ 1099511627776) else if k = 3 then decide (n = 0 ∧ textF s = 0) else if k = 4 then decide (s.size = 0 ∧ (n = 0 ∨ n = 1)) else false) := rfl
  generalize mayI ⟨k, n, s⟩ = R at HK
  clear hT hs
  by_cases k3 : k = 3
  · subst k3
    have HF : Hid (R = decide (n = 0 ∧ textF s = 0)) := HK.out
    clear HK
    generalize textF s = B at *
    by_cases hn : n = 0
    · subst hn
      by_cases hb : B = 0
      · subst hb
        have HR : Hid (R = true) := HF.out.trans (decide_eq_true ⟨rfl, rfl⟩)
        clear HF
        go_enter Tryz.func108, Tryz.ntmps108
        go_wp2_with (first | (go_at_call 150; refine (CL.out _).mono ?_; rintro e w2 ⟨rfl, hb⟩))
        go_ret
        exact ⟨ret_bool HR.out.symm, ((Below.refl _ _).alloc (Nat.le_refl _) _).trans (hb.mono (by simp))⟩
      · have HR : Hid (R = false) := HF.out.trans (decide_eq_false (fun h => hb h.2))
        have hb' : (B == 0) = false := by simpa using hb
        clear HF hb
        go_enter Tryz.func108, Tryz.ntmps108
        go_wp2_with (first | (go_at_call 150; refine (CL.out _).mono ?_; rintro e w2 ⟨rfl, hb⟩))
        go_ret
        exact ⟨ret_bool HR.out.symm, ((Below.refl _ _).alloc (Nat.le_refl _) _).trans (hb.mono (by simp))⟩
    · have HR : Hid (R = false) := HF.out.trans (decide_eq_false (fun h => hn h.1))
      have hn' : (n == 0) = false := by simpa using hn
      clear HF hn
      go_enter Tryz.func108, Tryz.ntmps108
      go_wp2
      go_ret
      exact ⟨ret_bool HR.out.symm, (Below.refl _ _).alloc (Nat.le_refl _) _⟩
  clear CL
  by_cases k124 : k = 1 ∨ k = 2 ∨ k = 4
  · obtain ⟨lo, hi, HF⟩ : ∃ lo hi : Int, Hid ((k = 1 → lo = 0 ∧ hi = 99999) ∧ (k = 2 → lo = -1099511627776 ∧ hi = 1099511627776) ∧ (k = 4 → lo = 0 ∧ hi = 1) ∧ R = (inB n lo hi && decide (s.size = 0))) := by
      have h : ∃ lo hi : Int, ((k = 1 → lo = 0 ∧ hi = 99999) ∧ (k = 2 → lo = -1099511627776 ∧ hi = 1099511627776) ∧ (k = 4 → lo = 0 ∧ hi = 1) ∧ R = (inB n lo hi && decide (s.size = 0))) := by
        rcases k124 with rfl | rfl | rfl
        · refine ⟨0, 99999, fun _ => ⟨rfl, rfl⟩, fun h => by omega, fun h => by omega, ?_⟩
          rw [HK.out, if_pos rfl, Bool.eq_iff_iff]; unfold inB; generalize s.size = z; simp; omega
        · refine ⟨-1099511627776, 1099511627776, fun h => by omega, fun _ => ⟨rfl, rfl⟩, fun h => by omega, ?_⟩
          rw [HK.out, if_neg (by omega), if_pos rfl, Bool.eq_iff_iff]; unfold inB; generalize s.size = z; simp; omega
        · refine ⟨0, 1, fun h => by omega, fun h => by omega, fun _ => ⟨rfl, rfl⟩, ?_⟩
          rw [HK.out, if_neg (by omega), if_neg (by omega), if_neg (by omega), if_pos rfl, Bool.eq_iff_iff]; unfold inB; generalize s.size = z; simp; omega
      exact h
    clear HK k3
    have HI : Hid (∀ W, Calls Tryz.prog 12 #[.int .i64 n, .int .i64 lo, .int .i64 hi] W fun e w' => e = .returned (.bool (inB n lo hi)) ∧ w' = W) := fun W => in_anyR n lo hi W
    obtain ⟨f1, f2, f4, fR⟩ := HF.out
    have HR : Hid (R = (inB n lo hi && decide (s.size = 0))) := fR
    clear HF fR
    generalize inB n lo hi = I at *
    rcases k124 with rfl | rfl | rfl
    · obtain ⟨rfl, rfl⟩ := f1 rfl
      clear f1 f2 f4
      cases I
      · go_enter Tryz.func108, Tryz.ntmps108
        go_wp2_with (first | (go_at_call 12; refine (HI.out _).mono ?_; rintro e w2 ⟨rfl, rfl⟩))
        go_ret
        exact ⟨ret_bool (by rw [HR.out]; rfl), (Below.refl _ _).alloc (Nat.le_refl _) _⟩
      · by_cases hz : s.size = 0
        · have he := isEmpty_yes hz
          have HZ : Hid (s.size = 0) := hz
          clear hz
          go_enter Tryz.func108, Tryz.ntmps108
          go_wp2_with (first | (go_at_call 12; refine (HI.out _).mono ?_; rintro e w2 ⟨rfl, rfl⟩))
          go_ret
          exact ⟨ret_bool (by rw [HR.out, decide_eq_true HZ.out]; rfl), (Below.refl _ _).alloc (Nat.le_refl _) _⟩
        · have he := isEmpty_no hz
          have HZ : Hid (¬ s.size = 0) := hz
          clear hz
          go_enter Tryz.func108, Tryz.ntmps108
          go_wp2_with (first | (go_at_call 12; refine (HI.out _).mono ?_; rintro e w2 ⟨rfl, rfl⟩))
          go_ret
          exact ⟨ret_bool (by rw [HR.out, decide_eq_false HZ.out]; rfl), (Below.refl _ _).alloc (Nat.le_refl _) _⟩
    · obtain ⟨rfl, rfl⟩ := f2 rfl
      clear f1 f2 f4
      cases I
      · go_enter Tryz.func108, Tryz.ntmps108
        go_wp2_with (first | (go_at_call 12; refine (HI.out _).mono ?_; rintro e w2 ⟨rfl, rfl⟩))
        go_ret
        exact ⟨ret_bool (by rw [HR.out]; rfl), (Below.refl _ _).alloc (Nat.le_refl _) _⟩
      · by_cases hz : s.size = 0
        · have he := isEmpty_yes hz
          have HZ : Hid (s.size = 0) := hz
          clear hz
          go_enter Tryz.func108, Tryz.ntmps108
          go_wp2_with (first | (go_at_call 12; refine (HI.out _).mono ?_; rintro e w2 ⟨rfl, rfl⟩))
          go_ret
          exact ⟨ret_bool (by rw [HR.out, decide_eq_true HZ.out]; rfl), (Below.refl _ _).alloc (Nat.le_refl _) _⟩
        · have he := isEmpty_no hz
          have HZ : Hid (¬ s.size = 0) := hz
          clear hz
          go_enter Tryz.func108, Tryz.ntmps108
          go_wp2_with (first | (go_at_call 12; refine (HI.out _).mono ?_; rintro e w2 ⟨rfl, rfl⟩))
          go_ret
          exact ⟨ret_bool (by rw [HR.out, decide_eq_false HZ.out]; rfl), (Below.refl _ _).alloc (Nat.le_refl _) _⟩
    · obtain ⟨rfl, rfl⟩ := f4 rfl
      clear f1 f2 f4
      cases I
      · go_enter Tryz.func108, Tryz.ntmps108
        go_wp2_with (first | (go_at_call 12; refine (HI.out _).mono ?_; rintro e w2 ⟨rfl, rfl⟩))
        go_ret
        exact ⟨ret_bool (by rw [HR.out]; rfl), (Below.refl _ _).alloc (Nat.le_refl _) _⟩
      · by_cases hz : s.size = 0
        · have he := isEmpty_yes hz
          have HZ : Hid (s.size = 0) := hz
          clear hz
          go_enter Tryz.func108, Tryz.ntmps108
          go_wp2_with (first | (go_at_call 12; refine (HI.out _).mono ?_; rintro e w2 ⟨rfl, rfl⟩))
          go_ret
          exact ⟨ret_bool (by rw [HR.out, decide_eq_true HZ.out]; rfl), (Below.refl _ _).alloc (Nat.le_refl _) _⟩
        · have he := isEmpty_no hz
          have HZ : Hid (¬ s.size = 0) := hz
          clear hz
          go_enter Tryz.func108, Tryz.ntmps108
          go_wp2_with (first | (go_at_call 12; refine (HI.out _).mono ?_; rintro e w2 ⟨rfl, rfl⟩))
          go_ret
          exact ⟨ret_bool (by rw [HR.out, decide_eq_false HZ.out]; rfl), (Below.refl _ _).alloc (Nat.le_refl _) _⟩
  · have k1 : ¬ k = 1 := fun h => k124 (.inl h)
    have k2 : ¬ k = 2 := fun h => k124 (.inr (.inl h))
    have k4 : ¬ k = 4 := fun h => k124 (.inr (.inr h))
    have HR : Hid (R = false) := by
      have e : R = false := by rw [HK.out, if_neg k1, if_neg k2, if_neg k3, if_neg k4]
      exact e
    have c1 : (k == 1) = false := by simpa using k1
    have c2 : (k == 2) = false := by simpa using k2
    have c3 : (k == 3) = false := by simpa using k3
    have c4 : (k == 4) = false := by simpa using k4
    clear HK k1 k2 k3 k4 k124
    go_enter Tryz.func108, Tryz.ntmps108
    go_wp2
    go_ret
    exact ⟨ret_bool HR.out.symm, (Below.refl _ _).alloc (Nat.le_refl _) _⟩
end Go.Proofs.YtkcejelmohameaaGreatDoor
