/-
  CONTRACT of the document's answer on a node, but for its place (nodeMay).
-/
import Derived.Test.YtnfljohddpadhaaDoorNdKind
set_option linter.unusedVariables false
namespace Go.Proofs.YtnfljohddpadhaaDoor
open Go.RowKit

set_option maxHeartbeats 800000 in
theorem nodeMay_any (k : Int) (n v : ByteArray) (s l p : Int) (w : World) (hn : n.size ≤ maxLen) (hv : v.size ≤ maxLen) (hT : Tabs w) :
    Calls Tryd.prog 18 #[.agg #[.int .i64 k, .string n, .string v, .int .i64 s, .int .i64 l, .int .i64 p]] w fun e w' => e = .returned (.bool (mayB ⟨k, n, v, s, l, p⟩)) ∧ Below w.heap.size w w' := by
  have CN : Hid (∀ W, Calls Tryd.prog 43 #[.string n] W fun e w' => e = .returned (.int .i64 (nameF n)) ∧ w' = W) := fun W => nameFault_any n W hn
  have CL : Hid (∀ o, Calls Tryd.prog 44 #[.string v] (w.alloc o) fun e w' => e = .returned (.int .i64 (textF v)) ∧ Below (w.alloc o).heap.size (w.alloc o) w') :=
    fun o => valueFault_any v _ hv (Utf8Tabs_below hT ((Below.refl _ _).alloc (Nat.le_refl _) _))
  have HK : Hid (mayB ⟨k, n, v, s, l, p⟩ = ((if k = 6 then decide (n.size = 0 ∧ v.size = 0) else if k = 1 then decide (nameF n = 0 ∧ v.size = 0) else if k = 2 then decide (nameF n = 0 ∧ s = 0 ∧ textF v = 0) else if k = 3 ∨ k = 4 then decide (n.size = 0 ∧ s = 0 ∧ textF v = 0) else false) && decide (k = 6 → p = -1))) := rfl
  generalize mayB ⟨k, n, v, s, l, p⟩ = R at HK
  clear hT hn hv
  by_cases k1 : k = 1
  · subst k1
    have HF : Hid (R = decide (nameF n = 0 ∧ v.size = 0)) := HK.out.trans (Bool.and_true _)
    clear HK
    generalize nameF n = A at *
    by_cases ha : A = 0
    · subst ha
      by_cases hy : v.size = 0
      · have hf := isEmpty_yes hy
        have HR : Hid (R = true) := HF.out.trans (decide_eq_true ⟨rfl, hy⟩)
        clear HF hy
        go_enter Tryd.func18, Tryd.ntmps18
        go_wp2_with (first | (go_at_call 43; refine (CN.out _).mono ?_; rintro e w1 ⟨rfl, rfl⟩))
        go_ret
        exact ⟨ret_bool HR.out.symm, (Below.refl _ _).alloc (Nat.le_refl _) _⟩
      · have hf := isEmpty_no hy
        have HR : Hid (R = false) := HF.out.trans (decide_eq_false (fun h => hy h.2))
        clear HF hy
        go_enter Tryd.func18, Tryd.ntmps18
        go_wp2_with (first | (go_at_call 43; refine (CN.out _).mono ?_; rintro e w1 ⟨rfl, rfl⟩))
        go_ret
        exact ⟨ret_bool HR.out.symm, (Below.refl _ _).alloc (Nat.le_refl _) _⟩
    · have HR : Hid (R = false) := HF.out.trans (decide_eq_false (fun h => ha h.1))
      have ha' : (A == 0) = false := by simpa using ha
      clear HF ha
      go_enter Tryd.func18, Tryd.ntmps18
      go_wp2_with (first | (go_at_call 43; refine (CN.out _).mono ?_; rintro e w1 ⟨rfl, rfl⟩))
      go_ret
      exact ⟨ret_bool HR.out.symm, (Below.refl _ _).alloc (Nat.le_refl _) _⟩
  by_cases k2 : k = 2
  · subst k2
    have HF : Hid (R = decide (nameF n = 0 ∧ s = 0 ∧ textF v = 0)) := HK.out.trans (Bool.and_true _)
    clear HK k1
    generalize nameF n = A at *
    generalize textF v = B at *
    by_cases ha : A = 0
    · subst ha
      by_cases hbz : B = 0
      · subst hbz
        have HR : Hid (R = decide (s = 0)) := HF.out.trans (decide_eq_decide.2 ⟨fun h => h.2.1, fun h => ⟨rfl, h, rfl⟩⟩)
        clear HF
        go_enter Tryd.func18, Tryd.ntmps18
        go_wp2_with (first | (go_at_call 43; refine (CN.out _).mono ?_; rintro e w1 ⟨rfl, rfl⟩) | (go_at_call 44; refine (CL.out _).mono ?_; rintro e w2 ⟨rfl, hb⟩; obtain ⟨hc, hf⟩ := bcell hb))
        all_goals
          go_ret
          refine ⟨ret_bool ?_, ((Below.refl _ _).alloc (Nat.le_refl _) _).trans (hb.mono (by simp))⟩
          rw [HR.out, Bool.eq_iff_iff]
          simp_all
      · have HR : Hid (R = false) := HF.out.trans (decide_eq_false (fun h => hbz h.2.2))
        have hb' : (B == 0) = false := by simpa using hbz
        clear HF hbz
        go_enter Tryd.func18, Tryd.ntmps18
        go_wp2_with (first | (go_at_call 43; refine (CN.out _).mono ?_; rintro e w1 ⟨rfl, rfl⟩) | (go_at_call 44; refine (CL.out _).mono ?_; rintro e w2 ⟨rfl, hb⟩))
        go_ret
        exact ⟨ret_bool HR.out.symm, ((Below.refl _ _).alloc (Nat.le_refl _) _).trans (hb.mono (by simp))⟩
    · have HR : Hid (R = false) := HF.out.trans (decide_eq_false (fun h => ha h.1))
      have ha' : (A == 0) = false := by simpa using ha
      clear HF ha
      go_enter Tryd.func18, Tryd.ntmps18
      go_wp2_with (first | (go_at_call 43; refine (CN.out _).mono ?_; rintro e w1 ⟨rfl, rfl⟩))
      go_ret
      exact ⟨ret_bool HR.out.symm, (Below.refl _ _).alloc (Nat.le_refl _) _⟩
  by_cases k3 : k = 3 ∨ k = 4
  · have k6 : ¬ k = 6 := by omega
    have HF : Hid (R = decide (n.size = 0 ∧ s = 0 ∧ textF v = 0)) := by
      have e : R = decide (n.size = 0 ∧ s = 0 ∧ textF v = 0) := by rw [HK.out, if_neg k6, if_neg k1, if_neg k2, if_pos k3, decide_eq_true (p := (k = 6 → p = -1)) (fun h => absurd h k6), Bool.and_true]
      exact e
    clear HK k6 k1 k2
    generalize textF v = B at *
    by_cases hz : n.size = 0
    · have he := isEmpty_yes hz
      by_cases hbz : B = 0
      · subst hbz
        have HR : Hid (R = decide (s = 0)) := HF.out.trans (decide_eq_decide.2 ⟨fun h => h.2.1, fun h => ⟨hz, h, rfl⟩⟩)
        clear HF hz
        rcases k3 with rfl | rfl
        all_goals
          go_enter Tryd.func18, Tryd.ntmps18
          go_wp2_with (first | (go_at_call 44; refine (CL.out _).mono ?_; rintro e w2 ⟨rfl, hb⟩; obtain ⟨hc, hf⟩ := bcell hb))
          all_goals
            go_ret
            refine ⟨ret_bool ?_, ((Below.refl _ _).alloc (Nat.le_refl _) _).trans (hb.mono (by simp))⟩
            rw [HR.out, Bool.eq_iff_iff]
            simp_all
      · have HR : Hid (R = false) := HF.out.trans (decide_eq_false (fun h => hbz h.2.2))
        have hb' : (B == 0) = false := by simpa using hbz
        clear HF hbz hz
        rcases k3 with rfl | rfl
        all_goals
          go_enter Tryd.func18, Tryd.ntmps18
          go_wp2_with (first | (go_at_call 44; refine (CL.out _).mono ?_; rintro e w2 ⟨rfl, hb⟩))
          go_ret
          exact ⟨ret_bool HR.out.symm, ((Below.refl _ _).alloc (Nat.le_refl _) _).trans (hb.mono (by simp))⟩
    · have he := isEmpty_no hz
      have HR : Hid (R = false) := HF.out.trans (decide_eq_false (fun h => hz h.1))
      clear HF hz
      rcases k3 with rfl | rfl
      all_goals
        go_enter Tryd.func18, Tryd.ntmps18
        go_wp2
        go_ret
        exact ⟨ret_bool HR.out.symm, (Below.refl _ _).alloc (Nat.le_refl _) _⟩
  by_cases k6 : k = 6
  · subst k6
    have HF : Hid (R = (decide (n.size = 0 ∧ v.size = 0) && decide (p = -1))) := HK.out.trans (by rw [if_pos rfl]; congr 1; exact decide_eq_decide.2 ⟨fun h => h rfl, fun h _ => h⟩)
    clear HK k1 k2 k3
    by_cases hz : n.size = 0
    · have he := isEmpty_yes hz
      by_cases hy : v.size = 0
      · have hf := isEmpty_yes hy
        have HR : Hid (R = decide (p = -1)) := HF.out.trans (by rw [decide_eq_true ⟨hz, hy⟩, Bool.true_and])
        clear HF hz hy
        go_enter Tryd.func18, Tryd.ntmps18
        go_wp2
        all_goals
          go_ret
          refine ⟨ret_bool ?_, (Below.refl _ _).alloc (Nat.le_refl _) _⟩
          rw [HR.out, Bool.eq_iff_iff]
          simp_all
      · have hf := isEmpty_no hy
        have HR : Hid (R = false) := HF.out.trans (by rw [decide_eq_false (fun h => hy h.2), Bool.false_and])
        clear HF hz hy
        go_enter Tryd.func18, Tryd.ntmps18
        go_wp2
        go_ret
        exact ⟨ret_bool HR.out.symm, (Below.refl _ _).alloc (Nat.le_refl _) _⟩
    · have he := isEmpty_no hz
      have HR : Hid (R = false) := HF.out.trans (by rw [decide_eq_false (fun h => hz h.1), Bool.false_and])
      clear HF hz
      go_enter Tryd.func18, Tryd.ntmps18
      go_wp2
      go_ret
      exact ⟨ret_bool HR.out.symm, (Below.refl _ _).alloc (Nat.le_refl _) _⟩
  · have HR : Hid (R = false) := by
      have e : R = false := by rw [HK.out, if_neg k6, if_neg k1, if_neg k2, if_neg k3, Bool.false_and]
      exact e
    have c6 : (k == 6) = false := by simpa using k6
    have c1 : (k == 1) = false := by simpa using k1
    have c2 : (k == 2) = false := by simpa using k2
    have c3 : (k == 3) = false := by simpa using (fun h => k3 (.inl h))
    have c4 : (k == 4) = false := by simpa using (fun h => k3 (.inr h))
    clear HK k6 k1 k2 k3
    go_enter Tryd.func18, Tryd.ntmps18
    go_wp2
    go_ret
    exact ⟨ret_bool HR.out.symm, (Below.refl _ _).alloc (Nat.le_refl _) _⟩
end Go.Proofs.YtnfljohddpadhaaDoor
