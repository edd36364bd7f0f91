/-
  CONTRACTS of the small functions of package xml's Check: inTag, checkNameOf, checkValueOf.
-/
import Derived.Test.YtoifdcipialciaaDoorNames
import Derived.Test.YtoifdcipialciaaDoorTexts
import Derived.Test.YtoifdcipialciaaDoorEv
namespace Go.Proofs.YtoifdcipialciaaDoor
open Go.RowKit

set_option maxHeartbeats 400000 in
theorem inTag_any (k : Int) (n v : ByteArray) (w : World) :
    Calls Tryd.prog 13 #[.agg #[.int .i64 k, .string n, .string v]] w fun e w' => e = .returned (.bool (inTagB k)) ∧ Below w.heap.size w w' := by
  go_enter Tryd.func13, Tryd.ntmps13
  go_wp2
  all_goals
    go_ret
    refine ⟨ret_bool ?_, (Below.refl _ _).alloc (Nat.le_refl _) _⟩
    rw [Bool.eq_iff_iff]
    simp_all [inTagB]

set_option maxHeartbeats 400000 in
theorem checkNameOf_any (k : Int) (n v : ByteArray) (w : World) (hn : n.size ≤ maxLen) :
    Calls Tryd.prog 30 #[.agg #[.int .i64 k, .string n, .string v]] w fun e w' => e = .returned (.int .i64 (nameOfF ⟨k, n, v⟩)) ∧ Below w.heap.size w w' := by
  cases hk : inTagB k
  · by_cases hz : n.size = 0
    · have HF : Hid (nameOfF ⟨k, n, v⟩ = 0) := by show nameOfF ⟨k, n, v⟩ = 0; simp [nameOfF, hk, hz]
      have he := empty_of_size hz
      clear hz
      go_enter Tryd.func30, Tryd.ntmps30
      go_wp2_with (first | (go_at_call 13; refine (inTag_any _ _ _ _).mono ?_; rintro e w1 ⟨rfl, hb⟩; obtain ⟨hc, hf⟩ := bcell hb))
      go_ret
      exact ⟨ret_int HF.out.symm, ((Below.refl _ _).alloc (Nat.le_refl _) _).trans (hb.mono (by simp))⟩
    · have HF : Hid (nameOfF ⟨k, n, v⟩ = 4) := by show nameOfF ⟨k, n, v⟩ = 4; simp [nameOfF, hk, hz]
      have he := nonempty_of_size hz
      clear hz
      go_enter Tryd.func30, Tryd.ntmps30
      go_wp2_with (first | (go_at_call 13; refine (inTag_any _ _ _ _).mono ?_; rintro e w1 ⟨rfl, hb⟩; obtain ⟨hc, hf⟩ := bcell hb))
      go_ret
      exact ⟨ret_int HF.out.symm, ((Below.refl _ _).alloc (Nat.le_refl _) _).trans (hb.mono (by simp))⟩
  · have HF : Hid (nameOfF ⟨k, n, v⟩ = nameF n) := by show nameOfF ⟨k, n, v⟩ = _; simp [nameOfF, hk]
    go_enter Tryd.func30, Tryd.ntmps30
    go_wp2_with (first | (go_at_call 13; refine (inTag_any _ _ _ _).mono ?_; rintro e w1 ⟨rfl, hb⟩; obtain ⟨hc, hf⟩ := bcell hb) | (go_at_call 42; refine (checkName_any _ _ hn).mono ?_; rintro e w2 ⟨rfl, rfl⟩))
    go_ret
    exact ⟨ret_int HF.out.symm, ((Below.refl _ _).alloc (Nat.le_refl _) _).trans (hb.mono (by simp))⟩

theorem startEnd_yes {k : Int} (h : startEnd k = true) : ((k == 1) = true ∧ (k != 1) = false) ∨ ((k == 1) = false ∧ (k != 1) = true ∧ (k == 5) = true ∧ (k != 5) = false) := by
  rcases of_decide_eq_true h with rfl | rfl
  · exact .inl (by decide)
  · exact .inr (by decide)
theorem startEnd_no {k : Int} (h : startEnd k = false) : (k == 1) = false ∧ (k != 1) = true ∧ (k == 5) = false ∧ (k != 5) = true := by
  have := of_decide_eq_false h
  refine ⟨?_, ?_, ?_, ?_⟩ <;> simp <;> omega

set_option maxHeartbeats 400000 in
theorem checkValueOf_any (k : Int) (n v : ByteArray) (w : World) (hv : v.size ≤ maxLen) (hT : Tabs w) :
    Calls Tryd.prog 31 #[.agg #[.int .i64 k, .string n, .string v]] w fun e w' => e = .returned (.int .i64 (valueOfF ⟨k, n, v⟩)) ∧ Below w.heap.size w w' := by
  have CT : Hid (∀ o, Calls Tryd.prog 43 #[.string v] (w.alloc o) fun e w' => e = .returned (.int .i64 (textF v)) ∧ Below (w.alloc o).heap.size (w.alloc o) w') :=
    fun o => checkText_any v _ hv (Utf8Tabs_below hT ((Below.refl _ _).alloc (Nat.le_refl _) _))
  clear hT
  cases hk : startEnd k
  · have HF : Hid (valueOfF ⟨k, n, v⟩ = textF v) := by show valueOfF ⟨k, n, v⟩ = _; simp [valueOfF, hk]
    obtain ⟨c1, c2, c3, c4⟩ := startEnd_no hk
    go_enter Tryd.func31, Tryd.ntmps31
    go_wp2_with (first | (go_at_call 43; refine (CT.out _).mono ?_; rintro e w1 ⟨rfl, hb⟩))
    go_ret
    exact ⟨ret_int HF.out.symm, ((Below.refl _ _).alloc (Nat.le_refl _) _).trans (hb.mono (by simp))⟩
  · by_cases hz : v.size = 0
    · have HF : Hid (valueOfF ⟨k, n, v⟩ = 0) := by show valueOfF ⟨k, n, v⟩ = 0; simp [valueOfF, hk, hz]
      have he := empty_of_size hz
      clear hz
      rcases startEnd_yes hk with ⟨c1, c2⟩ | ⟨c1, c2, c3, c4⟩
      all_goals
        go_enter Tryd.func31, Tryd.ntmps31
        go_wp2
        go_ret
        exact ⟨ret_int HF.out.symm, (Below.refl _ _).alloc (Nat.le_refl _) _⟩
    · have HF : Hid (valueOfF ⟨k, n, v⟩ = 4) := by show valueOfF ⟨k, n, v⟩ = 4; simp [valueOfF, hk, hz]
      have he := nonempty_of_size hz
      clear hz
      rcases startEnd_yes hk with ⟨c1, c2⟩ | ⟨c1, c2, c3, c4⟩
      all_goals
        go_enter Tryd.func31, Tryd.ntmps31
        go_wp2
        go_ret
        exact ⟨ret_int HF.out.symm, (Below.refl _ _).alloc (Nat.le_refl _) _⟩

end Go.Proofs.YtoifdcipialciaaDoor
