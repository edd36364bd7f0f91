/-
  CONTRACTS: words of a query (read.isLetter, isDigit, isWordByte, wordBytes, isName, and the document's answers): each returns what the plain function says; the world is as it was.
-/
import Derived.Test.YteapocgpenokfaaGreatDoorRows
import Derived.Test.YteapocgpenokfaaGreatDoorTkPlain
import Derived.Test.YteapocgpenokfaaGreatDoorNames
import Derived.WalkKit
import Derived.WalkSpells
import Derived.WalkLawsBesides
import Derived.Outline
namespace Go.Proofs.YteapocgpenokfaaGreatDoor
open Go.RowKit

set_option maxHeartbeats 400000 in
theorem isLetter_any (c : Int) (w : World) :
    Calls Tryz.prog 20 #[.int .u8 c] w fun e w' => e = .returned (.bool (lett c)) ∧ w' = w := by
  go_enter Tryz.func20, Tryz.ntmps20
  go_wp2
  all_goals
    go_ret
    refine ⟨ret_bool ?_, rfl⟩
    rw [Bool.eq_iff_iff]
    simp_all [lett]
    try omega

set_option maxHeartbeats 400000 in
theorem isDigit_any (c : Int) (w : World) :
    Calls Tryz.prog 22 #[.int .u8 c] w fun e w' => e = .returned (.bool (dgt c)) ∧ w' = w := by
  go_enter Tryz.func22, Tryz.ntmps22
  go_wp2
  all_goals
    go_ret
    refine ⟨ret_bool ?_, rfl⟩
    rw [Bool.eq_iff_iff]
    simp_all [dgt]
    try omega

set_option maxHeartbeats 400000 in
theorem isWordByte_any (c : Int) (f : Bool) (w : World) :
    Calls Tryz.prog 58 #[.int .u8 c, .bool f] w fun e w' => e = .returned (.bool (wb c f)) ∧ w' = w := by
  have hw : wb c f = (lett c || (!f && (dgt c || decide (c = 45)))) := rfl
  have HW : Hid (wb c f = (lett c || (!f && (dgt c || decide (c = 45))))) := hw
  clear hw
  cases f <;> cases hl : lett c <;> cases hd : dgt c
  all_goals
    go_enter Tryz.func58, Tryz.ntmps58
    go_wp2_with (first
      | (go_at_call 20; refine (isLetter_any _ _).mono ?_; rintro e w' ⟨rfl, rfl⟩)
      | (go_at_call 22; refine (isDigit_any _ _).mono ?_; rintro e w' ⟨rfl, rfl⟩))
    all_goals
      go_ret
      refine ⟨ret_bool ?_, rfl⟩
      rw [HW.out]
      simp_all
      try rfl

set_option maxHeartbeats 800000 in
theorem wordBytes_any (s : ByteArray) (w : World) (hs : s.size ≤ maxLen) :
    Calls Tryz.prog 41 #[.string s] w fun e w' => e = .returned (.int .i64 (wl s.data.toList true)) ∧ w' = w := by
  unfold maxLen at hs
  have hle : wl s.data.toList true ≤ s.size := wl_le _ _
  go_enter Tryz.func41, Tryz.ntmps41
  go_wp2
  go_loop [3] (fun i => ∃ k : Nat, k ≤ wl s.data.toList true ∧ i = .int .i64 k) (fun i => s.size - (intOf i).toNat)
  case atStart => exact ⟨0, Nat.zero_le _, rfl⟩
  case round =>
    obtain ⟨k, hk, rfl⟩ := hrel
    by_cases hlt : k < wl s.data.toList true
    · have hks : k < s.size := by omega
      have hb0 : wb (byteAt s k) (decide (k = 0)) = true := by have := wl_lt s.data.toList true k hlt; simpa [byteAt_bAt] using this
      have hb : wb (s[k].toNat : Int) ((k : Int) == 0) = true := by
        rw [byteAt_eq s k hks]
        have e : ((k : Int) == 0) = decide (k = 0) := by rw [Bool.eq_iff_iff]; simp
        rw [e]; exact hb0
      clear hb0
      go_wp2_with (go_at_call 58; refine (isWordByte_any _ _ _).mono ?_; rintro e w' ⟨rfl, rfl⟩)
      go_round
      case rel => exact ⟨k + 1, by omega, by go_num⟩
      case measure => simp [intOf]; omega
    · have e : k = wl s.data.toList true := by omega
      have E : Hid (k = wl s.data.toList true) := e
      by_cases hks : k < s.size
      · have hb0 : wb (byteAt s k) (decide (k = 0)) = false := by
          have := wl_eq s.data.toList true (by rw [← e]; exact hks)
          rw [← e] at this; simpa [byteAt_bAt] using this
        have hb : wb (s[k].toNat : Int) ((k : Int) == 0) = false := by
          rw [byteAt_eq s k hks]
          have e : ((k : Int) == 0) = decide (k = 0) := by rw [Bool.eq_iff_iff]; simp
          rw [e]; exact hb0
        clear hb0 hlt hk e hle
        go_wp2_with (go_at_call 58; refine (isWordByte_any _ _ _).mono ?_; rintro e w' ⟨rfl, rfl⟩)
        go_ret
        exact ⟨ret_int (by rw [E.out]), rfl⟩
      · clear hlt hk e hle
        go_wp2
        go_ret
        exact ⟨ret_int (by rw [E.out]), rfl⟩

set_option maxHeartbeats 400000 in
theorem isName_any2 (s : ByteArray) (w : World) (hs : s.size ≤ maxLen) :
    Calls Tryz.prog 42 #[.string s] w fun e w' => e = .returned (.bool (nmB s)) ∧ w' = w := by
  have C : Hid (∀ W, Calls Tryz.prog 41 #[.string s] W fun e w' => e = .returned (.int .i64 (wl s.data.toList true)) ∧ w' = W) := fun W => wordBytes_any s W hs
  unfold maxLen at hs
  have HN : Hid (nmB s = (decide (1 ≤ s.size ∧ s.size ≤ 20) && decide (wl s.data.toList true = s.size))) := rfl
  generalize wl s.data.toList true = L at *
  by_cases h1 : 1 ≤ s.size
  all_goals by_cases h2 : s.size ≤ 20
  all_goals by_cases h3 : L = s.size
  all_goals
    go_enter Tryz.func42, Tryz.ntmps42
    go_wp2_with (go_at_call 41; refine (C.out _).mono ?_; rintro e w' ⟨rfl, rfl⟩)
    all_goals
      go_ret
      refine ⟨ret_bool ?_, rfl⟩
      rw [HN.out]
      rw [Bool.eq_iff_iff]
      simp
      try omega
end Go.Proofs.YteapocgpenokfaaGreatDoor
