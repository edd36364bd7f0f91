/-
  CONTRACTS: words of a query (read.isLetter, isDigit, isWordByte, wordBytes, isName, and the document's answers): each returns what the plain function says; the world is as it was.
-/
import Derived.Test.YtcppodmgeonabaaDoorRows
import Derived.Test.YtcppodmgeonabaaDoorTkPlain
import Derived.Test.YtcppodmgeonabaaDoorNames
import Derived.WalkKit
import Derived.WalkSpells
import Derived.WalkLawsBesides
import Derived.Outline
namespace Go.Proofs.YtcppodmgeonabaaDoor
open Go.RowKit

set_option maxHeartbeats 400000 in
theorem isLetter_any (c : Int) (w : World) :
    Calls Tryd.prog 27 #[.int .u8 c] w fun e w' => e = .returned (.bool (lett c)) ∧ w' = w := by
  go_enter Tryd.func27, Tryd.ntmps27
  go_wp2
  all_goals
    go_ret
    refine ⟨ret_bool ?_, rfl⟩
    rw [Bool.eq_iff_iff]
    simp_all [lett]
    try omega

set_option maxHeartbeats 400000 in
theorem isDigit_any (c : Int) (w : World) :
    Calls Tryd.prog 29 #[.int .u8 c] w fun e w' => e = .returned (.bool (dgt c)) ∧ w' = w := by
  go_enter Tryd.func29, Tryd.ntmps29
  go_wp2
  all_goals
    go_ret
    refine ⟨ret_bool ?_, rfl⟩
    rw [Bool.eq_iff_iff]
    simp_all [dgt]
    try omega

set_option maxHeartbeats 400000 in
theorem isWordByte_any (c : Int) (f : Bool) (w : World) :
    Calls Tryd.prog 45 #[.int .u8 c, .bool f] w fun e w' => e = .returned (.bool (wb c f)) ∧ w' = w := by
  have hw : wb c f = (lett c || (!f && (dgt c || decide (c = 45)))) := rfl
  have HW : Hid (wb c f = (lett c || (!f && (dgt c || decide (c = 45))))) := hw
  clear hw
  cases f <;> cases hl : lett c <;> cases hd : dgt c
  all_goals
    go_enter Tryd.func45, Tryd.ntmps45
    go_wp2_with (first
      | (go_at_call 27; refine (isLetter_any _ _).mono ?_; rintro e w' ⟨rfl, rfl⟩)
      | (go_at_call 29; refine (isDigit_any _ _).mono ?_; rintro e w' ⟨rfl, rfl⟩))
    all_goals
      go_ret
      refine ⟨ret_bool ?_, rfl⟩
      rw [HW.out]
      simp_all
      try rfl

set_option maxHeartbeats 400000 in
theorem wordByte_any (c : Int) (f : Bool) (w : World) :
    Calls Tryd.prog 19 #[.int .u8 c, .bool f] w fun e w' => e = .returned (.bool (wb c f)) ∧ w' = w := by
  have HW : Hid ((decide (c ≠ 46) && nb c f) = wb c f) := wb_nb c f
  by_cases hc : c = 46
  all_goals
    go_enter Tryd.func19, Tryd.ntmps19
    go_wp2_with (go_at_call 32; refine (nameByte_any _ _ _).mono ?_; rintro e w' ⟨rfl, rfl⟩)
    all_goals
      go_ret
      refine ⟨ret_bool ?_, rfl⟩
      rw [← HW.out]
      simp_all

set_option maxHeartbeats 800000 in
theorem wordBytes_any (s : ByteArray) (w : World) (hs : s.size ≤ maxLen) :
    Calls Tryd.prog 35 #[.string s] w fun e w' => e = .returned (.int .i64 (wl s.data.toList true)) ∧ w' = w := by
  unfold maxLen at hs
  have hle : wl s.data.toList true ≤ s.size := wl_le _ _
  go_enter Tryd.func35, Tryd.ntmps35
  go_wp2
  go_loop [3] (fun i => ∃ k : Nat, k ≤ wl s.data.toList true ∧ i = .int .i64 k) (fun i => s.size - (intOf i).toNat)
  case atStart => exact ⟨0, Nat.zero_le _, rfl⟩
  case round =>
    obtain ⟨k, hk, rfl⟩ := hrel
    by_cases hlt : k < wl s.data.toList true
    · have hks : k < s.size := by omega
      have hb0 : wb (byteAt s k) (decide (k = 0)) = true := by have := wl_lt s.data.toList true k hlt; simpa [byteAt_bAt] using this
      have hb : wb (s[k].toNat : Int) ((k : Int) == 0) = true := by
        rw [byteAt_eq s k hks]
        have e : ((k : Int) == 0) = decide (k = 0) := by rw [Bool.eq_iff_iff]; simp
        rw [e]; exact hb0
      clear hb0
      go_wp2_with (go_at_call 45; refine (isWordByte_any _ _ _).mono ?_; rintro e w' ⟨rfl, rfl⟩)
      go_round
      case rel => exact ⟨k + 1, by omega, by go_num⟩
      case measure => simp [intOf]; omega
    · have e : k = wl s.data.toList true := by omega
      have E : Hid (k = wl s.data.toList true) := e
      by_cases hks : k < s.size
      · have hb0 : wb (byteAt s k) (decide (k = 0)) = false := by
          have := wl_eq s.data.toList true (by rw [← e]; exact hks)
          rw [← e] at this; simpa [byteAt_bAt] using this
        have hb : wb (s[k].toNat : Int) ((k : Int) == 0) = false := by
          rw [byteAt_eq s k hks]
          have e : ((k : Int) == 0) = decide (k = 0) := by rw [Bool.eq_iff_iff]; simp
          rw [e]; exact hb0
        clear hb0 hlt hk e hle
        go_wp2_with (go_at_call 45; refine (isWordByte_any _ _ _).mono ?_; rintro e w' ⟨rfl, rfl⟩)
        go_ret
        exact ⟨ret_int (by rw [E.out]), rfl⟩
      · clear hlt hk e hle
        go_wp2
        go_ret
        exact ⟨ret_int (by rw [E.out]), rfl⟩

set_option maxHeartbeats 800000 in
theorem wordTo_any (s : ByteArray) (a : Nat) (w : World) (hs : s.size ≤ maxLen) (ha : a ≤ s.size) :
    Calls Tryd.prog 16 #[.string s, .int .i64 a] w fun e w' => e = .returned (.int .i64 ((a + wl (s.data.toList.drop a) true : Nat) : Int)) ∧ w' = w := by
  unfold maxLen at hs
  have hle : wl (s.data.toList.drop a) true ≤ s.size - a := by
    have := wl_le (s.data.toList.drop a) true
    rw [List.length_drop] at this; exact this
  generalize hL : wl (s.data.toList.drop a) true = L at hle
  have HL : Hid (wl (s.data.toList.drop a) true = L) := hL
  clear hL
  go_enter Tryd.func16, Tryd.ntmps16
  go_wp2
  go_loop [5] (fun i => ∃ k : Nat, k ≤ L ∧ i = .int .i64 ((a + k : Nat) : Int)) (fun i => s.size - (intOf i).toNat)
  case atStart => exact ⟨0, Nat.zero_le _, rfl⟩
  case round =>
    obtain ⟨k, hk, rfl⟩ := hrel
    obtain ⟨i, hi⟩ : ∃ i, i = a + k := ⟨_, rfl⟩
    have HI : Hid (i = a + k) := hi
    rw [← hi]
    have hdec : ((i : Int) == (a : Int)) = decide (k = 0) := by rw [Bool.eq_iff_iff]; simp; omega
    by_cases hlt : k < L
    · have his : i < s.size := by omega
      have hb : wb (s[i].toNat : Int) ((i : Int) == (a : Int)) = true := by
        rw [byteAt_eq s i his, hdec]
        have := wl_lt (s.data.toList.drop a) true k (by rw [HL.out]; exact hlt)
        rw [bAt_drop, ← hi] at this
        simpa [byteAt_bAt] using this
      clear hdec hi
      go_wp2_with (go_at_call 19; refine (wordByte_any _ _ _).mono ?_; rintro e w' ⟨rfl, rfl⟩)
      go_round
      case rel => exact ⟨k + 1, by omega, by rw [HI.out]; go_num⟩
      case measure => simp [intOf]; omega
    · have e : k = L := by omega
      have HE : Hid (i = a + L) := by show i = a + L; omega
      by_cases his : i < s.size
      · have hb : wb (s[i].toNat : Int) ((i : Int) == (a : Int)) = false := by
          rw [byteAt_eq s i his, hdec]
          have := wl_eq (s.data.toList.drop a) true (by rw [HL.out, List.length_drop]; show L < s.size - a; omega)
          rw [HL.out, bAt_drop, ← e, ← hi] at this
          simpa [byteAt_bAt] using this
        clear hdec hi hlt hk e hle
        go_wp2_with (go_at_call 19; refine (wordByte_any _ _ _).mono ?_; rintro e w' ⟨rfl, rfl⟩)
        go_ret
        exact ⟨ret_int (by have := HE.out; omega), rfl⟩
      · clear hdec hi hlt hk e hle
        go_wp2
        go_ret
        exact ⟨ret_int (by have := HE.out; omega), rfl⟩

set_option maxHeartbeats 400000 in
theorem isName_any2 (s : ByteArray) (w : World) (hs : s.size ≤ maxLen) :
    Calls Tryd.prog 24 #[.string s] w fun e w' => e = .returned (.bool (nmB s)) ∧ w' = w := by
  have C : Hid (∀ W, Calls Tryd.prog 35 #[.string s] W fun e w' => e = .returned (.int .i64 (wl s.data.toList true)) ∧ w' = W) := fun W => wordBytes_any s W hs
  unfold maxLen at hs
  have HN : Hid (nmB s = (decide (1 ≤ s.size ∧ s.size ≤ 20) && decide (wl s.data.toList true = s.size))) := rfl
  generalize wl s.data.toList true = L at *
  by_cases h1 : 1 ≤ s.size
  all_goals by_cases h2 : s.size ≤ 20
  all_goals by_cases h3 : L = s.size
  all_goals
    go_enter Tryd.func24, Tryd.ntmps24
    go_wp2_with (go_at_call 35; refine (C.out _).mono ?_; rintro e w' ⟨rfl, rfl⟩)
    all_goals
      go_ret
      refine ⟨ret_bool ?_, rfl⟩
      rw [HN.out]
      rw [Bool.eq_iff_iff]
      simp
      try omega
end Go.Proofs.YtcppodmgeonabaaDoor
