/-
  CONTRACTS: what may stand in a name (xml.isNameByte, xml.CheckName, and the document's answer to both): each returns what the plain function says; the world is as it was.
-/
import Derived.Test.YtnfljohddpadhaaDoorRows
import Derived.Test.YtnfljohddpadhaaDoorPlain
import Derived.WalkKit
import Derived.WalkSpells
import Derived.WalkLawsBesides
import Derived.Outline
namespace Go.Proofs.YtnfljohddpadhaaDoor
open Go.RowKit

set_option maxHeartbeats 400000 in
theorem isName_any (c : Int) (f : Bool) (w : World) :
    Calls Tryd.prog 79 #[.int .u8 c, .bool f] w fun e w' => e = .returned (.bool (nb c f)) ∧ w' = w := by
  cases f
  all_goals
    go_enter Tryd.func79, Tryd.ntmps79
    go_wp2
    all_goals
      go_ret
      refine ⟨ret_bool ?_, rfl⟩
      rw [Bool.eq_iff_iff]
      simp_all [nb]
      try omega

set_option maxHeartbeats 400000 in
theorem nameByte_any (c : Int) (f : Bool) (w : World) :
    Calls Tryd.prog 60 #[.int .u8 c, .bool f] w fun e w' => e = .returned (.bool (nb c f)) ∧ w' = w := by
  cases f
  all_goals
    go_enter Tryd.func60, Tryd.ntmps60
    go_wp2
    all_goals
      go_ret
      refine ⟨ret_bool ?_, rfl⟩
      rw [Bool.eq_iff_iff]
      simp_all [nb]
      try omega

set_option maxHeartbeats 400000 in
theorem in_any (n l h : Int) (w : World) :
    Calls Tryd.prog 12 #[.int .i64 n, .int .i64 l, .int .i64 h] w fun e w' => e = .returned (.bool (inB n l h)) ∧ w' = w := by
  go_enter Tryd.func12, Tryd.ntmps12
  go_wp2
  all_goals
    go_ret
    refine ⟨ret_bool ?_, rfl⟩
    rw [Bool.eq_iff_iff]
    simp_all [inB]
    try omega

set_option maxHeartbeats 800000 in
theorem checkName_any (s : ByteArray) (w : World) (hs : s.size ≤ maxLen) :
    Calls Tryd.prog 62 #[.string s] w fun e w' => e = .returned (.int .i64 (nameF s)) ∧ w' = w := by
  unfold maxLen at hs
  by_cases h1 : s.size < 1 ∨ 20 < s.size
  · have H' : Hid (nameF s = 1) := nameF_size h1
    go_enter Tryd.func62, Tryd.ntmps62
    go_wp2
    all_goals
      go_ret
      exact ⟨ret_int H'.out.symm, rfl⟩
  · have hlo : 1 ≤ s.size := by omega
    have hhi : s.size ≤ 20 := by omega
    have H1 : Hid (¬ (s.size < 1 ∨ 20 < s.size)) := h1
    clear h1 hs
    go_enter Tryd.func62, Tryd.ntmps62
    go_wp2
    go_loop [14] (fun i => ∃ k : Nat, k ≤ s.size ∧ i = .int .i64 k ∧ nameTo s k = true) (fun i => s.size - (intOf i).toNat)
    case atStart => exact ⟨0, Nat.zero_le _, rfl, rfl⟩
    case round =>
      obtain ⟨k, hk, rfl, hok⟩ := hrel
      have HO : Hid (nameTo s k = true) := hok
      clear hok
      by_cases hlt : k < s.size
      · have hbe := byteAt_eq s k hlt
        cases hn : nb (s[k].toNat : Int) ((k : Int) == 0)
        · have HB : Hid (nb (byteAt s k) ((k : Int) == 0) = false) := hbe ▸ hn
          clear hbe
          go_wp2_with (go_at_call 79; refine (isName_any _ _ _).mono ?_; rintro e w' ⟨rfl, rfl⟩)
          go_ret
          exact ⟨ret_int (nameF_no H1.out hlt HB.out).symm, rfl⟩
        · have HB : Hid (nb (byteAt s k) ((k : Int) == 0) = true) := hbe ▸ hn
          clear hbe
          go_wp2_with (go_at_call 79; refine (isName_any _ _ _).mono ?_; rintro e w' ⟨rfl, rfl⟩)
          go_round
          case rel => exact ⟨k + 1, by omega, by go_num, by rw [nameTo_succ, HO.out, HB.out]; rfl⟩
          case measure => simp [intOf]; omega
      · go_wp2
        go_ret
        have e : k = s.size := by omega
        exact ⟨ret_int (nameF_ok H1.out (e ▸ HO.out)).symm, rfl⟩

set_option maxHeartbeats 800000 in
theorem nameFault_any (s : ByteArray) (w : World) (hs : s.size ≤ maxLen) :
    Calls Tryd.prog 43 #[.string s] w fun e w' => e = .returned (.int .i64 (nameF s)) ∧ w' = w := by
  unfold maxLen at hs
  by_cases h1 : s.size < 1 ∨ 20 < s.size
  · have H' : Hid (nameF s = 1) := nameF_size h1
    have hi : inB (s.size : Int) 1 20 = false := by simp [inB]; omega
    clear h1
    go_enter Tryd.func43, Tryd.ntmps43
    go_wp2_with (go_at_call 12; refine (in_any _ _ _ _).mono ?_; rintro e w' ⟨rfl, rfl⟩)
    all_goals
      go_ret
      exact ⟨ret_int H'.out.symm, rfl⟩
  · have hlo : 1 ≤ s.size := by omega
    have hhi : s.size ≤ 20 := by omega
    have hi : inB (s.size : Int) 1 20 = true := by simp [inB]; omega
    have H1 : Hid (¬ (s.size < 1 ∨ 20 < s.size)) := h1
    clear h1 hs
    go_enter Tryd.func43, Tryd.ntmps43
    go_wp2_with (go_at_call 12; refine (in_any _ _ _ _).mono ?_; rintro e w' ⟨rfl, rfl⟩)
    go_loop [3] (fun i => ∃ k : Nat, k ≤ s.size ∧ i = .int .i64 k ∧ nameTo s k = true) (fun i => s.size - (intOf i).toNat)
    case atStart => exact ⟨0, Nat.zero_le _, rfl, rfl⟩
    case round =>
      obtain ⟨k, hk, rfl, hok⟩ := hrel
      have HO : Hid (nameTo s k = true) := hok
      clear hok
      by_cases hlt : k < s.size
      · have hbe := byteAt_eq s k hlt
        cases hn : nb (s[k].toNat : Int) ((k : Int) == 0)
        · have HB : Hid (nb (byteAt s k) ((k : Int) == 0) = false) := hbe ▸ hn
          clear hbe
          go_wp2_with (go_at_call 60; refine (nameByte_any _ _ _).mono ?_; rintro e w' ⟨rfl, rfl⟩)
          go_ret
          exact ⟨ret_int (nameF_no H1.out hlt HB.out).symm, rfl⟩
        · have HB : Hid (nb (byteAt s k) ((k : Int) == 0) = true) := hbe ▸ hn
          clear hbe
          go_wp2_with (go_at_call 60; refine (nameByte_any _ _ _).mono ?_; rintro e w' ⟨rfl, rfl⟩)
          go_round
          case rel => exact ⟨k + 1, by omega, by go_num, by rw [nameTo_succ, HO.out, HB.out]; rfl⟩
          case measure => simp [intOf]; omega
      · go_wp2
        go_ret
        have e : k = s.size := by omega
        exact ⟨ret_int (nameF_ok H1.out (e ▸ HO.out)).symm, rfl⟩
end Go.Proofs.YtnfljohddpadhaaDoor
