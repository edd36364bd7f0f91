/-
  CONTRACT of pleacherkeep.itoa.
-/
import Derived.Test.YtbpggpnmbfjadaaDoorPoBack
import Derived.Test.YtbpggpnmbfjadaaDoorPkPick
import Derived.WalkLawsBesides
import Derived.Laws.Concat
set_option linter.unusedVariables false
namespace Go.Proofs.YtbpggpnmbfjadaaDoor
set_option maxRecDepth 100000
open Go.RowKit

theorem dig_enc {d : Nat} (h : d < 10) : Utf8.encode (48 + (d : Int)) = ⟨#[UInt8.ofNat (48 + d)]⟩ := by
  have e : d = 0 ∨ d = 1 ∨ d = 2 ∨ d = 3 ∨ d = 4 ∨ d = 5 ∨ d = 6 ∨ d = 7 ∨ d = 8 ∨ d = 9 := by omega
  rcases e with rfl | rfl | rfl | rfl | rfl | rfl | rfl | rfl | rfl | rfl <;> rfl
theorem itoa_len : ∀ k n : Nat, n < 10 ^ k → 1 ≤ k → (itoaL n).length ≤ k
  | 0, n, _, h => by omega
  | k + 1, n, hn, _ => by
    by_cases h : n < 10
    · rw [itoaL_lt h]; simp
    · rw [itoaL_ge h, List.length_append, List.length_singleton]
      rcases Nat.eq_zero_or_pos k with rfl | hk
      · simp at hn; omega
      · have := itoa_len k (n / 10) (by rw [Nat.pow_succ] at hn; omega) hk
        omega
theorem itoa_small {n : Nat} (h : n ≤ 1099511627776) : (itoaL n).length ≤ 13 := itoa_len 13 n (by omega) (by omega)
theorem bs_snoc (l : List UInt8) (c : UInt8) : (⟨l.toArray⟩ ++ ⟨#[c]⟩ : ByteArray) = ⟨(l ++ [c]).toArray⟩ := by
  have : ∀ a b : ByteArray, a.data.toList = b.data.toList → a = b := fun a b h => by
    cases a; cases b
    simpa using h
  refine this _ _ ?_
  rw [ByteArray.data_append, Array.toList_append]
set_option maxHeartbeats 1600000 in
theorem itoa_is (w : World) : ∀ n : Nat, n ≤ 1099511627776 → Calls Tryd.prog 15 #[.int .i64 n] w fun e w' => e = .returned (.string ⟨(itoaL n).toArray⟩) ∧ w' = w := by
  intro n
  induction n using Nat.strongRecOn with
  | ind n ih =>
    intro hn
    by_cases h : n < 10
    · have hi : (n : Int) < 10 := by omega
      have hw1 : IntKind.i64.wrap (48 + (n : Int)) = 48 + (n : Int) := IntWalk.i64_in _ (by omega)
      have HE : Hid (Utf8.encode (48 + (n : Int)) = ⟨(itoaL n).toArray⟩) := by show _ = _; rw [dig_enc h, itoaL_lt h]
      clear ih
      go_enter Tryd.func15, Tryd.ntmps15
      go_wp2
      go_ret
      exact ⟨by rw [← HE.out]; rfl, rfl⟩
    · have hi : ¬ (n : Int) < 10 := by omega
      obtain ⟨m, hm⟩ : ∃ m : Nat, m = n / 10 := ⟨_, rfl⟩
      obtain ⟨d, hd⟩ : ∃ d : Nat, d = n % 10 := ⟨_, rfl⟩
      have hd10 : d < 10 := by omega
      have hq : Int.tdiv (n : Int) 10 = (m : Int) := by rw [Int.tdiv_eq_ediv_of_nonneg (by omega)]; omega
      have hr : Int.tmod (n : Int) 10 = (d : Int) := by rw [Int.tmod_eq_emod_of_nonneg (by omega)]; omega
      have hwm : IntKind.i64.wrap (m : Int) = (m : Int) := IntWalk.i64_in _ (by omega)
      have hw1 : IntKind.i64.wrap (48 + (d : Int)) = 48 + (d : Int) := IntWalk.i64_in _ (by omega)
      have C : Hid (Calls Tryd.prog 15 #[.int .i64 m] w fun e w' => e = .returned (.string ⟨(itoaL m).toArray⟩) ∧ w' = w) := ih m (by omega) (by omega)
      have hl : (itoaL m).length ≤ 13 := itoa_small (by omega)
      have HE : Hid ((⟨(itoaL m).toArray⟩ ++ Utf8.encode (48 + (d : Int)) : ByteArray) = ⟨(itoaL n).toArray⟩) := by show _ = _; rw [dig_enc hd10, bs_snoc, itoaL_ge h, hm, hd]
      have hz2 : (Utf8.encode (48 + (d : Int))).size = 1 := by rw [dig_enc hd10]; rfl
      obtain ⟨x, hx⟩ : ∃ x : ByteArray, x = ⟨(itoaL m).toArray⟩ := ⟨_, rfl⟩
      have hz1 : x.size ≤ 13 := by rw [hx]; exact hl
      rw [← hx] at C HE
      clear ih hm hd hx hl
      go_enter Tryd.func15, Tryd.ntmps15
      go_wp2_with (first | (go_at_call 15; refine C.out.mono ?_; rintro e w1 ⟨rfl, rfl⟩))
      all_goals
        go_ret
        exact ⟨by rw [← HE.out]; rfl, rfl⟩
end Go.Proofs.YtbpggpnmbfjadaaDoor
