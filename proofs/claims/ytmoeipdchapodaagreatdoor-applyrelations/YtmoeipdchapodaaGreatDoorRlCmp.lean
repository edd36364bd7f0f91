/-
  CONTRACTS: items compared (rel.Compare, and the document's answers lessItem, ComparedOf).
-/
import Derived.Test.YtmoeipdchapodaaGreatDoorRows
import Derived.Test.YtmoeipdchapodaaGreatDoorShelf
import Derived.WalkKit
import Derived.WalkSpells
import Derived.WalkLawsBesides
import Derived.Outline
set_option linter.unusedVariables false
namespace Go.Proofs.YtmoeipdchapodaaGreatDoor
open Go.RowKit

theorem ret_boolC {a b : Bool} (h : a = b) : Ending.returned (.bool a) = .returned (.bool b) := by rw [h]
theorem ret_intC {k : IntKind} {a b : Int} (h : a = b) : Ending.returned (.int k a) = .returned (.int k b) := by rw [h]
/-- how two items stand -/
def cmpI (k n : Int) (s : ByteArray) (k' n' : Int) (s' : ByteArray) : Int :=
  if k < k' then -1 else if k' < k then 1 else if n < n' then -1 else if n' < n then 1 else Lib.compareBytes s.data.toList s'.data.toList
theorem compare_less : ∀ a b : List UInt8, Lib.compareBytes a b = if Op.bytesLess a b = true then -1 else if Op.bytesLess b a = true then 1 else 0
  | [], [] => rfl
  | [], _ :: _ => rfl
  | _ :: _, [] => rfl
  | a :: xs, b :: ys => by
    have ih := compare_less xs ys
    unfold Lib.compareBytes Op.bytesLess
    by_cases h1 : a < b
    · simp [h1]
    · by_cases h2 : b < a
      · have hne : a ≠ b := fun h => by subst h; exact h1 h2
        simp [h1, h2, hne]
      · have he : a = b := UInt8.le_antisymm (UInt8.not_lt.1 h2) (UInt8.not_lt.1 h1)
        subst he
        simp [h1, ih]
/-- is one ahead? -/
def lessI (k n : Int) (s : ByteArray) (k' n' : Int) (s' : ByteArray) : Bool :=
  if k = k' then (if n = n' then Op.bytesLess s.toList s'.toList else decide (n < n')) else decide (k < k')
theorem cmp_less (k n : Int) (s : ByteArray) (k' n' : Int) (s' : ByteArray) :
    cmpI k n s k' n' s' = if lessI k n s k' n' s' = true then -1 else if lessI k' n' s' k n s = true then 1 else 0 := by
  unfold cmpI lessI
  by_cases hk : k = k'
  · subst hk
    rw [if_neg (by omega), if_neg (by omega), if_pos rfl, if_pos rfl]
    by_cases hn : n = n'
    · subst hn
      rw [if_neg (by omega), if_neg (by omega), if_pos rfl, if_pos rfl, compare_less, ByteArray.toList_eq, ByteArray.toList_eq]
    · rw [if_neg hn, if_neg (show ¬ n' = n from fun h => hn h.symm)]
      by_cases h1 : n < n'
      · rw [if_pos h1, if_pos (by simpa using h1)]
      · have h2 : n' < n := by omega
        rw [if_neg h1, if_pos h2, if_neg (by simpa using (by omega : n' ≤ n)), if_pos (by simpa using h2)]
  · rw [if_neg hk, if_neg (show ¬ k' = k from fun h => hk h.symm)]
    by_cases h1 : k < k'
    · rw [if_pos h1, if_pos (by simpa using h1)]
    · have h2 : k' < k := by omega
      rw [if_neg h1, if_pos h2, if_neg (by simpa using (by omega : k' ≤ k)), if_pos (by simpa using h2)]
theorem cmp_range (k n : Int) (s : ByteArray) (k' n' : Int) (s' : ByteArray) : -1 ≤ cmpI k n s k' n' s' ∧ cmpI k n s k' n' s' ≤ 1 := by
  rw [cmp_less]
  split
  · omega
  · split <;> omega
theorem compareInt_eq {x y : Int} (h : x = y) : Lib.compareInt x y = 0 := by unfold Lib.compareInt; rw [if_neg (by omega), if_neg (by omega)]
theorem compareInt_lt {x y : Int} (h : x < y) : Lib.compareInt x y = -1 := by unfold Lib.compareInt; rw [if_pos h]
theorem compareInt_gt {x y : Int} (h : y < x) : Lib.compareInt x y = 1 := by unfold Lib.compareInt; rw [if_neg (by omega), if_pos h]

set_option maxHeartbeats 800000 in
theorem compare_any (k n : Int) (s : ByteArray) (k' n' : Int) (s' : ByteArray) (w : World) :
    Calls Tryz.prog 104 #[.agg #[.int .i64 k, .int .i64 n, .string s], .agg #[.int .i64 k', .int .i64 n', .string s']] w fun e w' => e = .returned (.int .i64 (cmpI k n s k' n' s')) ∧ Below w.heap.size w w' := by
  have C1 : Hid (∀ W, Calls Tryz.prog 142 #[.int .i64 k, .int .i64 k'] W fun e w' => e = .returned (.int .i64 (Lib.compareInt k k')) ∧ w' = W) := fun W => Tryz.cmp_Compare_int k k' W
  have C2 : Hid (∀ W, Calls Tryz.prog 142 #[.int .i64 n, .int .i64 n'] W fun e w' => e = .returned (.int .i64 (Lib.compareInt n n')) ∧ w' = W) := fun W => Tryz.cmp_Compare_int n n' W
  have C3 : Hid (∀ W, Calls Tryz.prog 143 #[.string s, .string s'] W fun e w' => e = .returned (.int .i64 (Lib.compareBytes s.data.toList s'.data.toList)) ∧ w' = W) := fun W => Tryz.strings_Compare s s' W
  have HB : Hid (∀ o o', Below w.heap.size w ((w.alloc o).alloc o')) := fun o o' => ((Below.refl _ _).alloc (Nat.le_refl _) _).alloc (by simp) _
  rcases Int.lt_trichotomy k k' with hk | hk | hk
  · have HR : Hid (cmpI k n s k' n' s' = -1) := if_pos hk
    rw [compareInt_lt hk] at C1
    clear hk
    generalize cmpI k n s k' n' s' = R at *
    go_enter Tryz.func104, Tryz.ntmps104
    go_wp2_with (first | (go_at_call 142; refine (C1.out _).mono ?_; rintro e w1 ⟨rfl, rfl⟩))
    go_ret
    exact ⟨ret_intC HR.out.symm, HB.out _ _⟩
  · subst hk
    rw [compareInt_eq rfl] at C1
    rcases Int.lt_trichotomy n n' with hn | hn | hn
    · have HR : Hid (cmpI k n s k n' s' = -1) := by
        have h : cmpI k n s k n' s' = -1 := by unfold cmpI; rw [if_neg (by omega), if_neg (by omega), if_pos hn]
        exact h
      rw [compareInt_lt hn] at C2
      clear hn
      generalize cmpI k n s k n' s' = R at *
      go_enter Tryz.func104, Tryz.ntmps104
      go_wp2_with (first | (go_at_call 142; refine (C1.out _).mono ?_; rintro e w1 ⟨rfl, rfl⟩; clear C1) | (go_at_call 142; refine (C2.out _).mono ?_; rintro e w1 ⟨rfl, rfl⟩))
      go_ret
      exact ⟨ret_intC HR.out.symm, HB.out _ _⟩
    · subst hn
      have HR : Hid (cmpI k n s k n s' = Lib.compareBytes s.data.toList s'.data.toList) := by
        have h : cmpI k n s k n s' = Lib.compareBytes s.data.toList s'.data.toList := by unfold cmpI; rw [if_neg (by omega), if_neg (by omega), if_neg (by omega), if_neg (by omega)]
        exact h
      rw [compareInt_eq rfl] at C2
      generalize cmpI k n s k n s' = R at *
      go_enter Tryz.func104, Tryz.ntmps104
      go_wp2_with (first | (go_at_call 142; refine (C1.out _).mono ?_; rintro e w1 ⟨rfl, rfl⟩; clear C1) | (go_at_call 142; refine (C2.out _).mono ?_; rintro e w1 ⟨rfl, rfl⟩) | (go_at_call 143; refine (C3.out _).mono ?_; rintro e w1 ⟨rfl, rfl⟩))
      go_ret
      exact ⟨ret_intC HR.out.symm, HB.out _ _⟩
    · have HR : Hid (cmpI k n s k n' s' = 1) := by
        have h : cmpI k n s k n' s' = 1 := by unfold cmpI; rw [if_neg (by omega), if_neg (by omega), if_neg (by omega), if_pos hn]
        exact h
      rw [compareInt_gt hn] at C2
      clear hn
      generalize cmpI k n s k n' s' = R at *
      go_enter Tryz.func104, Tryz.ntmps104
      go_wp2_with (first | (go_at_call 142; refine (C1.out _).mono ?_; rintro e w1 ⟨rfl, rfl⟩; clear C1) | (go_at_call 142; refine (C2.out _).mono ?_; rintro e w1 ⟨rfl, rfl⟩))
      go_ret
      exact ⟨ret_intC HR.out.symm, HB.out _ _⟩
  · have HR : Hid (cmpI k n s k' n' s' = 1) := by
      have h : cmpI k n s k' n' s' = 1 := by unfold cmpI; rw [if_neg (by omega), if_pos hk]
      exact h
    rw [compareInt_gt hk] at C1
    clear hk
    generalize cmpI k n s k' n' s' = R at *
    go_enter Tryz.func104, Tryz.ntmps104
    go_wp2_with (first | (go_at_call 142; refine (C1.out _).mono ?_; rintro e w1 ⟨rfl, rfl⟩))
    go_ret
    exact ⟨ret_intC HR.out.symm, HB.out _ _⟩

end Go.Proofs.YtmoeipdchapodaaGreatDoor
