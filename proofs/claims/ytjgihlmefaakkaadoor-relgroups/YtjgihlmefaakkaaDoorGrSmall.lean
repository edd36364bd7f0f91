/-
  CONTRACTS of rel.isAggregate, rel.countsAs, rel.with, rel.number.
-/
import Derived.Test.YtjgihlmefaakkaaDoorGrMap
import Derived.Test.YtjgihlmefaakkaaDoorRlItem
set_option linter.unusedVariables false
namespace Go.Proofs.YtjgihlmefaakkaaDoor
set_option maxRecDepth 100000
open Go.RowKit Go.WideShapes

def tCount : ByteArray := ⟨#[99, 111, 117, 110, 116]⟩
def tSum : ByteArray := ⟨#[115, 117, 109]⟩
def tMin : ByteArray := ⟨#[109, 105, 110]⟩
def tMax : ByteArray := ⟨#[109, 97, 120]⟩
/-- what is made of two numbers -/
def opG (which : ByteArray) (a b : Int) : Int := if which = tMin then min a b else if which = tMax then max a b else a + b
theorem lit_no {s : ByteArray} {l : List UInt8} (h : ¬ s = ⟨l.toArray⟩) : (s.toList == l) = false := by
  rw [Bool.eq_false_iff]
  intro e
  have e1 : s.toList = l := by simpa using e
  rw [ByteArray.toList_eq] at e1
  exact h (ByteArray.ext (by rw [← e1]))
def isG (which : ByteArray) : Prop := which = tCount ∨ which = tSum ∨ which = tMin ∨ which = tMax
set_option maxHeartbeats 800000 in
theorem aggregate_yes (which : ByteArray) (h : isG which) (w : World) : Calls Tryd.prog 9 #[.string which] w fun e w' => e = .returned (.bool true) ∧ w' = w := by
  rcases h with rfl | rfl | rfl | rfl
  all_goals
    simp only [tCount, tSum, tMin, tMax]
    go_enter Tryd.func9, Tryd.ntmps9
    go_wp2
    all_goals (go_ret; exact ⟨rfl, rfl⟩)
set_option maxHeartbeats 800000 in
theorem aggregate_no (which : ByteArray) (h : ¬ isG which) (w : World) : Calls Tryd.prog 9 #[.string which] w fun e w' => e = .returned (.bool false) ∧ w' = w := by
  have h1 : ¬ which = ⟨#[99, 111, 117, 110, 116]⟩ := fun e => h (.inl e)
  have h2 : ¬ which = ⟨#[115, 117, 109]⟩ := fun e => h (.inr (.inl e))
  have h3 : ¬ which = ⟨#[109, 105, 110]⟩ := fun e => h (.inr (.inr (.inl e)))
  have h4 : ¬ which = ⟨#[109, 97, 120]⟩ := fun e => h (.inr (.inr (.inr e)))
  have q1 : (which.toList == [99, 111, 117, 110, 116]) = false := lit_no h1
  have q2 : (which.toList == [115, 117, 109]) = false := lit_no h2
  have q3 : (which.toList == [109, 105, 110]) = false := lit_no h3
  have q4 : (which.toList == [109, 97, 120]) = false := lit_no h4
  clear h h1 h2 h3 h4
  go_enter Tryd.func9, Tryd.ntmps9
  go_wp2
  all_goals (go_ret; exact ⟨rfl, rfl⟩)
set_option maxHeartbeats 800000 in
theorem counts_any (x : It) (w : World) : Calls Tryd.prog 11 #[.string tCount, itV x] w fun e w' => e = .returned (.tuple #[.int .i64 1, .int .i64 0]) ∧ Chain w w' := by
  unfold tCount itV
  go_enter Tryd.func11, Tryd.ntmps11
  go_wp2
  refine bodyPost_ret (v := .tuple #[.int .i64 1, .int .i64 0]) (by simp [results, Tryd.results11, go_sem]) rfl ⟨rfl, ?_⟩
  repeat (first | exact Chain.refl _ | refine Chain.alloc ?_ _ | refine Chain.setCell ?_ (by simp) _)
set_option maxHeartbeats 800000 in
theorem counts_as (which : ByteArray) (hw : which = tSum ∨ which = tMin ∨ which = tMax) (x : It) (w : World) : Calls Tryd.prog 11 #[.string which, itV x] w fun e w' => e = .returned (.tuple #[.int .i64 (if x.kind = 2 then x.n else 0), .int .i64 (if x.kind = 2 then 0 else 12)]) ∧ Chain w w' := by
  by_cases hk : x.kind = 2
  · rw [if_pos hk, if_pos hk]
    unfold itV
    rw [hk]
    rcases hw with rfl | rfl | rfl
    all_goals
      simp only [tSum, tMin, tMax]
      go_enter Tryd.func11, Tryd.ntmps11
      go_wp2
      refine bodyPost_ret (v := .tuple #[.int .i64 x.n, .int .i64 0]) (by simp [results, Tryd.results11, go_sem]) rfl ⟨rfl, ?_⟩
      repeat (first | exact Chain.refl _ | refine Chain.alloc ?_ _ | refine Chain.setCell ?_ (by simp) _)
  · rw [if_neg hk, if_neg hk]
    unfold itV
    have hk1 : (x.kind == 2) = false := by simpa using hk
    rcases hw with rfl | rfl | rfl
    all_goals
      simp only [tSum, tMin, tMax]
      go_enter Tryd.func11, Tryd.ntmps11
      go_wp2
      refine bodyPost_ret (v := .tuple #[.int .i64 0, .int .i64 12]) (by simp [results, Tryd.results11, go_sem]) rfl ⟨rfl, ?_⟩
      repeat (first | exact Chain.refl _ | refine Chain.alloc ?_ _ | refine Chain.setCell ?_ (by simp) _)
set_option maxHeartbeats 800000 in
theorem with_is (which : ByteArray) (h : isG which) (a b : Int) (ha : -1099511627776 ≤ a ∧ a ≤ 1099511627776) (hb : -1099511627776 ≤ b ∧ b ≤ 1099511627776) (w : World) : Calls Tryd.prog 13 #[.string which, .int .i64 a, .int .i64 b] w fun e w' => e = .returned (.int .i64 (opG which a b)) ∧ w' = w := by
  have hs : IntKind.i64.wrap (a + b) = a + b := IntWalk.i64_in _ (by omega)
  obtain ⟨ha1, ha2⟩ := ha
  obtain ⟨hb1, hb2⟩ := hb
  rcases h with rfl | rfl | rfl | rfl
  · have HO : Hid (opG tCount a b = a + b) := by
      have h : opG tCount a b = a + b := by unfold opG tCount tMin tMax; rw [if_neg (by decide), if_neg (by decide)]
      exact h
    unfold tCount at HO ⊢
    go_enter Tryd.func13, Tryd.ntmps13
    go_wp2
    all_goals (go_ret; exact ⟨ret_int (by rw [HO.out]), rfl⟩)
  · have HO : Hid (opG tSum a b = a + b) := by
      have h : opG tSum a b = a + b := by unfold opG tSum tMin tMax; rw [if_neg (by decide), if_neg (by decide)]
      exact h
    unfold tSum at HO ⊢
    go_enter Tryd.func13, Tryd.ntmps13
    go_wp2
    all_goals (go_ret; exact ⟨ret_int (by rw [HO.out]), rfl⟩)
  · have HO : Hid (opG tMin a b = min a b) := by
      have h : opG tMin a b = min a b := by unfold opG; rw [if_pos rfl]
      exact h
    unfold tMin at HO ⊢
    by_cases hl : b < a
    · have HM : Hid (min a b = b) := Int.min_eq_right (Int.le_of_lt hl)
      go_enter Tryd.func13, Tryd.ntmps13
      go_wp2
      all_goals (go_ret; exact ⟨ret_int (by rw [HO.out, HM.out]), rfl⟩)
    · have HM : Hid (min a b = a) := Int.min_eq_left (by omega)
      go_enter Tryd.func13, Tryd.ntmps13
      go_wp2
      all_goals (go_ret; exact ⟨ret_int (by rw [HO.out, HM.out]), rfl⟩)
  · have HO : Hid (opG tMax a b = max a b) := by
      have h : opG tMax a b = max a b := by unfold opG tMin tMax; rw [if_neg (by decide), if_pos rfl]
      exact h
    unfold tMax at HO ⊢
    by_cases hl : a < b
    · have HM : Hid (max a b = b) := Int.max_eq_right (Int.le_of_lt hl)
      go_enter Tryd.func13, Tryd.ntmps13
      go_wp2
      all_goals (go_ret; exact ⟨ret_int (by rw [HO.out, HM.out]), rfl⟩)
    · have HM : Hid (max a b = a) := Int.max_eq_left (by omega)
      go_enter Tryd.func13, Tryd.ntmps13
      go_wp2
      all_goals (go_ret; exact ⟨ret_int (by rw [HO.out, HM.out]), rfl⟩)
set_option maxHeartbeats 800000 in
theorem number_isG (x : Int) (w : World) : Calls Tryd.prog 12 #[.int .i64 x] w fun e w' => e = .returned (.agg #[.int .i64 2, .int .i64 x, .string ⟨#[]⟩]) ∧ Chain w w' := by
  go_enter Tryd.func12, Tryd.ntmps12
  go_wp2
  refine bodyPost_ret (v := .agg #[.int .i64 2, .int .i64 x, .string ⟨#[]⟩]) (by simp [results, Tryd.results12, go_sem]) rfl ⟨rfl, ?_⟩
  repeat (first | exact Chain.refl _ | refine Chain.alloc ?_ _ | refine Chain.setCell ?_ (by simp) _)
theorem counts_gen (which : ByteArray) (cnt : Bool) (hG : isG which) (hcnt : cnt = true ↔ which = tCount) (x : It) (hx : cnt = true ∨ x.kind = 2) (w : World) : Calls Tryd.prog 11 #[.string which, itV x] w fun e w' => e = .returned (.tuple #[.int .i64 (if cnt = true then 1 else x.n), .int .i64 0]) ∧ Chain w w' := by
  cases cnt
  · have hk : x.kind = 2 := hx.resolve_left (by decide)
    have h := counts_as which (hG.resolve_left (fun e => absurd (hcnt.2 e) (by decide))) x w
    rw [if_pos hk, if_pos hk] at h
    simpa using h
  · rw [hcnt.1 rfl]
    simpa using counts_any x w
theorem counts_bad (which : ByteArray) (hG : isG which) (hcnt : ¬ which = tCount) (x : It) (hx : ¬ x.kind = 2) (w : World) : Calls Tryd.prog 11 #[.string which, itV x] w fun e w' => e = .returned (.tuple #[.int .i64 0, .int .i64 12]) ∧ Chain w w' := by
  have h := counts_as which (hG.resolve_left hcnt) x w
  rwa [if_neg hx, if_neg hx] at h
end Go.Proofs.YtjgihlmefaakkaaDoor
