/-
  ITEMS AND RELATIONS, PLAINLY (P3.1 to P3.3). Nothing of the program.
-/
import Derived.Test.YtkhlfdnlpimojaaDoorPlain
import Derived.Lib.Strings
set_option linter.unusedVariables false
namespace Go.Proofs.YtkhlfdnlpimojaaDoor
open Go.RowKit

/-- an item -/
structure It where
  kind : Int
  n : Int
  s : ByteArray
/-- may it be? -/
def mayI (x : It) : Bool :=
  if x.kind = 1 then decide (x.s.size = 0 ∧ 0 ≤ x.n ∧ x.n < 100000)
  else if x.kind = 2 then decide (x.s.size = 0 ∧ -1099511627776 ≤ x.n ∧ x.n ≤ 1099511627776)
  else if x.kind = 3 then decide (x.n = 0 ∧ textF x.s = 0)
  else if x.kind = 4 then decide (x.s.size = 0 ∧ (x.n = 0 ∨ x.n = 1)) else false
theorem isEmpty_yes {s : ByteArray} (h : s.size = 0) : s.toList.isEmpty = true := by
  rw [ByteArray.toList_eq, List.isEmpty_iff, List.eq_nil_iff_length_eq_zero]; exact h
theorem isEmpty_no {s : ByteArray} (h : ¬ s.size = 0) : s.toList.isEmpty = false := by
  rw [ByteArray.toList_eq, List.isEmpty_eq_false_iff, ne_eq, List.eq_nil_iff_length_eq_zero]; exact h

/-- the first fault of some -/
def firstE (f : Nat → Int) (n : Nat) : Int := match (List.range n).find? (fun k => f k != 0) with
  | some k => f k
  | none => 0
theorem firstE_err {f : Nat → Int} {n k : Nat} (hk : k < n) (h0 : ∀ j, j < k → f j = 0) (h1 : f k ≠ 0) : firstE f n = f k := by
  unfold firstE
  have : (List.range n).find? (fun k => f k != 0) = some k := by
    rw [List.find?_range_eq_some]
    refine ⟨by simpa using h1, by simpa using hk, fun j hj => by simp [h0 j hj]⟩
  rw [this]
theorem firstE_ok {f : Nat → Int} {n : Nat} (h : ∀ j, j < n → f j = 0) : firstE f n = 0 := by
  unfold firstE
  have : (List.range n).find? (fun k => f k != 0) = none := by
    rw [List.find?_eq_none]
    intro j hj
    simp [h j (List.mem_range.1 hj)]
  rw [this]
theorem firstE_zero {f : Nat → Int} {n : Nat} (h : firstE f n = 0) : ∀ j, j < n → f j = 0 := by
  intro j
  induction j using Nat.strongRecOn with
  | ind j ih =>
    intro hj
    apply Classical.byContradiction
    intro hne
    have := firstE_err hj (fun i hi => ih i hi (by omega)) hne
    rw [this] at h
    exact hne h

/-- is the text among the first k? -/
def amongB (C : Nat → ByteArray) (k : Nat) (s : ByteArray) : Bool := (List.range k).any fun j => (C j).toList == s.toList
theorem among_yes {C : Nat → ByteArray} {k j : Nat} {s : ByteArray} (hj : j < k) (h : ((C j).toList == s.toList) = true) : amongB C k s = true := by
  unfold amongB
  rw [List.any_eq_true]
  exact ⟨j, List.mem_range.2 hj, h⟩
theorem among_no {C : Nat → ByteArray} {k : Nat} {s : ByteArray} (h : ∀ j, j < k → ((C j).toList == s.toList) = false) : amongB C k s = false := by
  unfold amongB
  rw [List.any_eq_false]
  intro j hj
  simp [h j (List.mem_range.1 hj)]
/-- what is said of the k-th column -/
def colE (C : Nat → ByteArray) (k : Nat) : Int := if (C k).size < 1 ∨ 20 < (C k).size then 10 else if amongB C k (C k) = true then 7 else 0
/-- what is said of columns -/
def colsF (C : Nat → ByteArray) (n : Nat) : Int := if 8 < n then 1 else firstE (colE C) n
/-- .. and of so many rows -/
def madeF (C : Nat → ByteArray) (n m : Nat) : Int := if colsF C n = 0 then (if 1000000 < m then 1 else 0) else colsF C n
/-- may all items of a row be? -/
def allB (X : Nat → It) (n : Nat) : Bool := (List.range n).all fun k => mayI (X k)
theorem all_no {X : Nat → It} {n k : Nat} (hk : k < n) (h : mayI (X k) = false) : allB X n = false := by
  unfold allB
  rw [List.all_eq_false]
  exact ⟨k, List.mem_range.2 hk, by simp [h]⟩
theorem all_yes {X : Nat → It} {n : Nat} (h : ∀ k, k < n → mayI (X k) = true) : allB X n = true := by
  unfold allB
  rw [List.all_eq_true]
  exact fun k hk => h k (List.mem_range.1 hk)
/-- a list of items: how many, and which -/
structure Row where
  len : Nat
  at_ : Nat → It
/-- what is said of the i-th row -/
def rowE (n : Nat) (R : Nat → Row) (i : Nat) : Int := if (R i).len = n then (if allB (R i).at_ (R i).len = true then 0 else 12) else 9
/-- what is said of a relation -/
def relF (C : Nat → ByteArray) (n : Nat) (R : Nat → Row) (m : Nat) : Int := if madeF C n m = 0 then firstE (rowE n R) m else madeF C n m
end Go.Proofs.YtkhlfdnlpimojaaDoor
