/-
  CONTRACT of the document's answer on unions (UnitedOf).
-/
import Derived.Test.YtjgihlmefaakkaaDoorRlBase
set_option linter.unusedVariables false
namespace Go.Proofs.YtjgihlmefaakkaaDoor
set_option maxRecDepth 100000
open Go.RowKit Go.WideShapes

/-- the same columns? -/
def colsB (C C' : Nat → ByteArray) (n n' : Nat) : Bool := decide (n = n') && (List.range n).all fun i => (C i).toList == (C' i).toList
theorem colsB_len {C C' : Nat → ByteArray} {n n' : Nat} (h : n ≠ n') : colsB C C' n n' = false := by unfold colsB; rw [decide_eq_false h]; rfl
theorem colsB_no {C C' : Nat → ByteArray} {n k : Nat} (hk : k < n) (h : ((C k).toList == (C' k).toList) = false) : colsB C C' n n = false := by
  unfold colsB
  rw [Bool.and_eq_false_iff]
  right
  rw [List.all_eq_false]
  exact ⟨k, List.mem_range.2 hk, by simp [h]⟩
theorem colsB_yes {C C' : Nat → ByteArray} {n : Nat} (h : ∀ k, k < n → ((C k).toList == (C' k).toList) = true) : colsB C C' n n = true := by
  unfold colsB
  rw [decide_eq_true rfl, Bool.true_and, List.all_eq_true]
  exact fun k hk => h k (List.mem_range.1 hk)
/-- what is said of a union -/
def unF (C : Nat → ByteArray) (n : Nat) (R : Nat → Row) (m : Nat) (C' : Nat → ByteArray) (n' : Nat) (R' : Nat → Row) (m' : Nat) : Int :=
  if twoF (relF C n R m) (relF C' n' R' m') = 0 then (if colsB C C' n n' = true then madeF C n (m + m') else 9) else twoF (relF C n R m) (relF C' n' R' m')
/-- its rows -/
def unR (R R' : Nat → Row) (m i : Nat) : Row := if i < m then R i else R' (i - m)
end Go.Proofs.YtjgihlmefaakkaaDoor
