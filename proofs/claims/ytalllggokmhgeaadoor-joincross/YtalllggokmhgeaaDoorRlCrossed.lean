/-
  CONTRACT of the document's answer CrossedOf.
-/
import Derived.Test.YtalllggokmhgeaaDoorRlPair
set_option linter.unusedVariables false
namespace Go.Proofs.YtalllggokmhgeaaDoor
set_option maxRecDepth 100000
open Go.RowKit Go.WideShapes

theorem pairN_const (b k : Nat) : pairN (fun _ => b) k = k * b := by
  induction k with
  | zero => simp [pairN]
  | succ k ih => show pairN (fun _ => b) k + b = _; rw [ih, Nat.succ_mul]
/-- both relations may be: so few columns, and names that are not too long -/
theorem fine_both {C C' : Nat → ByteArray} {n n' m m' : Nat} {R R' : Nat → Row} (h : twoF (relF C n R m) (relF C' n' R' m') = 0) (hf : StrsFine n C) (hf' : StrsFine n' C') : StrsFine (n + n') (colsT C n C' n') := by
  obtain ⟨h1, h2⟩ := twoF_zero h
  have k1 := colsF_le (relF_zero h1).1
  have k2 := colsF_le (relF_zero h2).1
  refine ⟨by omega, fun i hi => ?_⟩
  show ((if i < n then C i else C' (i - n)) : ByteArray).size ≤ _
  by_cases e : i < n
  · rw [if_pos e]; exact hf.2 i e
  · rw [if_neg e]; exact hf'.2 _ (by omega)
theorem few_both {C C' : Nat → ByteArray} {n n' m m' : Nat} {R R' : Nat → Row} (h : twoF (relF C n R m) (relF C' n' R' m') = 0) : n ≤ 8 ∧ n' ≤ 8 ∧ m ≤ 1000000 ∧ m' ≤ 1000000 ∧ (∀ i, i < m → (R i).len = n) ∧ (∀ i, i < m' → (R' i).len = n') := by
  obtain ⟨h1, h2⟩ := twoF_zero h
  exact ⟨colsF_le (relF_zero h1).1, colsF_le (relF_zero h2).1, (relF_zero h1).2.1, (relF_zero h2).2.1, row_len h1, row_len h2⟩
/-- what is told of all pairs -/
def crF (C : Nat → ByteArray) (n : Nat) (R : Nat → Row) (m : Nat) (C' : Nat → ByteArray) (n' : Nat) (R' : Nat → Row) (m' : Nat) : Int :=
  if twoF (relF C n R m) (relF C' n' R' m') = 0 then madeF (colsT C n C' n') (n + n') (pairN (fun _ => m') m) else twoF (relF C n R m) (relF C' n' R' m')
def crR (R : Nat → Row) (m : Nat) (R' : Nat → Row) (m' : Nat) : Nat → Row := pairR (fun _ => m') (fun _ => R') R m

end Go.Proofs.YtalllggokmhgeaaDoor
