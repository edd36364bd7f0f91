/-
  CONTRACT of the document's answer ExceptedOf.
-/
import Derived.Test.YtdedenggbbppeaaDoorRlUniq
import Derived.Sort.AtCall
set_option linter.unusedVariables false
namespace Go.Proofs.YtdedenggbbppeaaDoor
set_option maxRecDepth 100000
open Go.RowKit Go.WideShapes

/-- which rows are left: no row of the other one is the same there -/
def excK (R : Nat → Row) (P : Nat → Nat) (R' : Nat → Row) (P' : Nat → Nat) (m' ko i : Nat) : Bool := (List.range m').all fun j => !sameB (pickX R P i) (pickX R' P' j) ko
/-- is one of the first k the same? -/
def hitE (R : Nat → Row) (P : Nat → Nat) (R' : Nat → Row) (P' : Nat → Nat) (ko i k : Nat) : Bool := (List.range k).any fun j => sameB (pickX R P i) (pickX R' P' j) ko
theorem hitE_succ (R : Nat → Row) (P : Nat → Nat) (R' : Nat → Row) (P' : Nat → Nat) (ko i k : Nat) : hitE R P R' P' ko i (k + 1) = (hitE R P R' P' ko i k || sameB (pickX R P i) (pickX R' P' k) ko) := by
  unfold hitE
  rw [List.range_succ, List.any_append]
  simp
theorem hitE_all (R : Nat → Row) (P : Nat → Nat) (R' : Nat → Row) (P' : Nat → Nat) (ko i m' : Nat) : excK R P R' P' m' ko i = !hitE R P R' P' ko i m' := by
  unfold excK hitE
  rw [List.not_any_eq_all_not]
theorem hitE_stop {R : Nat → Row} {P : Nat → Nat} {R' : Nat → Row} {P' : Nat → Nat} {ko i k m' : Nat} (hk : k ≤ m') (h : hitE R P R' P' ko i k = true) : excK R P R' P' m' ko i = false := by
  rw [hitE_all]
  have : hitE R P R' P' ko i m' = true := by
    unfold hitE at h ⊢
    rw [List.any_eq_true] at h ⊢
    obtain ⟨j, k1, k2⟩ := h
    exact ⟨j, List.mem_range.2 (by have := List.mem_range.1 k1; omega), k2⟩
  rw [this]
  rfl
/-- what is told -/
def excF (C : Nat → ByteArray) (n : Nat) (R : Nat → Row) (m : Nat) (C' : Nat → ByteArray) (n' : Nat) (R' : Nat → Row) (m' : Nat) (O : Nat → ByteArray) (ko : Nat) : Int :=
  if twoF (relF C n R m) (relF C' n' R' m') = 0 then (if foundB C n O ko = true ∧ foundB C' n' O ko = true then 0 else 9) else twoF (relF C n R m) (relF C' n' R' m')
end Go.Proofs.YtdedenggbbppeaaDoor
