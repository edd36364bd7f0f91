/-
  CONTRACT of the document's sameItems.
-/
import Derived.Test.YtdedenggbbppeaaDoorRlSame
import Derived.Deep.QuietTactic
import Derived.BigQuiet
set_option linter.unusedVariables false
namespace Go.Proofs.YtdedenggbbppeaaDoor
set_option maxRecDepth 100000
open Go.RowKit Go.WideShapes

/-- are two items the same? -/
def itB (x y : It) : Bool := x.kind == y.kind && (x.n == y.n && x.s.toList == y.s.toList)
theorem itB_iff {x y : It} : itB x y = true ↔ x = y := by
  unfold itB
  simp only [Bool.and_eq_true, beq_iff_eq]
  constructor
  · rintro ⟨h1, h2, h3⟩
    cases x
    cases y
    simp only at h1 h2 h3
    rw [h1, h2, (Lib.bytes_beq_iff _ _).1 (beq_iff_eq.2 h3)]
  · rintro rfl
    exact ⟨rfl, rfl, rfl⟩
theorem itB_no {x y : It} (h : itB x y = false) : ¬ x.kind = y.kind ∨ (x.kind = y.kind ∧ ¬ x.n = y.n) ∨ (x.kind = y.kind ∧ x.n = y.n ∧ (x.s.toList == y.s.toList) = false) := by
  by_cases h1 : x.kind = y.kind
  · by_cases h2 : x.n = y.n
    · refine .inr (.inr ⟨h1, h2, ?_⟩)
      unfold itB at h
      rwa [h1, h2, beq_self_eq_true, beq_self_eq_true, Bool.true_and, Bool.true_and] at h
    · exact .inr (.inl ⟨h1, h2⟩)
  · exact .inl h1
/-- are two rows of items the same? -/
def sameB (X Y : Nat → It) (n : Nat) : Bool := (List.range n).all fun i => itB (X i) (Y i)
theorem sameB_iff {X Y : Nat → It} {n : Nat} : sameB X Y n = true ↔ ∀ i, i < n → X i = Y i := by
  unfold sameB
  rw [List.all_eq_true]
  exact ⟨fun h i hi => itB_iff.1 (h i (List.mem_range.2 hi)), fun h i hi => itB_iff.2 (h i (List.mem_range.1 hi))⟩
theorem sameB_no {X Y : Nat → It} {n k : Nat} (hk : k < n) (h : itB (X k) (Y k) = false) : sameB X Y n = false := by
  unfold sameB
  rw [List.all_eq_false]
  exact ⟨k, List.mem_range.2 hk, by simp [h]⟩
end Go.Proofs.YtdedenggbbppeaaDoor
