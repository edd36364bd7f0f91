/-
  FACTS on the places of columns.
-/
import Derived.Test.YtmoeipdchapodaaGreatDoorRlCol
set_option linter.unusedVariables false
namespace Go.Proofs.YtmoeipdchapodaaGreatDoor
set_option maxRecDepth 100000
open Go.RowKit Go.WideShapes

/-- are all of them columns? -/
def foundB (C : Nat → ByteArray) (n : Nat) (O : Nat → ByteArray) (k : Nat) : Bool := (List.range k).all fun i => decide (0 ≤ colI C n (O i))
/-- where they are -/
def prP (C : Nat → ByteArray) (n : Nat) (O : Nat → ByteArray) (i : Nat) : Nat := (colI C n (O i)).toNat
theorem found_at {C : Nat → ByteArray} {n : Nat} {O : Nat → ByteArray} {i : Nat} (h : ¬ colI C n (O i) = -1) : colI C n (O i) = (prP C n O i : Int) ∧ prP C n O i < n := by
  rcases colI_cases C n (O i) with h1 | ⟨k, hk, h1⟩
  · exact absurd h1 h
  · unfold prP; rw [h1]; exact ⟨by simp, by simpa using hk⟩
theorem found_yes {C : Nat → ByteArray} {n : Nat} {O : Nat → ByteArray} {k : Nat} (h : foundB C n O k = true) : ∀ i, i < k → colI C n (O i) = (prP C n O i : Int) ∧ prP C n O i < n := by
  intro i hi
  unfold foundB at h
  rw [List.all_eq_true] at h
  have h1 := of_decide_eq_true (h i (List.mem_range.2 hi))
  exact found_at (fun e => by omega)
theorem found_no {C : Nat → ByteArray} {n : Nat} {O : Nat → ByteArray} {k : Nat} (h : foundB C n O k = false) : ∃ t, t < k ∧ colI C n (O t) = -1 ∧ ∀ i, i < t → colI C n (O i) = (prP C n O i : Int) := by
  by_cases hx : ∃ t, t < k ∧ colI C n (O t) = -1 ∧ ∀ i, i < t → ¬ colI C n (O i) = -1
  · obtain ⟨t, h1, h2, h3⟩ := hx
    exact ⟨t, h1, h2, fun i hi => (found_at (h3 i hi)).1⟩
  · exfalso
    have hall : ∀ i, i < k → ¬ colI C n (O i) = -1 := by
      intro i
      induction i using Nat.strongRecOn with
      | _ i ih => exact fun hi e => hx ⟨i, hi, e, fun j hj => ih j hj (by omega)⟩
    have : foundB C n O k = true := by
      unfold foundB
      rw [List.all_eq_true]
      intro i hi
      have := found_at (hall i (List.mem_range.1 hi))
      exact decide_eq_true (by omega)
    rw [h] at this
    exact absurd this (by decide)
theorem colF_of {C : Nat → ByteArray} {n : Nat} {s : ByteArray} {p : Nat} (h : colI C n s = (p : Int)) : colF C n s = 0 ∧ colV C n s = (p : Int) := by
  unfold colF colV; rw [h, if_neg (by omega), if_neg (by omega)]; exact ⟨rfl, rfl⟩
theorem colF_no {C : Nat → ByteArray} {n : Nat} {s : ByteArray} (h : colI C n s = -1) : colF C n s = 9 ∧ colV C n s = 0 := by
  unfold colF colV; rw [h]; exact ⟨rfl, rfl⟩
theorem found_all {C : Nat → ByteArray} {n : Nat} {O : Nat → ByteArray} {k : Nat} (h : ∀ i, i < k → ¬ colI C n (O i) = -1) : foundB C n O k = true := by
  cases e : foundB C n O k
  · obtain ⟨t, h1, h2, _⟩ := found_no e
    exact absurd h2 (h t h1)
  · rfl
theorem made_le {D : Nat → ByteArray} {k m : Nat} (h : madeF D k m = 0) : k ≤ 8 := by
  by_cases e : colsF D k = 0
  · exact colsF_le e
  · rw [madeF_err rfl e] at h; exact absurd h e
end Go.Proofs.YtmoeipdchapodaaGreatDoor
