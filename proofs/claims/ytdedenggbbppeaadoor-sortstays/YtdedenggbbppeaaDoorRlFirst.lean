/-
  PLAIN FACTS: the first ones of rows that are the same at some places.
-/
import Derived.Test.YtdedenggbbppeaaDoorRlCols
import Derived.Test.YtdedenggbbppeaaDoorRlSameI
import Derived.Test.YtdedenggbbppeaaDoorRlKeyOf
set_option linter.unusedVariables false
namespace Go.Proofs.YtdedenggbbppeaaDoor
set_option maxRecDepth 100000
open Go.RowKit Go.WideShapes

/-- a row's items at places -/
def pickX (R : Nat → Row) (P : Nat → Nat) (i : Nat) : Nat → It := fun t => (R i).at_ (P t)
/-- is it the first row that is so? -/
def uniK (R : Nat → Row) (P : Nat → Nat) (ko i : Nat) : Bool := (List.range i).all fun j => !sameB (pickX R P i) (pickX R P j) ko
theorem uniK_no {R : Nat → Row} {P : Nat → Nat} {ko i : Nat} (h : uniK R P ko i = false) : ∃ t, t < i ∧ sameB (pickX R P i) (pickX R P t) ko = true := by
  unfold uniK at h
  rw [List.all_eq_false] at h
  obtain ⟨t, h1, h2⟩ := h
  exact ⟨t, List.mem_range.1 h1, by simpa using h2⟩
theorem uniK_yes {R : Nat → Row} {P : Nat → Nat} {ko i : Nat} (h : uniK R P ko i = true) : ∀ t, t < i → sameB (pickX R P i) (pickX R P t) ko = false := by
  unfold uniK at h
  rw [List.all_eq_true] at h
  intro t ht
  simpa using h t (List.mem_range.2 ht)
theorem uni_first (R : Nat → Row) (P : Nat → Nat) (ko i : Nat) : ∃ t, t ≤ i ∧ sameB (pickX R P i) (pickX R P t) ko = true ∧ uniK R P ko t = true := by
  induction i using Nat.strongRecOn with
  | _ i ih =>
    cases h : uniK R P ko i
    · obtain ⟨t, h1, h2⟩ := uniK_no h
      obtain ⟨s, k1, k2, k3⟩ := ih t h1
      refine ⟨s, by omega, ?_, k3⟩
      rw [sameB_iff] at h2 k2 ⊢
      exact fun x hx => (h2 x hx).trans (k2 x hx)
    · exact ⟨i, Nat.le_refl _, sameB_iff.2 (fun _ _ => rfl), h⟩
/-- does a row that is kept hit it? -/
def hitB (R : Nat → Row) (P : Nat → Nat) (ko m j k : Nat) : Bool := (List.range k).any fun t => sameB (pickX R P j) (pickX R P (keptAt (uniK R P ko) m t)) ko
theorem hitB_succ (R : Nat → Row) (P : Nat → Nat) (ko m j k : Nat) : hitB R P ko m j (k + 1) = (hitB R P ko m j k || sameB (pickX R P j) (pickX R P (keptAt (uniK R P ko) m k)) ko) := by
  unfold hitB
  rw [List.range_succ, List.any_append]
  simp
theorem hitB_all {R : Nat → Row} {P : Nat → Nat} {ko m j : Nat} (hj : j < m) : hitB R P ko m j (keptN (uniK R P ko) j) = !uniK R P ko j := by
  cases h : uniK R P ko j
  · obtain ⟨t, h1, h2⟩ := uniK_no h
    obtain ⟨s, k1, k2, k3⟩ := uni_first R P ko t
    rw [Bool.not_false]
    unfold hitB
    rw [List.any_eq_true]
    refine ⟨keptN (uniK R P ko) s, List.mem_range.2 ?_, ?_⟩
    · have := keptN_mono (uniK R P ko) (show s + 1 ≤ j by omega)
      rw [keptN_yes k3] at this
      omega
    · rw [keptAt_at (by omega) k3]
      rw [sameB_iff] at h2 k2 ⊢
      exact fun x hx => (h2 x hx).trans (k2 x hx)
  · rw [Bool.not_true]
    cases hc : hitB R P ko m j (keptN (uniK R P ko) j)
    · rfl
    · unfold hitB at hc
      rw [List.any_eq_true] at hc
      obtain ⟨i, h1, h2⟩ := hc
      obtain ⟨k1, _, _⟩ := keptAt_mem (m := m) (Nat.le_of_lt hj) (List.mem_range.1 h1)
      rw [uniK_yes h _ k1] at h2
      exact absurd h2 (by decide)
theorem hitB_stop {R : Nat → Row} {P : Nat → Nat} {ko m j k : Nat} (hj : j < m) (hk : k ≤ keptN (uniK R P ko) j) (h : hitB R P ko m j k = true) : uniK R P ko j = false := by
  have h1 := hitB_all (R := R) (P := P) (ko := ko) hj
  have h2 : hitB R P ko m j (keptN (uniK R P ko) j) = true := by
    unfold hitB at h ⊢
    rw [List.any_eq_true] at h ⊢
    obtain ⟨i, k1, k2⟩ := h
    exact ⟨i, List.mem_range.2 (by have := List.mem_range.1 k1; omega), k2⟩
  rw [h2] at h1
  cases e : uniK R P ko j
  · rfl
  · rw [e] at h1; exact absurd h1 (by decide)
/-- keys are the same just if the rows are, at all places -/
theorem key_same {X Y : Nat → It} {P Q : Nat → Nat} {ko : Nat} (hPQ : ∀ s t, s < ko → t < ko → (P s = P t ↔ Q s = Q t)) (h8 : keptN (firstB P) ko ≤ 8) :
    keyX X (dedP P ko) (keptN (firstB P) ko) = keyX Y (dedP Q ko) (keptN (firstB Q) ko) ↔ ∀ t, t < ko → X (P t) = Y (Q t) := by
  have hf : ∀ i, i < ko → firstB P i = firstB Q i := fun i hi => by
    unfold firstB
    rw [Bool.eq_iff_iff, List.all_eq_true, List.all_eq_true]
    constructor
    · intro h t ht
      have h1 := h t ht
      have := List.mem_range.1 ht
      have h2 := hPQ t i (by omega) hi
      simp only [bne_iff_ne, ne_eq] at h1 ⊢
      exact fun e => h1 (h2.2 e)
    · intro h t ht
      have h1 := h t ht
      have := List.mem_range.1 ht
      have h2 := hPQ t i (by omega) hi
      simp only [bne_iff_ne, ne_eq] at h1 ⊢
      exact fun e => h1 (h2.1 e)
  have hL : keptL (firstB P) ko = keptL (firstB Q) ko := keptL_congr hf
  have hN : keptN (firstB P) ko = keptN (firstB Q) ko := by unfold keptN; rw [hL]
  have hA : ∀ i, keptAt (firstB P) ko i = keptAt (firstB Q) ko i := fun i => by unfold keptAt; rw [hL]
  constructor
  · intro h t ht
    obtain ⟨s, k1, k2, k3⟩ := first_of P t
    have h1 := congrFun h (keptN (firstB P) s)
    have hlt : keptN (firstB P) s < keptN (firstB P) ko := by
      have := keptN_mono (firstB P) (show s + 1 ≤ ko by omega)
      rw [keptN_yes k3] at this
      omega
    unfold keyX at h1
    rw [if_pos hlt, if_pos (by omega)] at h1
    unfold dedP at h1
    rw [← hA, keptAt_at (by omega) k3, k2] at h1
    rw [h1, (hPQ s t (by omega) ht).1 k2]
  · intro h
    funext i
    unfold keyX
    by_cases hi : i < keptN (firstB P) ko
    · obtain ⟨k1, _, _⟩ := keptAt_mem (m := ko) (Nat.le_refl _) hi
      rw [if_pos hi, if_pos (by omega)]
      unfold dedP
      rw [← hA]
      exact h _ k1
    · rw [if_neg hi, if_neg (by omega)]
end Go.Proofs.YtdedenggbbppeaaDoor
