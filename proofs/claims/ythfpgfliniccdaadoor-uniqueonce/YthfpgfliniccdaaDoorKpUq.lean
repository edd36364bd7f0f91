/-
  FACTS for pleacherkeep.UniqueOnce: each is there once, and none is lost.
-/
import Derived.Test.YthfpgfliniccdaaDoorKpUn
import Derived.Test.YthfpgfliniccdaaDoorRlUniqI
import Derived.Test.YthfpgfliniccdaaDoorRlExcI
import Derived.Test.YthfpgfliniccdaaDoorRlChain
set_option linter.unusedVariables false
namespace Go.Proofs.YthfpgfliniccdaaDoor
set_option maxRecDepth 100000
open Go.RowKit

theorem col_at0 (a b : ByteArray) : colI (twoC a b) 2 a = (0 : Nat) := colI_hit (by decide) (by simp [twoC]) (fun j hj => by omega)
theorem col_at1 {a b : ByteArray} (h : (a.toList == b.toList) = false) : colI (twoC a b) 2 b = (1 : Nat) := by
  refine colI_hit (by decide) (by simp [twoC]) (fun j hj => ?_)
  obtain rfl : j = 0 := by omega
  exact h
theorem nn {k : Nat} : ¬ ((k : Int) = -1) := by omega
theorem found_two : foundB (twoC nA nB) 2 (twoC nA nB) 2 = true := found_all fun i hi => by
  have : i = 0 ∨ i = 1 := by omega
  rcases this with rfl | rfl
  · rw [show twoC nA nB 0 = nA from rfl, col_at0]; exact nn
  · rw [show twoC nA nB 1 = nB from rfl, col_at1 ab_ne]; exact nn
theorem found_one : foundB (twoC nA nB) 2 (fun _ => nB) 1 = true := found_all fun i hi => by
  rw [col_at1 ab_ne]; exact nn
theorem one_fine (a : ByteArray) (ha : a.size ≤ 1) : StrsFine 1 (fun _ => a) := ⟨by decide, fun i hi => by show a.size ≤ _; unfold maxLen; omega⟩
/-- rows that are kept of those of raw things -/
theorem kept_fine (X : Nat → Rw) (K : Nat → Bool) (m N : Nat) (hN : N ≤ 12) : RowsFine N (keptR K m (rawR X)) := by
  refine ⟨by omega, fun i hi => ⟨?_, fun k hk => ?_⟩⟩
  · show 2 * 32 ≤ _; decide
  · show (((rawR X (keptAt K m i)).at_ _).s).size ≤ _
    unfold rawR maxLen
    simp only
    split
    · show (0 : Nat) ≤ _; omega
    · have := (may_y (X (keptAt K m i))).2; omega
theorem kept_rel (X : Nat → Rw) (K : Nat → Bool) (m N : Nat) (hN : N ≤ 12) : relF (twoC nA nB) 2 (keptR K m (rawR X)) N = 0 := relF_ok (made_0 cols_ab (by omega)) (fun j _ => by
  have h := raw_row X (keptAt K m j)
  unfold rowE at h ⊢
  exact h)
theorem uni_a {O : Nat → ByteArray} {ko : Nat} (X : Nat → Rw) (m : Nat) (hm : m ≤ 12) (h : foundB (twoC nA nB) 2 O ko = true) : uniF (twoC nA nB) 2 (rawR X) m O ko = 0 := by
  unfold uniF; rw [if_pos (rel_ab X m hm), if_pos h]
theorem uni_u {O : Nat → ByteArray} {ko : Nat} (X : Nat → Rw) (K : Nat → Bool) (m N : Nat) (hN : N ≤ 12) (h : foundB (twoC nA nB) 2 O ko = true) : uniF (twoC nA nB) 2 (keptR K m (rawR X)) N O ko = 0 := by
  unfold uniF; rw [if_pos (kept_rel X K m N hN), if_pos h]
theorem exc_u {O : Nat → ByteArray} {ko : Nat} (X : Nat → Rw) (K : Nat → Bool) (m N : Nat) (hm : m ≤ 12) (hN : N ≤ 12) (h : foundB (twoC nA nB) 2 O ko = true) : excF (twoC nA nB) 2 (rawR X) m (twoC nA nB) 2 (keptR K m (rawR X)) N O ko = 0 := by
  unfold excF twoF
  rw [rel_ab X m hm, kept_rel X K m N hN, if_pos rfl, if_pos rfl, if_pos ⟨h, h⟩]
theorem kept_all {K : Nat → Bool} {m : Nat} (h : ∀ i, i < m → K i = true) : keptL K m = List.range m := by
  unfold keptL
  exact List.filter_eq_self.2 fun i hi => h i (List.mem_range.1 hi)
/-- what is kept is kept again -/
theorem twice_K (R : Nat → Row) (P : Nat → Nat) (ko m i : Nat) (hi : i < keptN (uniK R P ko) m) : uniK (keptR (uniK R P ko) m R) P ko i = true := by
  unfold uniK
  rw [List.all_eq_true]
  intro j hj
  have hj' := List.mem_range.1 hj
  have hi' : i < (keptL (uniK R P ko) m).length := hi
  have hs : (keptL (uniK R P ko) m).Pairwise (· < ·) := List.Pairwise.filter _ List.pairwise_lt_range
  have hlt : keptAt (uniK R P ko) m j < keptAt (uniK R P ko) m i := by
    unfold keptAt
    have h := List.pairwise_iff_getElem.1 hs j i (by omega) hi' hj'
    rw [List.getD_eq_getElem?_getD, List.getD_eq_getElem?_getD, List.getElem?_eq_getElem hi', List.getElem?_eq_getElem (by omega)]
    exact h
  have hy : uniK R P ko (keptAt (uniK R P ko) m i) = true := by
    unfold keptAt
    rw [List.getD_eq_getElem?_getD, List.getElem?_eq_getElem hi']
    exact (List.mem_filter.1 (List.getElem_mem hi')).2
  have h := uniK_yes hy _ hlt
  have h' : sameB (pickX (keptR (uniK R P ko) m R) P i) (pickX (keptR (uniK R P ko) m R) P j) ko = false := h
  show (!sameB (pickX (keptR (uniK R P ko) m R) P i) (pickX (keptR (uniK R P ko) m R) P j) ko) = true
  rw [h']; rfl
theorem twice_n (R : Nat → Row) (P : Nat → Nat) (ko m : Nat) : keptN (uniK (keptR (uniK R P ko) m R) P ko) (keptN (uniK R P ko) m) = keptN (uniK R P ko) m := by
  have h := kept_all (twice_K R P ko m)
  have h2 := congrArg List.length h
  rw [List.length_range] at h2
  exact h2
theorem twice_row (R : Nat → Row) (P : Nat → Nat) (ko m i : Nat) (hi : i < keptN (uniK R P ko) m) : keptR (uniK R P ko) m R i = keptR (uniK (keptR (uniK R P ko) m R) P ko) (keptN (uniK R P ko) m) (keptR (uniK R P ko) m R) i := by
  have h : keptAt (uniK (keptR (uniK R P ko) m R) P ko) (keptN (uniK R P ko) m) i = i := by
    unfold keptAt
    rw [kept_all (twice_K R P ko m)]
    simp [hi]
  show _ = (keptR (uniK R P ko) m R) (keptAt (uniK (keptR (uniK R P ko) m R) P ko) (keptN (uniK R P ko) m) i)
  rw [h]
/-- none is left -/
theorem none_left (R : Nat → Row) (P : Nat → Nat) (ko m : Nat) : keptN (excK R P (keptR (uniK R P ko) m R) P (keptN (uniK R P ko) m) ko) m = 0 := by
  have h : keptL (excK R P (keptR (uniK R P ko) m R) P (keptN (uniK R P ko) m) ko) m = [] := by
    unfold keptL
    rw [List.filter_eq_nil_iff]
    intro i hi
    have him := List.mem_range.1 hi
    obtain ⟨t, h1, h2, h3⟩ := uni_first R P ko i
    unfold excK
    intro hall
    rw [List.all_eq_true] at hall
    have hlt : keptN (uniK R P ko) t < keptN (uniK R P ko) m := by
      have h5 := keptN_mono (uniK R P ko) (show t + 1 ≤ m by omega)
      rw [keptN_yes h3] at h5
      omega
    have h4 := hall (keptN (uniK R P ko) t) (List.mem_range.2 hlt)
    have h5 : pickX (keptR (uniK R P ko) m R) P (keptN (uniK R P ko) t) = pickX R P t := by
      unfold pickX
      rw [keptR_at R (by omega) h3]
    rw [h5, h2] at h4
    exact absurd h4 (by decide)
  unfold keptN at h ⊢
  rw [h]; rfl
end Go.Proofs.YthfpgfliniccdaaDoor
