/-
  FACTS for pleacherkeep.ExceptSplit: what is left of one, and what the other one has, is all of it.
-/
import Derived.Test.YtdedenggbbppeaaDoorKpUn
import Derived.Test.YtdedenggbbppeaaDoorRlExcI
import Derived.Test.YtdedenggbbppeaaDoorRlChain
set_option linter.unusedVariables false
namespace Go.Proofs.YtdedenggbbppeaaDoor
set_option maxRecDepth 100000
open Go.RowKit

theorem col_at0 (a b : ByteArray) : colI (twoC a b) 2 a = (0 : Nat) := colI_hit (by decide) (by simp [twoC]) (fun j hj => by omega)
theorem col_at1 {a b : ByteArray} (h : (a.toList == b.toList) = false) : colI (twoC a b) 2 b = (1 : Nat) := by
  refine colI_hit (by decide) (by simp [twoC]) (fun j hj => ?_)
  obtain rfl : j = 0 := by omega
  exact h
theorem nn {k : Nat} : ¬ ((k : Int) = -1) := by omega
theorem found_two : foundB (twoC nA nB) 2 (twoC nA nB) 2 = true := found_all fun i hi => by
  have : i = 0 ∨ i = 1 := by omega
  rcases this with rfl | rfl
  · rw [show twoC nA nB 0 = nA from rfl, col_at0]; exact nn
  · rw [show twoC nA nB 1 = nB from rfl, col_at1 ab_ne]; exact nn
theorem found_oneA : foundB (twoC nA nB) 2 (fun _ => nA) 1 = true := found_all fun i hi => by
  rw [col_at0]; exact nn
theorem one_fine (a : ByteArray) (ha : a.size ≤ 1) : StrsFine 1 (fun _ => a) := ⟨by decide, fun i hi => by show a.size ≤ _; unfold maxLen; omega⟩
theorem pr_one : prP (twoC nA nB) 2 (fun _ => nA) 0 = 0 := by unfold prP; rw [col_at0]; rfl
theorem pr_two0 : prP (twoC nA nB) 2 (twoC nA nB) 0 = 0 := by unfold prP; rw [show twoC nA nB 0 = nA from rfl, col_at0]; rfl
theorem pr_two1 : prP (twoC nA nB) 2 (twoC nA nB) 1 = 1 := by unfold prP; rw [show twoC nA nB 1 = nB from rfl, col_at1 ab_ne]; rfl
/-- rows that are kept of those of raw things -/
theorem kept_fine (X : Nat → Rw) (K : Nat → Bool) (m N : Nat) (hN : N ≤ 12) : RowsFine N (keptR K m (rawR X)) := by
  refine ⟨by omega, fun i hi => ⟨?_, fun k hk => ?_⟩⟩
  · show 2 * 32 ≤ _; decide
  · show (((rawR X (keptAt K m i)).at_ _).s).size ≤ _
    unfold rawR maxLen
    simp only
    split
    · show (0 : Nat) ≤ _; omega
    · have := (may_y (X (keptAt K m i))).2; omega
theorem kept_rel (X : Nat → Rw) (K : Nat → Bool) (m N : Nat) (hN : N ≤ 12) : relF (twoC nA nB) 2 (keptR K m (rawR X)) N = 0 := relF_ok (made_0 cols_ab (by omega)) (fun j _ => by
  have h := raw_row X (keptAt K m j)
  unfold rowE at h ⊢
  exact h)
theorem exc_u {O : Nat → ByteArray} {ko : Nat} (X : Nat → Rw) (K : Nat → Bool) (m N : Nat) (hm : m ≤ 12) (hN : N ≤ 12) (h : foundB (twoC nA nB) 2 O ko = true) : excF (twoC nA nB) 2 (rawR X) m (twoC nA nB) 2 (keptR K m (rawR X)) N O ko = 0 := by
  unfold excF twoF
  rw [rel_ab X m hm, kept_rel X K m N hN, if_pos rfl, if_pos rfl, if_pos ⟨h, h⟩]
theorem exc_ab {O : Nat → ByteArray} {ko : Nat} (X Y : Nat → Rw) (m m' : Nat) (hm : m ≤ 12) (hm' : m' ≤ 12) (h : foundB (twoC nA nB) 2 O ko = true) : excF (twoC nA nB) 2 (rawR X) m (twoC nA nB) 2 (rawR Y) m' O ko = 0 := by
  unfold excF twoF
  rw [rel_ab X m hm, rel_ab Y m' hm', if_pos rfl, if_pos rfl, if_pos ⟨h, h⟩]
theorem excK_iff {R : Nat → Row} {P : Nat → Nat} {R' : Nat → Row} {P' : Nat → Nat} {m' ko i : Nat} : excK R P R' P' m' ko i = true ↔ ∀ j, j < m' → sameB (pickX R P i) (pickX R' P' j) ko = false := by
  unfold excK
  rw [List.all_eq_true]
  constructor
  · intro h j hj
    have := h j (List.mem_range.2 hj)
    simpa using this
  · intro h j hj
    have := h j (List.mem_range.1 hj)
    simpa using this
theorem excK_no {R : Nat → Row} {P : Nat → Nat} {R' : Nat → Row} {P' : Nat → Nat} {m' ko i : Nat} (h : excK R P R' P' m' ko i = false) : ∃ j, j < m' ∧ sameB (pickX R P i) (pickX R' P' j) ko = true := by
  unfold excK at h
  rw [List.all_eq_false] at h
  obtain ⟨j, hj, h⟩ := h
  exact ⟨j, List.mem_range.1 hj, by simpa using h⟩
/-- what is kept behind what is left is what was not left -/
theorem gone_K (R R' : Nat → Row) (P : Nat → Nat) (m m' ko i : Nat) (hi : i < m) : excK R P (keptR (excK R P R' P m' ko) m R) P (keptN (excK R P R' P m' ko) m) ko i = !excK R P R' P m' ko i := by
  cases h : excK R P R' P m' ko i
  · show _ = true
    rw [excK_iff]
    intro t ht
    obtain ⟨j, hj, hs⟩ := excK_no h
    obtain ⟨k1, k2, k3⟩ := keptAt_mem (m := m) (Nat.le_refl _) ht
    have k4 := excK_iff.1 k2 j hj
    cases e : sameB (pickX R P i) (pickX (keptR (excK R P R' P m' ko) m R) P t) ko
    · rfl
    · exfalso
      have e1 := sameB_iff.1 e
      have e2 := sameB_iff.1 hs
      have e3 : sameB (pickX R P (keptAt (excK R P R' P m' ko) m t)) (pickX R' P j) ko = true := sameB_iff.2 fun s hs' => (e1 s hs').symm.trans (e2 s hs')
      rw [e3] at k4
      exact absurd k4 (by decide)
  · show _ = false
    cases e : excK R P (keptR (excK R P R' P m' ko) m R) P (keptN (excK R P R' P m' ko) m) ko i
    · rfl
    · exfalso
      have hlt : keptN (excK R P R' P m' ko) i < keptN (excK R P R' P m' ko) m := by
        have h5 := keptN_mono (excK R P R' P m' ko) (show i + 1 ≤ m by omega)
        rw [keptN_yes h] at h5
        omega
      have h4 := excK_iff.1 e _ hlt
      have h5 : pickX (keptR (excK R P R' P m' ko) m R) P (keptN (excK R P R' P m' ko) i) = pickX R P i := by
        unfold pickX
        rw [keptR_at R hi h]
      rw [h5, sameB_iff.2 (fun _ _ => rfl)] at h4
      exact absurd h4 (by decide)
theorem split_n (K : Nat → Bool) (m : Nat) : keptN K m + keptN (fun i => !K i) m = m := by
  induction m with
  | zero => rfl
  | succ m ih =>
    cases h : K m
    · rw [keptN_no h, keptN_yes (K := fun i => !K i) (by simp [h])]; omega
    · rw [keptN_yes h, keptN_no (K := fun i => !K i) (by simp [h])]; omega
theorem keptN_congr {K L : Nat → Bool} {m : Nat} (h : ∀ i, i < m → K i = L i) : keptN K m = keptN L m := by unfold keptN; rw [keptL_congr h]
theorem gone_n (R R' : Nat → Row) (P : Nat → Nat) (m m' ko : Nat) : keptN (excK R P R' P m' ko) m + keptN (excK R P (keptR (excK R P R' P m' ko) m R) P (keptN (excK R P R' P m' ko) m) ko) m = m := by
  rw [keptN_congr (fun i hi => gone_K R R' P m m' ko i hi)]
  exact split_n _ _
theorem self_none (R : Nat → Row) (P : Nat → Nat) (m ko : Nat) : keptN (excK R P R P m ko) m = 0 := by
  have h : keptL (excK R P R P m ko) m = [] := by
    unfold keptL
    rw [List.filter_eq_nil_iff]
    intro i hi hK
    have h4 := excK_iff.1 hK i (List.mem_range.1 hi)
    rw [sameB_iff.2 (fun _ _ => rfl)] at h4
    exact absurd h4 (by decide)
  unfold keptN
  rw [h]; rfl
/-- are two rows the same? -/
def rowB (both : Bool) (r s : Row) : Bool := itB (r.at_ 0) (s.at_ 0) && (!both || itB (r.at_ 1) (s.at_ 1))
def anyR (both : Bool) (r : Row) (S : Nat → Row) (k : Nat) : Bool := (List.range k).any fun j => rowB both r (S j)
theorem rowB_one (R S : Nat → Row) (i j : Nat) : sameB (pickX R (prP (twoC nA nB) 2 (fun _ => nA)) i) (pickX S (prP (twoC nA nB) 2 (fun _ => nA)) j) 1 = rowB false (R i) (S j) := by
  unfold sameB rowB pickX
  simp [pr_one]
theorem rowB_two (R S : Nat → Row) (i j : Nat) : sameB (pickX R (prP (twoC nA nB) 2 (twoC nA nB)) i) (pickX S (prP (twoC nA nB) 2 (twoC nA nB)) j) 2 = rowB true (R i) (S j) := by
  unfold sameB rowB pickX
  simp [List.range_succ, pr_two0, pr_two1]
/-- the columns that are held against each other -/
def exO (both : Bool) : Nat → ByteArray := if both then twoC nA nB else fun _ => nA
def exk (both : Bool) : Nat := if both then 2 else 1
def exK (both : Bool) (R S : Nat → Row) (m' : Nat) : Nat → Bool := excK R (prP (twoC nA nB) 2 (exO both)) S (prP (twoC nA nB) 2 (exO both)) m' (exk both)
theorem found_ex (both : Bool) : foundB (twoC nA nB) 2 (exO both) (exk both) = true := by cases both; exact found_oneA; exact found_two
theorem fine_ex (both : Bool) : StrsFine (exk both) (exO both) := by cases both; exact one_fine _ (by decide); exact cols_fine _ _ (by decide) (by decide)
theorem rowB_ex (both : Bool) (R S : Nat → Row) (i j : Nat) : sameB (pickX R (prP (twoC nA nB) 2 (exO both)) i) (pickX S (prP (twoC nA nB) 2 (exO both)) j) (exk both) = rowB both (R i) (S j) := by
  cases both
  · exact rowB_one R S i j
  · exact rowB_two R S i j
theorem any_no {both : Bool} {r : Row} {S : Nat → Row} {m : Nat} (h : ∀ j, j < m → rowB both r (S j) = false) : anyR both r S m = false := by
  unfold anyR
  rw [List.any_eq_false]
  intro j hj
  rw [h j (List.mem_range.1 hj)]
  decide
theorem any_yes {both : Bool} {r : Row} {S : Nat → Row} {m j : Nat} (hj : j < m) (h : rowB both r (S j) = true) : anyR both r S m = true := by
  unfold anyR
  rw [List.any_eq_true]
  exact ⟨j, List.mem_range.2 hj, h⟩
theorem rest_any (both : Bool) (R S : Nat → Row) (m m' t : Nat) (ht : t < keptN (exK both R S m') m) : anyR both (keptR (exK both R S m') m R t) S m' = false := by
  obtain ⟨k1, k2, k3⟩ := keptAt_mem (m := m) (Nat.le_refl _) ht
  refine any_no fun j hj => ?_
  have h := excK_iff.1 k2 j hj
  rw [rowB_ex] at h
  exact h
theorem gone_any (both : Bool) (R S : Nat → Row) (m m' t : Nat) (ht : t < keptN (exK both R (keptR (exK both R S m') m R) (keptN (exK both R S m') m)) m) : anyR both (keptR (exK both R (keptR (exK both R S m') m R) (keptN (exK both R S m') m)) m R t) S m' = true := by
  obtain ⟨k1, k2, k3⟩ := keptAt_mem (m := m) (Nat.le_refl _) ht
  have h := gone_K R S (prP (twoC nA nB) 2 (exO both)) m m' (exk both) _ k1
  have h' : (!exK both R S m' (keptAt (exK both R (keptR (exK both R S m') m R) (keptN (exK both R S m') m)) m t)) = true := h.symm.trans k2
  have h2 : exK both R S m' (keptAt (exK both R (keptR (exK both R S m') m R) (keptN (exK both R S m') m)) m t) = false := by simpa using h'
  obtain ⟨j, hj, hs⟩ := excK_no h2
  rw [rowB_ex] at hs
  exact any_yes hj hs
theorem split_ex (both : Bool) (R S : Nat → Row) (m m' : Nat) : keptN (exK both R S m') m + keptN (exK both R (keptR (exK both R S m') m R) (keptN (exK both R S m') m)) m = m := gone_n R S _ m m' _
theorem none_ex (both : Bool) (R : Nat → Row) (m : Nat) : keptN (exK both R R m) m = 0 := self_none R _ m _
end Go.Proofs.YtdedenggbbppeaaDoor
