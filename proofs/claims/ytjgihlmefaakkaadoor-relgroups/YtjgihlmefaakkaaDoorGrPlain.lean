/-
  PLAIN FACTS: parts of rows, and what is added up in each.
-/
import Derived.Test.YtjgihlmefaakkaaDoorRlItKey
set_option linter.unusedVariables false
namespace Go.Proofs.YtjgihlmefaakkaaDoor
set_option maxRecDepth 100000
open Go.RowKit Go.WideShapes

/-- is it the first one of its part? -/
def fstB (p : Nat → It) (i : Nat) : Bool := (List.range i).all fun t => !itB (p t) (p i)
theorem fstB_yes {p : Nat → It} {i : Nat} (h : fstB p i = true) : ∀ t, t < i → p t ≠ p i := by
  intro t ht e
  unfold fstB at h
  rw [List.all_eq_true] at h
  have := h t (List.mem_range.2 ht)
  rw [itB_iff.2 e] at this
  cases this
theorem fstB_no {p : Nat → It} {i : Nat} (h : fstB p i = false) : ∃ t, t < i ∧ p t = p i := by
  unfold fstB at h
  rw [List.all_eq_false] at h
  obtain ⟨t, ht, e⟩ := h
  refine ⟨t, List.mem_range.1 ht, ?_⟩
  cases hb : itB (p t) (p i)
  · rw [hb] at e; exact absurd rfl e
  · exact itB_iff.1 hb
theorem fstB_mk {p : Nat → It} {i : Nat} (h : ∀ t, t < i → p t ≠ p i) : fstB p i = true := by
  unfold fstB
  rw [List.all_eq_true]
  intro t ht
  cases hb : itB (p t) (p i)
  · rfl
  · exact absurd (itB_iff.1 hb) (h t (List.mem_range.1 ht))
/-- the first one of a part -/
theorem fst_at (p : Nat → It) (i : Nat) : ∃ t, t ≤ i ∧ p t = p i ∧ fstB p t = true := by
  induction i using Nat.strongRecOn with
  | _ i ih =>
    cases h : fstB p i
    · obtain ⟨t, ht, e⟩ := fstB_no h
      obtain ⟨s, h1, h2, h3⟩ := ih t ht
      exact ⟨s, by omega, h2.trans e, h3⟩
    · exact ⟨i, Nat.le_refl _, rfl, h⟩
/-- the parts, in the order in which they come -/
def prtK (p : Nat → It) (m j : Nat) : It := p (keptAt (fstB p) m j)
def prtN (p : Nat → It) (k : Nat) : Nat := keptN (fstB p) k
theorem prtN_le (p : Nat → It) (k : Nat) : prtN p k ≤ k := keptN_le _ _
theorem prtN_yes {p : Nat → It} {k : Nat} (h : fstB p k = true) : prtN p (k + 1) = prtN p k + 1 := keptN_yes h
theorem prtN_no {p : Nat → It} {k : Nat} (h : fstB p k = false) : prtN p (k + 1) = prtN p k := keptN_no h
theorem prtK_at {p : Nat → It} {k m : Nat} (hk : k < m) (h : fstB p k = true) : prtK p m (prtN p k) = p k := by unfold prtK prtN; rw [keptAt_at hk h]
theorem keptN_mono {K : Nat → Bool} {s t : Nat} (h : s ≤ t) : keptN K s ≤ keptN K t := by
  obtain ⟨r, hr⟩ := keptL_pre (K := K) s (t - s)
  rw [show s + (t - s) = t by omega] at hr
  unfold keptN
  rw [hr, List.length_append]
  omega
theorem keptN_lt {K : Nat → Bool} {s t : Nat} (h : s < t) (hs : K s = true) : keptN K s < keptN K t := by
  have := keptN_mono (K := K) (s := s + 1) (t := t) (by omega)
  rw [keptN_yes hs] at this
  omega
/-- the j-th one that is kept -/
theorem kept_at {K : Nat → Bool} {k j : Nat} (hj : j < keptN K k) : ∃ t, t < k ∧ K t = true ∧ keptN K t = j := by
  induction k with
  | zero => simp [keptN, keptL] at hj
  | succ k ih =>
    cases h : K k
    · rw [keptN_no h] at hj
      obtain ⟨t, h1, h2⟩ := ih hj
      exact ⟨t, by omega, h2⟩
    · rw [keptN_yes h] at hj
      by_cases e : j = keptN K k
      · exact ⟨k, by omega, h, e.symm⟩
      · obtain ⟨t, h1, h2⟩ := ih (by omega)
        exact ⟨t, by omega, h2⟩
/-- a row's part has a place, if it came ahead -/
theorem prt_place {p : Nat → It} {k m : Nat} (hk : k < m) (h : fstB p k = false) : ∃ i, i < prtN p k ∧ prtK p m i = p k := by
  obtain ⟨t, h1, h2, h3⟩ := fst_at p k
  have h4 : t < k := by
    rcases Nat.lt_or_ge t k with h' | h'
    · exact h'
    · obtain rfl : t = k := by omega
      rw [h] at h3; cases h3
  exact ⟨prtN p t, keptN_lt h4 h3, by rw [prtK_at (by omega) h3, h2]⟩
/-- .. and none else has it -/
theorem prt_inj {p : Nat → It} {m k i j : Nat} (hk : k ≤ m) (hi : i < prtN p k) (hj : j < prtN p k) (h : prtK p m i = prtK p m j) : i = j := by
  obtain ⟨s, s1, s2, rfl⟩ := kept_at hi
  obtain ⟨t, t1, t2, rfl⟩ := kept_at hj
  have e1 : prtK p m (prtN p s) = p s := prtK_at (by omega) s2
  have e2 : prtK p m (prtN p t) = p t := prtK_at (by omega) t2
  have e : p s = p t := by rw [← e1, ← e2]; exact h
  rcases Nat.lt_trichotomy s t with hl | hl | hl
  · exact absurd e (fstB_yes t2 s hl)
  · rw [hl]
  · exact absurd e.symm (fstB_yes s2 t hl)
theorem prt_new {p : Nat → It} {k m : Nat} (hk : k < m) (h : fstB p k = true) : ∀ j, j < prtN p k → prtK p m j ≠ p k := by
  intro j hj e
  obtain ⟨s, s1, s2, rfl⟩ := kept_at hj
  have e1 : prtK p m (prtN p s) = p s := prtK_at (by omega) s2
  exact fstB_yes h s s1 (by rw [← e1]; exact e)
/-- what is added up, of those of k that are Q -/
def agS (num : Nat → Int) (op : Int → Int → Int) (Q : Nat → Bool) : Nat → Option Int
  | 0 => none
  | k + 1 => if Q k = true then some (match agS num op Q k with | none => num k | some v => op v (num k)) else agS num op Q k
def agX (num : Nat → Int) (op : Int → Int → Int) (p : Nat → It) (x : It) (k : Nat) : Option Int := agS num op (fun i => itB (p i) x) k
def agV (num : Nat → Int) (op : Int → Int → Int) (p : Nat → It) (x : It) (k : Nat) : Int := (agX num op p x k).getD 0
theorem agX_none {num : Nat → Int} {op : Int → Int → Int} {p : Nat → It} {x : It} {k : Nat} (h : ∀ t, t < k → p t ≠ x) : agX num op p x k = none := by
  induction k with
  | zero => rfl
  | succ k ih =>
    have hb : itB (p k) x = false := by
      cases hb : itB (p k) x
      · rfl
      · exact absurd (itB_iff.1 hb) (h k (by omega))
    have := ih (fun t ht => h t (by omega))
    unfold agX at this ⊢
    rw [agS, if_neg (by rw [hb]; decide), this]
theorem agX_some {num : Nat → Int} {op : Int → Int → Int} {p : Nat → It} {x : It} {k t : Nat} (ht : t < k) (h : p t = x) : ∃ v, agX num op p x k = some v := by
  induction k with
  | zero => omega
  | succ k ih =>
    unfold agX
    rw [agS]
    by_cases e : itB (p k) x = true
    · rw [if_pos e]; exact ⟨_, rfl⟩
    · rw [if_neg e]
      refine ih ?_
      rcases Nat.lt_or_ge t k with h' | h'
      · exact h'
      · obtain rfl : t = k := by omega
        exact absurd (itB_iff.2 h) e
theorem agV_other {num : Nat → Int} {op : Int → Int → Int} {p : Nat → It} {x : It} {k : Nat} (h : p k ≠ x) : agV num op p x (k + 1) = agV num op p x k := by
  unfold agV agX
  rw [agS, if_neg (fun e => h (itB_iff.1 e))]
theorem agV_first {num : Nat → Int} {op : Int → Int → Int} {p : Nat → It} {k : Nat} (h : fstB p k = true) : agV num op p (p k) (k + 1) = num k := by
  have h0 : agX num op p (p k) k = none := agX_none (fstB_yes h)
  unfold agX at h0
  unfold agV agX
  rw [agS, if_pos (itB_iff.2 rfl), h0]
  rfl
theorem agV_more {num : Nat → Int} {op : Int → Int → Int} {p : Nat → It} {k : Nat} (h : fstB p k = false) : agV num op p (p k) (k + 1) = op (agV num op p (p k) k) (num k) := by
  obtain ⟨t, ht, e⟩ := fstB_no h
  obtain ⟨v, hv⟩ := agX_some (num := num) (op := op) ht e
  unfold agX at hv
  unfold agV agX
  rw [agS, if_pos (itB_iff.2 rfl), hv]
  rfl
/-- a part with what was added up -/
def grR (num : Nat → Int) (op : Int → Int → Int) (p : Nat → It) (m k j : Nat) : Row := ⟨2, fun t => if t = 0 then prtK p m j else ⟨2, agV num op p (prtK p m j) k, ⟨#[]⟩⟩⟩
/-- is a row refused? -/
def refB (cnt : Bool) (knd : Nat → Int) (num : Nat → Int) (op : Int → Int → Int) (p : Nat → It) (k : Nat) : Bool :=
  (!cnt && knd k != 2) || (!fstB p k && !decide (-1099511627776 ≤ op (agV num op p (p k) k) (num k) ∧ op (agV num op p (p k) k) (num k) ≤ 1099511627776))
theorem refB_no {cnt : Bool} {knd num : Nat → Int} {op : Int → Int → Int} {p : Nat → It} {k : Nat} (h : refB cnt knd num op p k = false) : (cnt = true ∨ knd k = 2) ∧ (fstB p k = false → -1099511627776 ≤ op (agV num op p (p k) k) (num k) ∧ op (agV num op p (p k) k) (num k) ≤ 1099511627776) := by
  unfold refB at h
  rw [Bool.or_eq_false_iff] at h
  refine ⟨?_, fun hf => ?_⟩
  · cases cnt
    · right
      have h1 := h.1
      simp at h1
      exact h1
    · left; rfl
  · have h2 := h.2
    rw [hf] at h2
    simpa using h2
theorem refB_yes1 {cnt : Bool} {knd num : Nat → Int} {op : Int → Int → Int} {p : Nat → It} {k : Nat} (h1 : cnt = false) (h2 : ¬ knd k = 2) : refB cnt knd num op p k = true := by
  unfold refB
  rw [h1]
  simp [h2]
theorem refB_mk {cnt : Bool} {knd num : Nat → Int} {op : Int → Int → Int} {p : Nat → It} {k : Nat} (h1 : cnt = true ∨ knd k = 2) (h2 : fstB p k = true ∨ (-1099511627776 ≤ op (agV num op p (p k) k) (num k) ∧ op (agV num op p (p k) k) (num k) ≤ 1099511627776)) : refB cnt knd num op p k = false := by
  unfold refB
  rw [Bool.or_eq_false_iff]
  constructor
  · rcases h1 with h1 | h1
    · rw [h1]; rfl
    · rw [h1]; simp
  · rcases h2 with h2 | h2
    · rw [h2]; rfl
    · simp [h2]
theorem refB_yes2 {cnt : Bool} {knd num : Nat → Int} {op : Int → Int → Int} {p : Nat → It} {k : Nat} (h1 : fstB p k = false) (h2 : ¬ (-1099511627776 ≤ op (agV num op p (p k) k) (num k) ∧ op (agV num op p (p k) k) (num k) ≤ 1099511627776)) : refB cnt knd num op p k = true := by
  unfold refB
  rw [h1, decide_eq_false h2]
  simp
theorem agV_bound {cnt : Bool} {knd num : Nat → Int} {op : Int → Int → Int} {p : Nat → It} {x : It} {k : Nat} (h : ∀ i, i < k → refB cnt knd num op p i = false) (hn : ∀ i, i < k → -1099511627776 ≤ num i ∧ num i ≤ 1099511627776) : -1099511627776 ≤ agV num op p x k ∧ agV num op p x k ≤ 1099511627776 := by
  induction k with
  | zero =>
    have e : agV num op p x 0 = 0 := rfl
    rw [e]
    omega
  | succ k ih =>
    have hi := ih (fun i hi => h i (by omega)) (fun i hi => hn i (by omega))
    by_cases e : p k = x
    · subst e
      cases hf : fstB p k
      · rw [agV_more hf]
        exact (refB_no (h k (by omega))).2 hf
      · rw [agV_first hf]
        exact hn k (by omega)
    · rw [agV_other e]
      exact hi
theorem may_bound {x : It} (h : mayI x = true) : -1099511627776 ≤ x.n ∧ x.n ≤ 1099511627776 := by
  unfold mayI at h
  by_cases h1 : x.kind = 1
  · rw [if_pos h1] at h
    have := of_decide_eq_true h
    omega
  · rw [if_neg h1] at h
    by_cases h2 : x.kind = 2
    · rw [if_pos h2] at h
      have := of_decide_eq_true h
      omega
    · rw [if_neg h2] at h
      by_cases h3 : x.kind = 3
      · rw [if_pos h3] at h
        have := of_decide_eq_true h
        omega
      · rw [if_neg h3] at h
        by_cases h4 : x.kind = 4
        · rw [if_pos h4] at h
          have := of_decide_eq_true h
          omega
        · rw [if_neg h4] at h
          cases h
theorem may_rel {C : Nat → ByteArray} {n : Nat} {R : Nat → Row} {m : Nat} (h : relF C n R m = 0) : ∀ i, i < m → ∀ t, t < n → mayI ((R i).at_ t) = true := by
  intro i hi t ht
  have h1 := (relF_zero h).2.2 i hi
  have h2 := row_len h i hi
  unfold rowE at h1
  rw [if_pos h2] at h1
  cases e : allB (R i).at_ (R i).len
  · rw [e] at h1; exact absurd h1 (by decide)
  · unfold allB at e
    rw [List.all_eq_true] at e
    exact e t (List.mem_range.2 (by omega))
theorem grR_new {num : Nat → Int} {op : Int → Int → Int} {p : Nat → It} {m k j : Nat} (h : p k ≠ prtK p m j) : grR num op p m k j = grR num op p m (k + 1) j := by
  unfold grR
  rw [agV_other h]
end Go.Proofs.YtjgihlmefaakkaaDoor
