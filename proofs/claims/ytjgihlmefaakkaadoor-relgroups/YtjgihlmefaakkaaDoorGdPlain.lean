/-
  PLAIN FACTS: what the document's answer adds up, part by part, is what the program adds up, row by row.
-/
import Derived.Test.YtjgihlmefaakkaaDoorGrI
set_option linter.unusedVariables false
namespace Go.Proofs.YtjgihlmefaakkaaDoor
set_option maxRecDepth 100000
open Go.RowKit Go.WideShapes

/-- what is made of the first t numbers -/
def vSeq (op : Int → Int → Int) (Z : Nat → Int) : Nat → Int
  | 0 => 0
  | t + 1 => if t = 0 then Z 0 else op (vSeq op Z t) (Z t)
def inb (x : Int) : Bool := decide (-1099511627776 ≤ x ∧ x ≤ 1099511627776)
/-- is the t-th item refused? -/
def badT (which : ByteArray) (Y : Nat → It) (t : Nat) : Bool := decide (¬ (Y t).kind = 2) || (decide (which = tSum) && !inb (vSeq (opG which) (fun s => (Y s).n) (t + 1)))
def dOk (which : ByteArray) (Y : Nat → It) (L : Nat) : Bool := if which = tCount then true else !(List.range L).any (badT which Y)
def dV (which : ByteArray) (Y : Nat → It) (L : Nat) : Int := if which = tCount then (L : Int) else vSeq (opG which) (fun s => (Y s).n) L
/-- those of a part -/
def isP (p : Nat → It) (x : It) (k : Nat) : Bool := itB (p k) x
theorem isP_yes {p : Nat → It} {x : It} {k : Nat} (h : p k = x) : isP p x k = true := itB_iff.2 h
theorem isP_no {p : Nat → It} {x : It} {k : Nat} (h : p k ≠ x) : isP p x k = false := by
  cases e : isP p x k
  · rfl
  · exact absurd (itB_iff.1 e) h
theorem isP_first {p : Nat → It} {k : Nat} (h : fstB p k = true) : keptN (isP p (p k)) k = 0 := by
  unfold keptN keptL
  rw [List.length_eq_zero_iff, List.filter_eq_nil_iff]
  intro t ht
  rw [isP_no (fstB_yes h t (List.mem_range.1 ht))]
  decide
theorem isP_more {p : Nat → It} {k : Nat} (h : fstB p k = false) : keptN (isP p (p k)) k ≠ 0 := by
  obtain ⟨t, ht, e⟩ := fstB_no h
  have := keptN_lt (K := isP p (p k)) ht (isP_yes e)
  omega
theorem seq_ag {num : Nat → Int} {op : Int → Int → Int} {p : Nat → It} {x : It} {m : Nat} : ∀ k, k ≤ m → agV num op p x k = vSeq op (fun t => num (keptAt (isP p x) m t)) (keptN (isP p x) k) := by
  intro k
  induction k with
  | zero => intro _; rfl
  | succ k ih =>
    intro hk
    have ih := ih (by omega)
    by_cases e : p k = x
    · subst e
      have hz : num (keptAt (isP p (p k)) m (keptN (isP p (p k)) k)) = num k := by rw [keptAt_at (by omega) (isP_yes rfl)]
      rw [keptN_yes (isP_yes rfl), vSeq]
      cases hf : fstB p k
      · rw [agV_more hf, if_neg (isP_more hf), ih, hz]
      · rw [agV_first hf, if_pos (isP_first hf)]
        rw [isP_first hf] at hz
        exact hz.symm
    · rw [agV_other e, keptN_no (isP_no e), ih]
theorem count_ag {num : Nat → Int} {op : Int → Int → Int} {p : Nat → It} {x : It} (hop : ∀ a b, op a b = a + b) (hn : ∀ k, num k = 1) (k : Nat) : agV num op p x k = (keptN (isP p x) k : Int) := by
  induction k with
  | zero => rfl
  | succ k ih =>
    by_cases e : p k = x
    · subst e
      rw [keptN_yes (isP_yes rfl)]
      cases hf : fstB p k
      · rw [agV_more hf, hop, ih, hn]; simp
      · rw [agV_first hf, isP_first hf, hn]; simp
    · rw [agV_other e, keptN_no (isP_no e), ih]
theorem opG_count (a b : Int) : opG tCount a b = a + b := by unfold opG tCount tMin tMax; rw [if_neg (by decide), if_neg (by decide)]
theorem opG_sum (a b : Int) : opG tSum a b = a + b := by unfold opG tSum tMin tMax; rw [if_neg (by decide), if_neg (by decide)]
theorem opG_in {which : ByteArray} (h : which = tMin ∨ which = tMax) {a b : Int} (ha : -1099511627776 ≤ a ∧ a ≤ 1099511627776) (hb : -1099511627776 ≤ b ∧ b ≤ 1099511627776) : -1099511627776 ≤ opG which a b ∧ opG which a b ≤ 1099511627776 := by
  rcases h with rfl | rfl
  · unfold opG
    rw [if_pos rfl]
    omega
  · unfold opG tMin tMax
    rw [if_neg (by decide), if_pos rfl]
    omega
/-- is a row refused by the document's answer? -/
def docR (which : ByteArray) (knd num : Nat → Int) (p : Nat → It) (k : Nat) : Bool := decide (¬ which = tCount) && (decide (¬ knd k = 2) || (decide (which = tSum) && !inb (agV num (opG which) p (p k) (k + 1))))
theorem ref_doc {which : ByteArray} {cnt : Bool} (hG : isG which) (hcnt : cnt = true ↔ which = tCount) {knd num : Nat → Int} {p : Nat → It} {k : Nat} (hk6 : k ≤ 1000000) (hn : ∀ i, i ≤ k → -1099511627776 ≤ num i ∧ num i ≤ 1099511627776) (hn1 : cnt = true → ∀ i, num i = 1) (h : ∀ i, i < k → refB cnt knd num (opG which) p i = false) : refB cnt knd num (opG which) p k = docR which knd num p k := by
  have hb := agV_bound (x := p k) h (fun i hi => hn i (by omega))
  have hnk := hn k (Nat.le_refl _)
  cases hc : cnt
  · have hne : ¬ which = tCount := fun e => by rw [hcnt.2 e] at hc; cases hc
    unfold docR
    rw [decide_eq_true hne, Bool.true_and]
    unfold refB
    by_cases h2 : knd k = 2
    · have e1 : (knd k != 2) = false := by simp [h2]
      have e3 : decide (¬ knd k = 2) = false := decide_eq_false (fun h => h h2)
      rw [e1, e3]
      simp only [Bool.and_false, Bool.false_or]
      cases hf : fstB p k
      · rw [agV_more hf]
        by_cases hs : which = tSum
        · rw [decide_eq_true hs]
          rfl
        · have hmm : which = tMin ∨ which = tMax := by
            rcases hG with e | e | e | e
            · exact absurd e hne
            · exact absurd e hs
            · exact .inl e
            · exact .inr e
          have hin := opG_in hmm hb hnk
          rw [decide_eq_false hs, decide_eq_true hin]
          rfl
      · rw [agV_first hf]
        have e2 : inb (num k) = true := decide_eq_true hnk
        rw [e2]
        simp
    · have e1 : (knd k != 2) = true := by simpa using h2
      rw [e1, decide_eq_true h2]
      simp
  · have hwc : which = tCount := hcnt.1 hc
    have e2 : docR which knd num p k = false := by
      unfold docR
      rw [decide_eq_false (fun h => h hwc), Bool.false_and]
    rw [e2]
    subst hwc
    refine refB_mk (.inl rfl) (.inr ?_)
    rw [opG_count, count_ag opG_count (hn1 hc), hn1 hc]
    have := keptN_le (isP p (p k)) k
    omega
theorem ref_all {which : ByteArray} {cnt : Bool} (hG : isG which) (hcnt : cnt = true ↔ which = tCount) {knd num : Nat → Int} {p : Nat → It} {m : Nat} (hm6 : m ≤ 1000000) (hn : ∀ i, i < m → -1099511627776 ≤ num i ∧ num i ≤ 1099511627776) (hn1 : cnt = true → ∀ i, num i = 1) : ∀ k, k ≤ m → ((∀ i, i < k → refB cnt knd num (opG which) p i = false) ↔ ∀ i, i < k → docR which knd num p i = false) := by
  intro k
  induction k with
  | zero => intro _; exact ⟨fun _ i hi => by omega, fun _ i hi => by omega⟩
  | succ k ih =>
    intro hk
    have ih := ih (by omega)
    constructor
    · intro h i hi
      by_cases e : i = k
      · subst e
        rw [← ref_doc hG hcnt (by omega) (fun j hj => hn j (by omega)) hn1 (fun j hj => h j (by omega))]
        exact h i hi
      · exact ih.1 (fun j hj => h j (by omega)) i (by omega)
    · intro h i hi
      have hr := ih.2 (fun j hj => h j (by omega))
      by_cases e : i = k
      · subst e
        rw [ref_doc hG hcnt (by omega) (fun j hj => hn j (by omega)) hn1 hr]
        exact h i hi
      · exact hr i (by omega)
theorem docR_cnt {which : ByteArray} {cnt : Bool} (hcnt : cnt = true ↔ which = tCount) (R : Nat → Row) (Q : Nat) (p : Nat → It) (k : Nat) : docR which (kndG R Q) (numG cnt R Q) p k = docR which (kndG R Q) (numG false R Q) p k := by
  cases h : cnt
  · rfl
  · have hw := hcnt.1 h
    unfold docR
    rw [decide_eq_false (fun h => h hw), Bool.false_and, Bool.false_and]
theorem num_in {cnt : Bool} {R : Nat → Row} {Q m : Nat} (h : ∀ i, i < m → -1099511627776 ≤ ((R i).at_ Q).n ∧ ((R i).at_ Q).n ≤ 1099511627776) : ∀ i, i < m → -1099511627776 ≤ numG cnt R Q i ∧ numG cnt R Q i ≤ 1099511627776 := fun i hi => by
  unfold numG
  cases cnt
  · exact h i hi
  · exact ⟨by simp, by simp⟩
theorem num_one {cnt : Bool} {R : Nat → Row} {Q : Nat} : cnt = true → ∀ i, numG cnt R Q i = 1 := fun h i => by
  unfold numG
  rw [if_pos h]
/-- what is told of a part -/
theorem part_ok {which : ByteArray} {R : Nat → Row} {Q m : Nat} {p : Nat → It} {x : It} : dOk which (fun t => (R (keptAt (isP p x) m t)).at_ Q) (keptN (isP p x) m) = true ↔ ∀ k, k < m → p k = x → docR which (kndG R Q) (numG false R Q) p k = false := by
  unfold dOk
  by_cases hc : which = tCount
  · rw [if_pos hc]
    refine ⟨fun _ k _ _ => ?_, fun _ => rfl⟩
    unfold docR
    rw [decide_eq_false (fun h => h hc), Bool.false_and]
  · rw [if_neg hc]
    have key : ∀ k, k < m → p k = x → badT which (fun t => (R (keptAt (isP p x) m t)).at_ Q) (keptN (isP p x) k) = docR which (kndG R Q) (numG false R Q) p k := fun k hk e => by
      subst e
      have h1 : keptAt (isP p (p k)) m (keptN (isP p (p k)) k) = k := keptAt_at hk (isP_yes rfl)
      have h2 := seq_ag (num := numG false R Q) (op := opG which) (p := p) (x := p k) (m := m) (k + 1) (by omega)
      rw [keptN_yes (isP_yes rfl)] at h2
      unfold badT docR
      rw [decide_eq_true hc, Bool.true_and, h2]
      simp only [h1]
      rfl
    constructor
    · intro h k hk e
      rw [← key k hk e]
      cases hb : badT which (fun t => (R (keptAt (isP p x) m t)).at_ Q) (keptN (isP p x) k)
      · rfl
      · have ha : (List.range (keptN (isP p x) m)).any (badT which (fun t => (R (keptAt (isP p x) m t)).at_ Q)) = true := List.any_eq_true.2 ⟨_, List.mem_range.2 (keptN_lt hk (isP_yes e)), hb⟩
        rw [ha] at h
        cases h
    · intro h
      cases ha : (List.range (keptN (isP p x) m)).any (badT which (fun t => (R (keptAt (isP p x) m t)).at_ Q))
      · rfl
      · obtain ⟨t, ht, hb⟩ := List.any_eq_true.1 ha
        obtain ⟨k, k1, k2, k3⟩ := kept_at (List.mem_range.1 ht)
        rw [← k3, key k k1 (itB_iff.1 k2), h k k1 (itB_iff.1 k2)] at hb
        cases hb
theorem part_val {which : ByteArray} {cnt : Bool} (hcnt : cnt = true ↔ which = tCount) {R : Nat → Row} {Q m : Nat} {p : Nat → It} {x : It} : dV which (fun t => (R (keptAt (isP p x) m t)).at_ Q) (keptN (isP p x) m) = agV (numG cnt R Q) (opG which) p x m := by
  unfold dV
  by_cases hc : which = tCount
  · rw [if_pos hc]
    have h1 := hcnt.2 hc
    subst hc
    rw [count_ag opG_count (fun k => by unfold numG; rw [if_pos h1])]
  · rw [if_neg hc]
    have h1 : cnt = false := by
      cases h : cnt
      · rfl
      · exact absurd (hcnt.1 h) hc
    rw [h1, seq_ag (num := numG false R Q) m (Nat.le_refl _)]
    rfl
end Go.Proofs.YtjgihlmefaakkaaDoor
