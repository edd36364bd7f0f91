/-
  NODES, PLAINLY: what is said of a list of nodes (P2.2), and the laws that the walks use. Nothing of the program.
-/
import Derived.Test.YtnfljohddpadhaaDoorPlain
namespace Go.Proofs.YtnfljohddpadhaaDoor
open Go.RowKit

/-- a node -/
structure Nd where
  kind : Int
  name : ByteArray
  value : ByteArray
  size : Int
  level : Int
  parent : Int

/-- where nodes lie, one behind the other -/
def NdsAt (w : World) (b off n : Nat) (E : Nat → Nd) : Prop :=
  ∀ i, i < n → w.cell? ⟨b, off + i * 6, none⟩ = some (.int .i64 (E i).kind) ∧ w.cell? ⟨b, off + i * 6 + 1, none⟩ = some (.string (E i).name) ∧ w.cell? ⟨b, off + i * 6 + 2, none⟩ = some (.string (E i).value) ∧
    w.cell? ⟨b, off + i * 6 + 3, none⟩ = some (.int .i64 (E i).size) ∧ w.cell? ⟨b, off + i * 6 + 4, none⟩ = some (.int .i64 (E i).level) ∧ w.cell? ⟨b, off + i * 6 + 5, none⟩ = some (.int .i64 (E i).parent)
theorem NdsAt.less {w : World} {b off n m : Nat} {E : Nat → Nd} (h : NdsAt w b off n E) (hm : m ≤ n) : NdsAt w b off m E := fun i hi => h i (by omega)
theorem NdsAt.below {w w' : World} {b off n B : Nat} {E : Nat → Nd} (h : NdsAt w b off n E) (hb : Below B w w') (hB : b < B) : NdsAt w' b off n E := by
  intro i hi
  obtain ⟨h1, h2, h3, h4, h5, h6⟩ := h i hi
  have k : ∀ o, w'.cell? ⟨b, o, none⟩ = w.cell? ⟨b, o, none⟩ := fun o => hb.cell (p := ⟨b, o, none⟩) hB
  exact ⟨(k _).trans h1, (k _).trans h2, (k _).trans h3, (k _).trans h4, (k _).trans h5, (k _).trans h6⟩

/-- has it the name, the value and the size that its kind may have? -/
def kindB (x : Nd) : Bool :=
  if x.kind = 6 then decide (x.name.size = 0 ∧ x.value.size = 0)
  else if x.kind = 1 then decide (nameF x.name = 0 ∧ x.value.size = 0)
  else if x.kind = 2 then decide (nameF x.name = 0 ∧ x.size = 0 ∧ textF x.value = 0)
  else if x.kind = 3 ∨ x.kind = 4 then decide (x.name.size = 0 ∧ x.size = 0 ∧ textF x.value = 0)
  else false
/-- .. and a document no parent -/
def mayB (x : Nd) : Bool := kindB x && decide (x.kind = 6 → x.parent = -1)

/-- one more than the place of the nearest node, from the q-th on back, within whose size the place i is; 0: none -/
def upW (E : Nat → Nd) (i : Nat) : Nat → Nat
  | 0 => 0
  | p + 1 => if (p : Int) + (E p).size < i then upW E i (min p ((E p).parent + 1).toNat) else p + 1
termination_by q => q
decreasing_by omega
theorem upW_zero (E : Nat → Nd) (i : Nat) : upW E i 0 = 0 := by rw [upW]
theorem upW_stay {E : Nat → Nd} {i p : Nat} (h : ¬ (p : Int) + (E p).size < i) : upW E i (p + 1) = p + 1 := by rw [upW, if_neg h]
theorem upW_go {E : Nat → Nd} {i p q : Nat} (h : (p : Int) + (E p).size < i) (hq : (E p).parent = (q : Int) - 1) (hl : q ≤ p) : upW E i (p + 1) = upW E i q := by
  rw [upW, if_pos h, show min p ((E p).parent + 1).toNat = q by omega]
theorem upW_le (E : Nat → Nd) (i : Nat) : ∀ q, upW E i q ≤ q := by
  intro q
  induction q using Nat.strongRecOn with
  | ind q ih =>
    match q, ih with
    | 0, _ => rw [upW_zero]; omega
    | p + 1, ih =>
      rw [upW]
      by_cases h : (p : Int) + (E p).size < i
      · rw [if_pos h]
        have := ih (min p ((E p).parent + 1).toNat) (by omega)
        omega
      · rw [if_neg h]; omega
theorem upW_in (E : Nat → Nd) (i : Nat) : ∀ q p, upW E i q = p + 1 → (i : Int) ≤ p + (E p).size := by
  intro q
  induction q using Nat.strongRecOn with
  | ind q ih =>
    match q, ih with
    | 0, _ => intro p h; rw [upW_zero] at h; omega
    | r + 1, ih =>
      intro p h
      rw [upW] at h
      by_cases hc : (r : Int) + (E r).size < i
      · rw [if_pos hc] at h
        exact ih _ (by omega) p h
      · rw [if_neg hc] at h
        obtain rfl : r = p := by omega
        omega
/-- the place of the node that a place is within, or -1 -/
def upI (E : Nat → Nd) (i : Nat) : Int := (upW E i i : Int) - 1

/-- has it the size, the parent and the level that its place asks for? -/
def placeB (E : Nat → Nd) (n i : Nat) : Bool :=
  decide (0 ≤ (E i).size ∧ (E i).size ≤ (n : Int) - 1 - i ∧ (E i).parent = upI E i) &&
  (match upW E i i with
   | 0 => decide ((E i).level = 0)
   | p + 1 => decide ((E i).level = (E p).level + 1 ∧ (i : Int) + (E i).size ≤ p + (E p).size ∧ (E i).kind ≠ 6 ∧ ((E i).kind = 2 → (E p).kind = 1 ∧ (i = p + 1 ∨ (E (i - 1)).kind = 2))))
def fitB (E : Nat → Nd) (n i : Nat) : Bool := kindB (E i) && placeB E n i
def fitTo (E : Nat → Nd) (n k : Nat) : Prop := ∀ j, j < k → fitB E n j = true
theorem fitTo_zero (E : Nat → Nd) (n : Nat) : fitTo E n 0 := fun j hj => by omega
theorem fitTo_succ {E : Nat → Nd} {n k : Nat} (h : fitTo E n k) (hk : fitB E n k = true) : fitTo E n (k + 1) := by
  intro j hj
  by_cases e : j = k
  · subst e; exact hk
  · exact h j (by omega)
/-- what is said of nodes -/
def nodesF (E : Nat → Nd) (n : Nat) : Int := if 100000 < n then 1 else if (List.range n).all (fitB E n) = true then 0 else 4
theorem nodesF_size {E : Nat → Nd} {n : Nat} (h : 100000 < n) : nodesF E n = 1 := by unfold nodesF; rw [if_pos h]
theorem nodesF_no {E : Nat → Nd} {n k : Nat} (h : ¬ 100000 < n) (hk : k < n) (hf : fitB E n k = false) : nodesF E n = 4 := by
  unfold nodesF
  rw [if_neg h, if_neg]
  intro ha
  have := List.all_eq_true.1 ha k (List.mem_range.2 hk)
  rw [hf] at this
  cases this
theorem nodesF_ok {E : Nat → Nd} {n : Nat} (h : ¬ 100000 < n) (hf : fitTo E n n) : nodesF E n = 0 := by
  unfold nodesF
  rw [if_neg h, if_pos]
  exact List.all_eq_true.2 fun k hk => hf k (List.mem_range.1 hk)
theorem nodesF_fit {E : Nat → Nd} {n : Nat} (h : nodesF E n = 0) : n ≤ 100000 ∧ fitTo E n n := by
  unfold nodesF at h
  by_cases hn : 100000 < n
  · rw [if_pos hn] at h; cases h
  · rw [if_neg hn] at h
    by_cases ha : (List.range n).all (fitB E n) = true
    · exact ⟨by omega, fun k hk => List.all_eq_true.1 ha k (List.mem_range.2 hk)⟩
    · rw [if_neg ha] at h; cases h
theorem nodesF_cases (E : Nat → Nd) (n : Nat) : nodesF E n = 0 ∨ nodesF E n = 1 ∨ nodesF E n = 4 := by
  unfold nodesF
  split
  · exact .inr (.inl rfl)
  · split
    · exact .inl rfl
    · exact .inr (.inr rfl)

/-- what a node that fits has -/
theorem fit_parts {E : Nat → Nd} {n i : Nat} (h : fitB E n i = true) : kindB (E i) = true ∧ 0 ≤ (E i).size ∧ (E i).size ≤ (n : Int) - 1 - i ∧ (E i).parent = upI E i := by
  unfold fitB placeB at h
  rw [Bool.and_eq_true, Bool.and_eq_true] at h
  obtain ⟨h1, h2, _⟩ := h
  obtain ⟨a, b, c⟩ := of_decide_eq_true h2
  exact ⟨h1, a, b, c⟩
theorem fit_parent {E : Nat → Nd} {n i : Nat} (h : fitB E n i = true) : ∃ q : Nat, q ≤ i ∧ (E i).parent = (q : Int) - 1 ∧ upW E i i = q :=
  ⟨upW E i i, upW_le E i i, (fit_parts h).2.2.2, rfl⟩
theorem fit_top {E : Nat → Nd} {n i : Nat} (h : fitB E n i = true) (hu : upW E i i = 0) : (E i).level = 0 ∧ (E i).parent = -1 := by
  have h4 := (fit_parts h).2.2.2
  unfold fitB placeB at h
  rw [Bool.and_eq_true, Bool.and_eq_true, hu] at h
  refine ⟨of_decide_eq_true h.2.2, ?_⟩
  rw [h4, upI, hu]; rfl
theorem fit_in {E : Nat → Nd} {n i p : Nat} (h : fitB E n i = true) (hu : upW E i i = p + 1) :
    (E i).level = (E p).level + 1 ∧ (i : Int) + (E i).size ≤ p + (E p).size ∧ (E i).kind ≠ 6 ∧ ((E i).kind = 2 → (E p).kind = 1 ∧ (i = p + 1 ∨ (E (i - 1)).kind = 2)) := by
  unfold fitB placeB at h
  rw [Bool.and_eq_true, Bool.and_eq_true, hu] at h
  exact of_decide_eq_true h.2.2
theorem level_in {E : Nat → Nd} {n k : Nat} (h : fitTo E n k) : ∀ j, j < k → 0 ≤ (E j).level ∧ (E j).level ≤ j := by
  intro j
  induction j using Nat.strongRecOn with
  | ind j ih =>
    intro hj
    have hf := h j hj
    cases hu : upW E j j with
    | zero =>
      have := (fit_top hf hu).1
      omega
    | succ p =>
      have h1 := (fit_in hf hu).1
      have h2 := upW_le E j j
      have h3 := ih p (by omega) (by omega)
      omega
/-- what has others within is an element or a document -/
theorem kind_of_size {x : Nd} (h : kindB x = true) (hs : 0 < x.size) : x.kind = 1 ∨ x.kind = 6 := by
  unfold kindB at h
  by_cases h6 : x.kind = 6
  · exact .inr h6
  by_cases h1 : x.kind = 1
  · exact .inl h1
  rw [if_neg h6, if_neg h1] at h
  by_cases h2 : x.kind = 2
  · rw [if_pos h2] at h
    have := (of_decide_eq_true h).2.1
    omega
  rw [if_neg h2] at h
  by_cases h3 : x.kind = 3 ∨ x.kind = 4
  · rw [if_pos h3] at h
    have := (of_decide_eq_true h).2.1
    omega
  · rw [if_neg h3] at h; cases h
theorem up_kind {E : Nat → Nd} {n i p : Nat} (h : fitTo E n i) (hu : upW E i i = p + 1) : (E p).kind = 1 ∨ (E p).kind = 6 := by
  have h1 := upW_le E i i
  have h2 := upW_in E i i p hu
  exact kind_of_size (fit_parts (h p (by omega))).1 (by omega)

/-- the parts of what is asked of a place -/
theorem fit_size {E : Nat → Nd} {n i : Nat} (h : ¬ (0 ≤ (E i).size ∧ (E i).size ≤ (n : Int) - 1 - i)) : placeB E n i = false := by
  unfold placeB
  rw [Bool.and_eq_false_iff]
  exact .inl (decide_eq_false (fun h' => h ⟨h'.1, h'.2.1⟩))
theorem fit_up {E : Nat → Nd} {n i : Nat} (h : ¬ (E i).parent = upI E i) : placeB E n i = false := by
  unfold placeB
  rw [Bool.and_eq_false_iff]
  exact .inl (decide_eq_false (fun h' => h h'.2.2))
theorem place_top {E : Nat → Nd} {n i : Nat} (h1 : 0 ≤ (E i).size) (h2 : (E i).size ≤ (n : Int) - 1 - i) (h3 : (E i).parent = upI E i) (hu : upW E i i = 0) : placeB E n i = decide ((E i).level = 0) := by
  unfold placeB
  rw [hu, decide_eq_true ⟨h1, h2, h3⟩, Bool.true_and]
theorem place_in {E : Nat → Nd} {n i p : Nat} (h1 : 0 ≤ (E i).size) (h2 : (E i).size ≤ (n : Int) - 1 - i) (h3 : (E i).parent = upI E i) (hu : upW E i i = p + 1) :
    placeB E n i = decide ((E i).level = (E p).level + 1 ∧ (i : Int) + (E i).size ≤ p + (E p).size ∧ (E i).kind ≠ 6 ∧ ((E i).kind = 2 → (E p).kind = 1 ∧ (i = p + 1 ∨ (E (i - 1)).kind = 2))) := by
  unfold placeB
  rw [hu, decide_eq_true ⟨h1, h2, h3⟩, Bool.true_and]
end Go.Proofs.YtnfljohddpadhaaDoor
