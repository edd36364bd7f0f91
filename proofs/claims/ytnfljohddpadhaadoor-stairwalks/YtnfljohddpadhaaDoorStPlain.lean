/-
  STEPS, PLAINLY: trees of nodes, what is on an axis, rows of children, ways up. Nothing of the program.
-/
import Derived.Test.YtnfljohddpadhaaDoorEtPlain
set_option linter.unusedVariables false
namespace Go.Proofs.YtnfljohddpadhaaDoor
open Go.RowKit

/-- nodes that are trees, with their parents -/
structure Tr (E : Nat → Nd) (N : Nat) : Prop where
  sz : ∀ i, i < N → (E i).size = (zN E i : Int) ∧ i + zN E i < N
  nest : ∀ c k, c < N → c < k → k ≤ c + zN E c → k + zN E k ≤ c + zN E c
  par : ∀ c k, c < N → c < k → k ≤ c + zN E c → (c : Int) ≤ (E k).parent
  up : ∀ i, i < N → (E i).parent = -1 ∨ ∃ p : Nat, (E i).parent = p ∧ p < i ∧ i ≤ p + zN E p
  first : ∀ c, c < N → 1 ≤ zN E c → (E (c + 1)).parent = (c : Int)
  next : ∀ n c, n < N → n < c → (E c).parent = (n : Int) → c + 1 + zN E c ≤ n + zN E n → (E (c + 1 + zN E c)).parent = (n : Int)
theorem tr_of {E : Nat → Nd} {N : Nat} (h : fitTo E N N) : Tr E N := by
  have t := tree_of h
  refine ⟨t.sz, t.nest, t.par, fun i hi => ?_, t.first, t.next⟩
  obtain ⟨q, h1, h2, h3⟩ := fit_parent (h i hi)
  cases q with
  | zero => left; rw [h2]; rfl
  | succ p =>
    right
    have h4 := upW_in E i i p h3
    have h5 := (t.sz p (by omega)).1
    exact ⟨p, by omega, by omega, by omega⟩
/-- is a node another one, or around it? -/
def An (E : Nat → Nd) (a i : Nat) : Prop := a ≤ i ∧ i ≤ a + zN E a
theorem An.refl (E : Nat → Nd) (i : Nat) : An E i i := ⟨Nat.le_refl _, Nat.le_add_right _ _⟩
theorem An.trans {E : Nat → Nd} {N a b i : Nat} (t : Tr E N) (ha : a < N) (h : An E a b) (k : An E b i) : An E a i := by
  obtain ⟨h1, h2⟩ := h
  obtain ⟨k1, k2⟩ := k
  by_cases e : a = b
  · subst e; exact ⟨by omega, k2⟩
  · have := t.nest a b ha (by omega) h2
    exact ⟨by omega, by omega⟩
theorem An.parent {E : Nat → Nd} {N a i : Nat} (t : Tr E N) (hi : i < N) (h : An E a i) (hne : a ≠ i) : ∃ p : Nat, (E i).parent = p ∧ p < i ∧ An E a p ∧ An E p i := by
  obtain ⟨h1, h2⟩ := h
  have h3 := t.par a i (by omega) (by omega) h2
  rcases t.up i hi with h4 | ⟨p, h4, h5, h6⟩
  · omega
  · exact ⟨p, h4, h5, ⟨by omega, by omega⟩, ⟨by omega, h6⟩⟩
theorem An.both {E : Nat → Nd} {a b i : Nat} (h : An E a i) (k : An E b i) (hab : a ≤ b) : An E a b := ⟨hab, Nat.le_trans k.1 h.2⟩
/-- the node without a parent that a node is within -/
def Rt (E : Nat → Nd) (r i : Nat) : Prop := An E r i ∧ (E r).parent = -1
theorem Rt.ex {E : Nat → Nd} {N : Nat} (t : Tr E N) : ∀ i, i < N → ∃ r, Rt E r i := by
  intro i
  induction i using Nat.strongRecOn with
  | ind i ih =>
    intro hi
    rcases t.up i hi with h4 | ⟨p, h4, h5, h6⟩
    · exact ⟨i, An.refl E i, h4⟩
    · obtain ⟨r, h7, h8⟩ := ih p h5 (by omega)
      exact ⟨r, An.trans t (by have := h7.1; omega) h7 ⟨by omega, h6⟩, h8⟩
theorem Rt.one {E : Nat → Nd} {N r s i : Nat} (t : Tr E N) (hi : i < N) (h : Rt E r i) (k : Rt E s i) : r = s := by
  obtain ⟨h1, h2⟩ := h
  obtain ⟨k1, k2⟩ := k
  rcases Nat.lt_trichotomy r s with g | g | g
  · obtain ⟨p, q1, _⟩ := An.parent t (by have := k1.1; omega) (An.both h1 k1 (by omega)) (by omega)
    omega
  · exact g
  · obtain ⟨p, q1, _⟩ := An.parent t (by have := h1.1; omega) (An.both k1 h1 (by omega)) (by omega)
    omega
theorem Rt.of_an {E : Nat → Nd} {N r a i : Nat} (t : Tr E N) (hi : i < N) (h : Rt E r i) (k : An E a i) : An E r a := by
  by_cases e : r ≤ a
  · exact An.both h.1 k e
  · obtain ⟨p, q1, _⟩ := An.parent t (by have := h.1.1; omega) (An.both k h.1 (by omega)) (by omega)
    have := h.2
    omega

/-- is a node on an axis of another one? -/
def onA (E : Nat → Nd) (n : Nat) (axis : Int) (i : Nat) : Prop :=
  if axis = 1 then (E i).parent = n ∧ (E i).kind ≠ 2
  else if axis = 2 then (n < i ∧ i ≤ n + zN E n) ∧ (E i).kind ≠ 2
  else if axis = 3 then i = n ∨ ((n < i ∧ i ≤ n + zN E n) ∧ (E i).kind ≠ 2)
  else if axis = 4 then i = n
  else if axis = 5 then (E n).parent = i
  else if axis = 6 then i < n ∧ n ≤ i + zN E i
  else if axis = 7 then i = n ∨ (i < n ∧ n ≤ i + zN E i)
  else if axis = 8 then ((∃ r, Rt E r i ∧ Rt E r n) ∧ n + zN E n < i) ∧ (E i).kind ≠ 2
  else if axis = 9 then ((∃ r, Rt E r i ∧ Rt E r n) ∧ i + zN E i < n) ∧ (E i).kind ≠ 2
  else if axis = 10 then ((((0 : Int) ≤ (E n).parent ∧ (E i).parent = (E n).parent) ∧ n < i) ∧ (E i).kind ≠ 2) ∧ (E n).kind ≠ 2
  else if axis = 11 then ((((0 : Int) ≤ (E n).parent ∧ (E i).parent = (E n).parent) ∧ i < n) ∧ (E i).kind ≠ 2) ∧ (E n).kind ≠ 2
  else (E i).parent = n ∧ (E i).kind = 2
/-- .. of one of some -/
def onAny (E : Nat → Nd) (N : Nat) (C : List Nat) (axis : Int) (i : Nat) : Prop := i < N ∧ ∃ c ∈ C, onA E c axis i

/-- a place in the row of a node's children: one of them, or behind them all -/
def Row1 (E : Nat → Nd) (p n : Nat) : Prop := p < n ∧ (n = p + zN E p + 1 ∨ (n ≤ p + zN E p ∧ (E n).parent = (p : Int)))
theorem Row1.start {E : Nat → Nd} {N p : Nat} (t : Tr E N) (hp : p < N) : Row1 E p (p + 1) := by
  refine ⟨by omega, ?_⟩
  by_cases h : 1 ≤ zN E p
  · exact .inr ⟨by omega, t.first p hp h⟩
  · exact .inl (by omega)
theorem Row1.step {E : Nat → Nd} {N p n : Nat} (t : Tr E N) (hp : p < N) (h : Row1 E p n) (hn : n ≤ p + zN E p) : (E n).parent = (p : Int) ∧ Row1 E p (n + zN E n + 1) := by
  obtain ⟨h1, h2⟩ := h
  have h3 : (E n).parent = (p : Int) := by rcases h2 with h2 | ⟨_, h2⟩ <;> omega
  refine ⟨h3, by omega, ?_⟩
  have h4 := t.nest p n hp h1 hn
  by_cases e : n + zN E n + 1 ≤ p + zN E p
  · exact .inr ⟨e, by have := t.next p n hp h1 h3 (by omega); rwa [show n + 1 + zN E n = n + zN E n + 1 by omega] at this⟩
  · exact .inl (by omega)
theorem Row1.of {E : Nat → Nd} {N p n : Nat} (t : Tr E N) (hn : n < N) (h : (E n).parent = (p : Int)) : Row1 E p n := by
  rcases t.up n hn with h4 | ⟨q, h4, h5, h6⟩
  · omega
  · obtain rfl : q = p := by omega
    exact ⟨h5, .inr ⟨h6, h⟩⟩
/-- none of a row stands within one of it -/
theorem row_between {E : Nat → Nd} {N p n i : Nat} (t : Tr E N) (hn : n < N) (hpn : p < n) (h1 : n < i) (h2 : i ≤ n + zN E n) : (E i).parent ≠ (p : Int) := by
  have := t.par n i hn h1 h2
  omega
end Go.Proofs.YtnfljohddpadhaaDoor
