/-
  THE ORDER OF ITEMS: what holds of any three of them.
-/
import Derived.Test.YtlblomlblibbdaaDoorRlCmp
import Derived.Test.YtlblomlblibbdaaDoorRlPlain
set_option linter.unusedVariables false
namespace Go.Proofs.YtlblomlblibbdaaDoor
open Go.RowKit

theorem less_list : ∀ x y : List UInt8, Op.bytesLess x y = true ↔ x < y
  | [], [] => by simp [Op.bytesLess]
  | [], y :: ys => by simp [Op.bytesLess]
  | x :: xs, [] => by simp [Op.bytesLess]
  | x :: xs, y :: ys => by
    have ih := less_list xs ys
    unfold Op.bytesLess
    rw [List.cons_lt_cons_iff]
    by_cases h1 : x < y
    · simp [h1]
    · by_cases h2 : x = y
      · subst h2; simp [h1, ih]
      · simp [h1, h2]
/-- one stands ahead -/
def Ahead (x y : It) : Prop := x.kind < y.kind ∨ (x.kind = y.kind ∧ (x.n < y.n ∨ (x.n = y.n ∧ x.s.toList < y.s.toList)))
def cmpT (x y : It) : Int := cmpI x.kind x.n x.s y.kind y.n y.s
theorem less_ahead (x y : It) : lessI x.kind x.n x.s y.kind y.n y.s = true ↔ Ahead x y := by
  unfold lessI Ahead
  by_cases hk : x.kind = y.kind
  · rw [if_pos hk]
    by_cases hn : x.n = y.n
    · rw [if_pos hn, less_list]
      constructor
      · intro h; exact .inr ⟨hk, .inr ⟨hn, h⟩⟩
      · rintro (h | ⟨_, h | ⟨_, h⟩⟩)
        · omega
        · omega
        · exact h
    · rw [if_neg hn, decide_eq_true_eq]
      constructor
      · intro h; exact .inr ⟨hk, .inl h⟩
      · rintro (h | ⟨_, h | ⟨h, _⟩⟩)
        · omega
        · exact h
        · exact absurd h hn
  · rw [if_neg hk, decide_eq_true_eq]
    constructor
    · intro h; exact .inl h
    · rintro (h | ⟨h, _⟩)
      · exact h
      · exact absurd h hk
theorem list_tri (a b : List UInt8) : a < b ∨ a = b ∨ b < a := by
  by_cases h1 : a < b
  · exact .inl h1
  · by_cases h2 : b < a
    · exact .inr (.inr h2)
    · exact .inr (.inl (List.le_antisymm h2 h1))
theorem it_ext {x y : It} (h1 : x.kind = y.kind) (h2 : x.n = y.n) (h3 : x.s.toList = y.s.toList) : x = y := by
  cases x; cases y
  simp only at h1 h2 h3
  subst h1 h2
  congr 1
  rw [ByteArray.toList_eq, ByteArray.toList_eq] at h3
  exact ByteArray.ext (Array.toList_inj.1 h3)
theorem ahead_tri (x y : It) : Ahead x y ∨ x = y ∨ Ahead y x := by
  rcases Int.lt_trichotomy x.kind y.kind with h | h | h
  · exact .inl (.inl h)
  · rcases Int.lt_trichotomy x.n y.n with h' | h' | h'
    · exact .inl (.inr ⟨h, .inl h'⟩)
    · rcases list_tri x.s.toList y.s.toList with h'' | h'' | h''
      · exact .inl (.inr ⟨h, .inr ⟨h', h''⟩⟩)
      · exact .inr (.inl (it_ext h h' h''))
      · exact .inr (.inr (.inr ⟨h.symm, .inr ⟨h'.symm, h''⟩⟩))
    · exact .inr (.inr (.inr ⟨h.symm, .inl h'⟩))
  · exact .inr (.inr (.inl h))
theorem ahead_irr (x : It) : ¬ Ahead x x := by
  rintro (h | ⟨_, h | ⟨_, h⟩⟩)
  · omega
  · omega
  · exact List.lt_irrefl _ h
theorem ahead_trans {x y z : It} (h : Ahead x y) (h' : Ahead y z) : Ahead x z := by
  rcases h with h | ⟨h1, h⟩ <;> rcases h' with h' | ⟨h1', h'⟩
  · exact .inl (by omega)
  · exact .inl (by omega)
  · exact .inl (by omega)
  · refine .inr ⟨by omega, ?_⟩
    rcases h with h | ⟨h2, h⟩ <;> rcases h' with h' | ⟨h2', h'⟩
    · exact .inl (by omega)
    · exact .inl (by omega)
    · exact .inl (by omega)
    · exact .inr ⟨by omega, List.lt_trans h h'⟩
theorem cmpT_lt {x y : It} (h : Ahead x y) : cmpT x y = -1 := by
  unfold cmpT; rw [cmp_less, if_pos ((less_ahead x y).2 h)]
theorem cmpT_gt {x y : It} (h : Ahead y x) : cmpT x y = 1 := by
  unfold cmpT
  rw [cmp_less, if_neg (fun e => ahead_irr x (ahead_trans ((less_ahead x y).1 e) h)), if_pos ((less_ahead y x).2 h)]
theorem cmpT_eq (x : It) : cmpT x x = 0 := by
  unfold cmpT
  rw [cmp_less, if_neg (fun e => ahead_irr x ((less_ahead x x).1 e)), if_neg (fun e => ahead_irr x ((less_ahead x x).1 e))]
/-- of three, too -/
theorem cmpT_three (x y z : It) : ¬ (cmpT x y ≤ 0 ∧ cmpT y z ≤ 0 ∧ 0 < cmpT x z) := by
  rintro ⟨h1, h2, h3⟩
  rcases ahead_tri x y with a | rfl | a
  · rcases ahead_tri y z with b | rfl | b
    · rw [cmpT_lt (ahead_trans a b)] at h3; omega
    · omega
    · rw [cmpT_gt b] at h2; omega
  · omega
  · rw [cmpT_gt a] at h1; omega
end Go.Proofs.YtlblomlblibbdaaDoor
