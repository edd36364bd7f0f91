/-
  ESCAPING, PLAINLY; the table of package xml in memory.
-/
import Derived.Test.YtogmjonbmlkahaaDoorBuild
import Derived.Test.YtogmjonbmlkahaaDoorPlain
import Derived.Test.YtogmjonbmlkahaaDoorRows
import Derived.ProofKit
import Derived.OpenShut
import Derived.Lib.LaidU8
import Derived.ChangeSame
import Derived.Laws.Rows
import Derived.WalkKit
import Derived.WalkSpells
import Derived.WalkLawsBesides
import Derived.Outline
set_option linter.unusedVariables false
namespace Go.Proofs.YtogmjonbmlkahaaDoor
open Go.RowKit

/-- what stands for a byte -/
def esc1 (c : UInt8) : List UInt8 :=
  if c = 38 then [38, 97, 109, 112, 59] else if c = 60 then [38, 108, 116, 59] else if c = 62 then [38, 103, 116, 59] else if c = 34 then [38, 113, 117, 111, 116, 59] else [c]
def escL (l : List UInt8) : List UInt8 := l.flatMap esc1
theorem esc1_len (c : UInt8) : (esc1 c).length ≤ 6 := by
  unfold esc1
  repeat' split
  all_goals simp
theorem escL_len : ∀ l : List UInt8, (escL l).length ≤ 6 * l.length
  | [] => by simp [escL]
  | c :: l => by
    have := escL_len l
    have := esc1_len c
    simp [escL] at *
    omega
theorem escL_snoc (l : List UInt8) (c : UInt8) : escL (l ++ [c]) = escL l ++ esc1 c := by simp [escL]

def bstr (l : List UInt8) : Value := .string ⟨l.toArray⟩
/-- the cells of the table -/
abbrev escCells : Array Value := #[.int .u8 38, .string ⟨#[38, 97, 109, 112, 59]⟩, .int .u8 60, .string ⟨#[38, 108, 116, 59]⟩, .int .u8 62, .string ⟨#[38, 103, 116, 59]⟩, .int .u8 34, .string ⟨#[38, 113, 117, 111, 116, 59]⟩]
def EscTab (w : World) : Prop := ∃ t fr, w.heap[0]? = some (.cells escCells t fr)
theorem EscTab.below {w w' : World} {B : Nat} (h : EscTab w) (hb : Below B w w') (hB : 0 < B) : EscTab w' := by
  obtain ⟨t, fr, h⟩ := h
  exact ⟨t, fr, (hb.block 0 hB).trans h⟩

def tab (k : Nat) : UInt8 := if k = 0 then 38 else if k = 1 then 60 else if k = 2 then 62 else 34
theorem toNat_ne {c d : UInt8} (h : ¬ c = d) : (((d.toNat : Nat) : Int) == (c.toNat : Int)) = false := by
  rw [beq_eq_false_iff_ne]
  intro e
  exact h (UInt8.toNat_inj.1 (by omega))
theorem esc1_hit {k : Nat} (c : UInt8) (hk : k < 4) (h : c = tab k) : esc1 c = if k = 0 then [38, 97, 109, 112, 59] else if k = 1 then [38, 108, 116, 59] else if k = 2 then [38, 103, 116, 59] else [38, 113, 117, 111, 116, 59] := by
  subst h
  match k, hk with
  | 0, _ => rfl
  | 1, _ => rfl
  | 2, _ => rfl
  | 3, _ => rfl
theorem esc1_miss {c : UInt8} (h : ∀ j, j < 4 → ¬ c = tab j) : esc1 c = [c] := by
  have h0 : ¬ c = 38 := h 0 (by omega)
  have h1 : ¬ c = 60 := h 1 (by omega)
  have h2 : ¬ c = 62 := h 2 (by omega)
  have h3 : ¬ c = 34 := h 3 (by omega)
  unfold esc1
  rw [if_neg h0, if_neg h1, if_neg h2, if_neg h3]

end Go.Proofs.YtogmjonbmlkahaaDoor
