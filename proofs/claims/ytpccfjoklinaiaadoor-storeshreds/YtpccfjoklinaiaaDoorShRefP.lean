/-
  SHREDDING, PLAINLY: the document's answer goes up from a new node, one more within each.
-/
import Derived.Test.YtpccfjoklinaiaaDoorShPlain
set_option linter.unusedVariables false
namespace Go.Proofs.YtpccfjoklinaiaaDoor
open Go.RowKit

def headI : List Nat → Int
  | [] => -1
  | o :: _ => (o : Int)
theorem part_at {s : Sh} {e : Ev} {o : Nat} {r : List Nat} (hc : o < s.c) : partN s e (o :: r) o = refN s o := by
  unfold partN
  rw [if_neg (by omega), if_neg (by simp)]
theorem part_start (s : Sh) (e : Ev) (j : Nat) : partN s e s.st j = if j = s.c then newN s e else refN s j := by
  unfold partN
  by_cases h : j = s.c
  · rw [if_pos h, if_pos h]
  · rw [if_neg h, if_neg h, if_neg (fun h => h.2 h.1)]
theorem part_step {s : Sh} {e : Ev} {o : Nat} {r : List Nat} (hm : o ∈ s.st) (hn : o ∉ r) (hc : o < s.c) (j : Nat) :
    upd (partN s e (o :: r)) o (setSize (partN s e (o :: r) o) ((refN s o).size + 1)) j = partN s e r j := by
  by_cases h : j = o
  · subst h
    rw [upd_same, part_at hc]
    unfold partN
    rw [if_neg (by omega), if_pos ⟨hm, hn⟩]
  · rw [upd_other h]
    unfold partN
    by_cases h1 : j = s.c
    · rw [if_pos h1, if_pos h1]
    · rw [if_neg h1, if_neg h1]
      by_cases h2 : j ∈ s.st ∧ j ∉ r
      · rw [if_pos h2, if_pos ⟨h2.1, by simp [h, h2.2]⟩]
      · rw [if_neg h2, if_neg (fun h3 => h2 ⟨h3.1, fun h4 => h3.2 (List.mem_cons_of_mem _ h4)⟩)]
theorem part_end {s : Sh} {e : Ev} (h : ShInv s) (hk : e.kind ≠ 5) (j : Nat) (hj : j < s.c + 1) : partN s e [] j = refN (shStep s e) j := by
  rw [refN_new h hk j (by omega)]
  unfold partN
  by_cases h1 : j = s.c
  · rw [if_pos h1, if_pos h1]
  · rw [if_neg h1, if_neg h1]
    by_cases h2 : j ∈ s.st
    · rw [if_pos ⟨h2, by simp⟩, if_pos h2]
    · rw [if_neg (fun h3 => h2 h3.1), if_neg h2]
theorem links_next {N : Nat → Nd} {o : Nat} {r : List Nat} (h : Links N (o :: r)) : (N o).parent = headI r ∧ (r = [] ∨ Links N r) := by
  cases r with
  | nil => exact ⟨h.2, .inl rfl⟩
  | cons o' r => exact ⟨h.1, .inr h.2.2⟩
theorem ref_size {s : Sh} {o : Nat} (hm : o ∈ s.st) : (refN s o).size = (s.c : Int) - 1 - o := by
  unfold refN
  rw [if_pos hm]; rfl
theorem refN_zero (E : Nat → Ev) : refN (shAt E 0) 0 = ⟨6, ByteArray.empty, ByteArray.empty, 0, 0, -1⟩ := by
  unfold refN
  rw [if_pos (by simp [shAt])]
  rfl
end Go.Proofs.YtpccfjoklinaiaaDoor
