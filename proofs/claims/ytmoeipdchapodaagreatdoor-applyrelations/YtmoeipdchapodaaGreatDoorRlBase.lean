/-
  FACTS on relations that may be, on places made ahead of a call, on a relation that is new.
-/
import Derived.Test.YtmoeipdchapodaaGreatDoorRlOf
import Derived.Test.YtmoeipdchapodaaGreatDoorRlTwo
set_option linter.unusedVariables false
namespace Go.Proofs.YtmoeipdchapodaaGreatDoor
set_option maxRecDepth 100000
open Go.RowKit Go.WideShapes

theorem relF_zero {C : Nat → ByteArray} {n : Nat} {R : Nat → Row} {m : Nat} (h : relF C n R m = 0) : colsF C n = 0 ∧ m ≤ 1000000 ∧ ∀ i, i < m → rowE n R i = 0 := by
  by_cases h1 : madeF C n m = 0
  · have h2 : colsF C n = 0 := Classical.byContradiction fun h3 => by rw [madeF_cols h3] at h1; exact h3 h1
    refine ⟨h2, ?_, ?_⟩
    · rw [madeF_rows h2] at h1
      by_cases h3 : 1000000 < m
      · rw [if_pos h3] at h1; cases h1
      · omega
    · unfold relF at h
      rw [if_pos h1] at h
      exact firstE_zero h
  · rw [relF_made h1] at h
    exact absurd h h1
theorem twoF_zero {F G : Int} (h : twoF F G = 0) : F = 0 ∧ G = 0 := by
  unfold twoF at h
  by_cases h1 : F = 0
  · rw [if_pos h1] at h; exact ⟨h1, h⟩
  · rw [if_neg h1] at h; exact absurd h h1
theorem colsF_le {C : Nat → ByteArray} {n : Nat} (h : colsF C n = 0) : n ≤ 8 := by
  unfold colsF at h
  by_cases h8 : 8 < n
  · rw [if_pos h8] at h; cases h
  · omega

/-- two relations were boxed, and a place made for the result -/
theorem box3 {w wr : World} {c q c' q' x y : Value} {T : TypeId} (h : Below (w.heap.size + 3) (((w.alloc (.cells #[c, q] T)).alloc (.cells #[c', q'] T)).alloc (.cells #[x, y] T)) wr) :
    wr.cell? ⟨w.heap.size, 0, none⟩ = some c ∧ wr.cell? ⟨w.heap.size, 1, none⟩ = some q ∧ wr.cell? ⟨w.heap.size + 1, 0, none⟩ = some c' ∧ wr.cell? ⟨w.heap.size + 1, 1, none⟩ = some q' ∧
    wr.cell? ⟨w.heap.size + 1 + 1, 0, none⟩ = some x ∧ wr.cell? ⟨w.heap.size + 1 + 1, 1, none⟩ = some y ∧ wr.frozen? ⟨w.heap.size + 1 + 1, 0, none⟩ = false ∧ wr.frozen? ⟨w.heap.size + 1 + 1, 1, none⟩ = false ∧ w.heap.size + 1 + 1 < wr.heap.size := by
  have hz : ((w.alloc (.cells #[c, q] T)).alloc (.cells #[c', q'] T)).heap.size = w.heap.size + 1 + 1 := by simp
  have h2 : Below ((w.alloc (.cells #[c, q] T)).alloc (.cells #[c', q'] T)).heap.size ((w.alloc (.cells #[c, q] T)).alloc (.cells #[c', q'] T)) wr := ((Below.refl _ _).alloc (Nat.le_refl _) _).trans (h.mono (by rw [hz]; omega))
  obtain ⟨x0, x1, x2, x3, x4⟩ := box22 h2
  have h3 := resbox (w := (w.alloc (.cells #[c, q] T)).alloc (.cells #[c', q'] T)) (B := w.heap.size + 3) (by rw [hz]; omega) h
  rw [hz] at h3
  exact ⟨x0, x1, x2, x3, h3⟩
theorem below_three {w : World} (o o' o'' : Obj) : Below w.heap.size w (((w.alloc o).alloc o').alloc o'') := (below_two o o').alloc (by simp; omega) _
theorem size_three {w : World} (o o' o'' : Obj) : (((w.alloc o).alloc o').alloc o'').heap.size = w.heap.size + 3 := by simp

/-- a relation that lies wholly behind w: nothing ahead of it can turn it -/
def FreshRel (w w' : World) (c q : Value) (n m : Nat) (C : Nat → ByteArray) (R : Nat → Row) : Prop :=
  ∀ W', w'.heap.size ≤ W'.heap.size → (∀ b, w.heap.size ≤ b → b < w'.heap.size → W'.heap[b]? = w'.heap[b]?) → StrsIs W' c n C ∧ RowsIs W' q m R
theorem FreshRel.nil (w w' : World) (C : Nat → ByteArray) (R : Nat → Row) : FreshRel w w' (.slice none 0 0) (.slice none 0 0) 0 0 C R := fun W _ _ => ⟨nil_strs W C, nil_rows W R⟩
theorem FreshRel.of {w w' : World} {B T : Nat} {g : Option Nat} {c q : Value} {n m : Nat} {C : Nat → ByteArray} {R : Nat → Row} (hk : StrsKept w' B T g c n C) (hr : RowsTwo w' B T q m R) (hB : w.heap.size ≤ B) (hBT : B ≤ T) : FreshRel w w' c q n m C R := fun W hs hb =>
  ⟨(hk.keep (w' := W) (g' := g) hs (fun b h1 _ h3 h4 => ⟨hb b (by omega) h3, h4⟩)).is, (hr.keep (w' := W) hs (fun b _ h2 h3 => hb b (by omega) h3) hBT).is⟩
/-- a relation was boxed, and a place made for the result -/
theorem box2r {w wr : World} {c q x y : Value} {T : TypeId} (h : Below (w.heap.size + 2) ((w.alloc (.cells #[c, q] T)).alloc (.cells #[x, y] T)) wr) :
    wr.cell? ⟨w.heap.size, 0, none⟩ = some c ∧ wr.cell? ⟨w.heap.size, 1, none⟩ = some q ∧ wr.cell? ⟨w.heap.size + 1, 0, none⟩ = some x ∧ wr.cell? ⟨w.heap.size + 1, 1, none⟩ = some y ∧ wr.frozen? ⟨w.heap.size + 1, 0, none⟩ = false ∧ wr.frozen? ⟨w.heap.size + 1, 1, none⟩ = false ∧ w.heap.size + 1 < wr.heap.size := by
  have hz : (w.alloc (.cells #[c, q] T)).heap.size = w.heap.size + 1 := by simp
  have h2 : Below (w.heap.size + 1) (w.alloc (.cells #[c, q] T)) wr := ((Below.refl _ _).alloc (by rw [hz]; omega) _).trans (h.mono (by omega))
  obtain ⟨x0, x1, _, _, _⟩ := resbox (Nat.lt_succ_self _) h2
  have h3 := resbox (w := w.alloc (.cells #[c, q] T)) (B := w.heap.size + 2) (by rw [hz]; omega) h
  rw [hz] at h3
  exact ⟨x0, x1, h3⟩
end Go.Proofs.YtmoeipdchapodaaGreatDoor
