/-
  CONTRACTS: one list copied; a relation of columns and rows (relOf); two relations checked (checkBoth, twoFault).
-/
import Derived.Test.YtfgiocpgeainjaaDoorRlLists
set_option linter.unusedVariables false
namespace Go.Proofs.YtfgiocpgeainjaaDoor
set_option maxRecDepth 100000
open Go.RowKit Go.WideShapes

theorem one_at {w : World} {b off : Nat} {u : Value} (h : w.cell? ⟨b, off, none⟩ = some u) : ∀ i, i < 1 → w.cell? ⟨b, off + i, none⟩ = some u := by
  intro i hi
  obtain rfl : i = 0 := by omega
  exact h
theorem oneI {w : World} {base : Nat} {v : Value} {R : Nat → Row} (h : w.ownsRow base 33 3 v (catI R 1).len (itCells (catI R 1).at_ (catI R 1).len)) : w.ownsRow base 33 3 v (R 0).len (itCells (R 0).at_ (R 0).len) := by
  have e : itCells (catI R 1).at_ (catI R 1).len = itCells (R 0).at_ (R 0).len := (cells_appI (catI R 0) (R 0)).trans (List.nil_append _)
  rw [e, show (catI R 1).len = (R 0).len from Nat.zero_add _] at h
  exact h
theorem oneS {w : World} {base : Nat} {v : Value} {R : Nat → Txts} (h : w.ownsRow base 9 1 v (catS R 1).len (strCells (catS R 1).at_ (catS R 1).len)) : w.ownsRow base 9 1 v (R 0).len (strCells (R 0).at_ (R 0).len) := by
  have e : strCells (catS R 1).at_ (catS R 1).len = strCells (R 0).at_ (R 0).len := (cells_appS (catS R 0) (R 0)).trans (List.nil_append _)
  rw [e, show (catS R 1).len = (R 0).len from Nat.zero_add _] at h
  exact h
/-- a relation's place was made for the result -/
theorem resbox {w wr : World} {x y : Value} {T : TypeId} {B : Nat} (hB : w.heap.size < B) (h : Below B (w.alloc (.cells #[x, y] T)) wr) :
    wr.cell? ⟨w.heap.size, 0, none⟩ = some x ∧ wr.cell? ⟨w.heap.size, 1, none⟩ = some y ∧ wr.frozen? ⟨w.heap.size, 0, none⟩ = false ∧ wr.frozen? ⟨w.heap.size, 1, none⟩ = false ∧ w.heap.size < wr.heap.size := by
  have hs := h.size
  simp at hs
  refine ⟨(h.cell (p := ⟨w.heap.size, 0, none⟩) hB).trans ?_, (h.cell (p := ⟨w.heap.size, 1, none⟩) hB).trans ?_, (h.frozen (p := ⟨w.heap.size, 0, none⟩) hB).trans ?_, (h.frozen (p := ⟨w.heap.size, 1, none⟩) hB).trans ?_, by omega⟩ <;> simp
theorem nil_from (w : World) (base : Nat) (C : Nat → ByteArray) : StrsFrom w base (.slice none 0 0) 0 C := ⟨none, 0, rfl, Nat.le_refl _, Nat.zero_le _, fun _ => rfl, fun h => absurd h (Nat.lt_irrefl _)⟩
theorem StrsFrom.weaken {w : World} {base base' : Nat} {v : Value} {n : Nat} {C : Nat → ByteArray} (h : StrsFrom w base v n C) (hb : base' ≤ base) : StrsFrom w base' v n C := by
  obtain ⟨a, cap, h1, h2, h3, hn, h4⟩ := h
  refine ⟨a, cap, h1, h2, h3, hn, fun h0 => ?_⟩
  obtain ⟨b, off, h5, h6, h7, h8⟩ := h4 h0
  exact ⟨b, off, h5, h6, by omega, h8⟩
theorem nil_strs (w : World) (C : Nat → ByteArray) : StrsIs w (.slice none 0 0) 0 C := ⟨none, 0, rfl, Nat.le_refl _, Nat.zero_le _, fun _ => rfl, fun h => absurd h (Nat.lt_irrefl _)⟩
theorem nil_rows (w : World) (R : Nat → Row) : RowsIs w (.slice none 0 0) 0 R := ⟨none, 0, rfl, Nat.le_refl _, Nat.zero_le _, fun _ => rfl, fun h => absurd h (Nat.lt_irrefl _)⟩
/-- what is kept if all is well -/
def keptV (F : Int) (q : Value) : Value := if F = 0 then q else .slice none 0 0
/-- how many there are if all is well -/
def okN (F : Int) (n : Nat) : Nat := if F = 0 then n else 0

/-- what is said of two relations -/
def twoF (F G : Int) : Int := if F = 0 then G else F
end Go.Proofs.YtfgiocpgeainjaaDoor
