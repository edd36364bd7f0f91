/-
  FACTS on later worlds, on copies and on places that are kept: for the laws.
-/
import Derived.Test.YtlblomlblibbdaaDoorRlSame
import Derived.Test.YtlblomlblibbdaaDoorRlBase
import Derived.Deep.RegionHeld3
import Derived.Sort.AtCall
set_option linter.unusedVariables false
namespace Go.Proofs.YtlblomlblibbdaaDoor
set_option maxRecDepth 100000
open Go.RowKit Go.WideShapes

/-- a relation lies there -/
def CopyIs (W : World) (c q : Value) (n m : Nat) (C : Nat → ByteArray) (R : Nat → Row) : Prop := StrsIs W c n C ∧ RowsIs W q m R
/-- a later world -/
def Chain (w w' : World) : Prop := Below w.heap.size w w'
theorem Chain.refl (w : World) : Chain w w := Below.refl _ _
theorem Chain.trans {a b c : World} (h : Chain a b) (h' : Chain b c) : Chain a c := Below.trans h (Below.mono h' (Below.size h))
theorem Chain.alloc {a b : World} (h : Chain a b) (o : Obj) : Chain a (b.alloc o) := Below.alloc h (Below.size h) o
theorem Chain.setCell {a b : World} (h : Chain a b) {p : Addr} (hp : a.heap.size ≤ p.block) (u : Value) : Chain a (b.setCell p u) := Below.setCell h hp u
theorem Chain.drew {a b : World} (h : Chain a b) : Chain a b.drew := Below.drew h
theorem CopyIs.chain {w w' : World} {c q : Value} {n m : Nat} {C : Nat → ByteArray} {R : Nat → Row} (h : CopyIs w c q n m C R) (hb : Chain w w') : CopyIs w' c q n m C R := ⟨h.1.below hb, h.2.below hb⟩
theorem CopyIs.alloc {w : World} {c q : Value} {n m : Nat} {C : Nat → ByteArray} {R : Nat → Row} (h : CopyIs w c q n m C R) (o : Obj) : CopyIs (w.alloc o) c q n m C R := h.chain ((Chain.refl _).alloc o)
/-- a place for a result was made -/
theorem boxed {w wr : World} {T : TypeId} (h : Chain (w.alloc (.cells #[.slice none 0 0, .slice none 0 0] T)) wr) :
    wr.cell? ⟨w.heap.size, 0, none⟩ = some (.slice none 0 0) ∧ wr.cell? ⟨w.heap.size, 1, none⟩ = some (.slice none 0 0) ∧ wr.frozen? ⟨w.heap.size, 0, none⟩ = false ∧ wr.frozen? ⟨w.heap.size, 1, none⟩ = false ∧ w.heap.size < wr.heap.size := resbox (by simp) h
theorem boxed0 {w wr : World} {o o' : Obj} {T : TypeId} (h : Chain (((w.alloc o).alloc o').alloc (.cells #[.slice none 0 0, .slice none 0 0] T)).drew wr) :
    wr.cell? ⟨w.heap.size + 1 + 1, 0, none⟩ = some (.slice none 0 0) ∧ wr.cell? ⟨w.heap.size + 1 + 1, 1, none⟩ = some (.slice none 0 0) ∧ wr.frozen? ⟨w.heap.size + 1 + 1, 0, none⟩ = false ∧ wr.frozen? ⟨w.heap.size + 1 + 1, 1, none⟩ = false ∧ w.heap.size + 1 + 1 < wr.heap.size := by
  have k := boxed ((Chain.refl (((w.alloc o).alloc o').alloc (.cells #[.slice none 0 0, .slice none 0 0] T))).drew.trans h)
  rwa [show ((w.alloc o).alloc o').heap.size = w.heap.size + 1 + 1 by simp] at k
theorem carried {w wr : World} {b : Nat} (h : Chain w wr) (z0 : w.cell? ⟨b, 0, none⟩ = some (.slice none 0 0)) (z1 : w.cell? ⟨b, 1, none⟩ = some (.slice none 0 0)) (z2 : w.frozen? ⟨b, 0, none⟩ = false) (z3 : w.frozen? ⟨b, 1, none⟩ = false) (z4 : b < w.heap.size) :
    wr.cell? ⟨b, 0, none⟩ = some (.slice none 0 0) ∧ wr.cell? ⟨b, 1, none⟩ = some (.slice none 0 0) ∧ wr.frozen? ⟨b, 0, none⟩ = false ∧ wr.frozen? ⟨b, 1, none⟩ = false ∧ b < wr.heap.size :=
  ⟨(Below.cell h (p := ⟨b, 0, none⟩) z4).trans z0, (Below.cell h (p := ⟨b, 1, none⟩) z4).trans z1, (Below.frozen h (p := ⟨b, 0, none⟩) z4).trans z2, (Below.frozen h (p := ⟨b, 1, none⟩) z4).trans z3, Nat.lt_of_lt_of_le z4 (Below.size h)⟩
/-- what was stored there -/
theorem kept2 {w wr : World} {b : Nat} {x y x0 y0 : Value} (h : Chain ((w.setCell ⟨b, 0, none⟩ x).setCell ⟨b, 1, none⟩ y) wr) (z0 : w.cell? ⟨b, 0, none⟩ = some x0) (z1 : w.cell? ⟨b, 1, none⟩ = some y0) (z4 : b < w.heap.size) :
    wr.cell? ⟨b, 0, none⟩ = some x ∧ wr.cell? ⟨b, 1, none⟩ = some y ∧ b < wr.heap.size ∧ ¬ b = wr.heap.size ∧ ¬ wr.heap.size = b := by
  have hs := Below.size h
  simp at hs
  refine ⟨(Below.cell h (p := ⟨b, 0, none⟩) (by simpa using z4)).trans ?_, (Below.cell h (p := ⟨b, 1, none⟩) (by simpa using z4)).trans ?_, by omega, by omega, by omega⟩ <;> simp [go_sem, z0, z1]
theorem fresh_old {Wu w3 w4 : World} {b : Nat} {x y c q : Value} {n m : Nat} {C : Nat → ByteArray} {R : Nat → Row} (h : FreshRel Wu w3 c q n m C R) (hb : b < Wu.heap.size) (h4 : Chain ((w3.setCell ⟨b, 0, none⟩ x).setCell ⟨b, 1, none⟩ y) w4) : CopyIs w4 c q n m C R := by
  have hs := Below.size h4
  simp at hs
  refine h w4 hs (fun k hk hk' => (Below.block h4 k (by simpa using hk')).trans ?_)
  rw [Below.heap_setCell _ _ _ _ (by simp; omega), Below.heap_setCell _ _ _ _ (by simp; omega)]
theorem fresh_new {Wu w3 w4 : World} {o : Obj} {c q : Value} {n m : Nat} {C : Nat → ByteArray} {R : Nat → Row} (h : FreshRel Wu w3 c q n m C R) (h4 : Chain (w3.alloc o) w4) : CopyIs w4 c q n m C R := by
  have hs := Below.size h4
  simp at hs
  refine h w4 (by omega) (fun k hk hk' => (Below.block h4 k (by simp; omega)).trans ?_)
  exact ((Below.refl w3.heap.size w3).alloc (Nat.le_refl _) o).block k hk'
theorem kept_new {w wr : World} {x y : Value} {T : TypeId} (h : Chain (w.alloc (.cells #[x, y] T)) wr) :
    wr.cell? ⟨w.heap.size, 0, none⟩ = some x ∧ wr.cell? ⟨w.heap.size, 1, none⟩ = some y ∧ w.heap.size < wr.heap.size ∧ ¬ w.heap.size = wr.heap.size ∧ ¬ wr.heap.size = w.heap.size := by
  obtain ⟨h0, h1, _, _, h2⟩ := resbox (by simp) h
  exact ⟨h0, h1, h2, by omega, by omega⟩
theorem boxed1 {w wr : World} {o : Obj} {T : TypeId} (h : Chain ((w.alloc o).alloc (.cells #[.slice none 0 0, .slice none 0 0] T)).drew wr) :
    wr.cell? ⟨w.heap.size + 1, 0, none⟩ = some (.slice none 0 0) ∧ wr.cell? ⟨w.heap.size + 1, 1, none⟩ = some (.slice none 0 0) ∧ wr.frozen? ⟨w.heap.size + 1, 0, none⟩ = false ∧ wr.frozen? ⟨w.heap.size + 1, 1, none⟩ = false ∧ w.heap.size + 1 < wr.heap.size := by
  have k := boxed ((Chain.refl ((w.alloc o).alloc (.cells #[.slice none 0 0, .slice none 0 0] T))).drew.trans h)
  rwa [show (w.alloc o).heap.size = w.heap.size + 1 by simp] at k
theorem strs_chain {w w' : World} {v : Value} {n : Nat} {C : Nat → ByteArray} (h : StrsIs w v n C) (hb : Chain w w') : StrsIs w' v n C := h.below hb
end Go.Proofs.YtlblomlblibbdaaDoor
