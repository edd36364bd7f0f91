/-
  CONTRACTS of package core: clauses, ahead of their expressions (checkFirst, checkClauses).
-/
import Derived.Test.YtcbpjgnbdpfiiaaGreatDoorCkSmall
import Derived.Test.YtcbpjgnbdpfiiaaGreatDoorTkCheck
import Derived.Deep.QuietTactic
import Derived.BigQuiet
set_option linter.unusedVariables false
namespace Go.Proofs.YtcbpjgnbdpfiiaaGreatDoor
set_option maxRecDepth 100000
open Go.RowKit Go.WideShapes

theorem hidC {p : Prop} (h : p) : Hid p := h
theorem aOld {w : World} {o x : Obj} {b : Nat} (h : w.heap[b]? = some x) : (w.alloc o).heap[b]? = some x := (Below.heap_alloc w o b (Array.getElem?_eq_some_iff.1 h).1).trans h
theorem aNew {w : World} {o : Obj} {g : Nat} (hg : w.heap.size = g) : (w.alloc o).heap[g]? = some o := by subst hg; exact heap_alloc_new w o
theorem sOth {w : World} {b j c : Nat} {v : Value} {x : Obj} (h : w.heap[c]? = some x) (hn : c ≠ b) : (w.setCell ⟨b, j, none⟩ v).heap[c]? = some x := (Below.heap_setCell _ _ _ _ hn).trans h
theorem blC {w w' : World} {B b : Nat} {o : Obj} (hb : Below B w w') (hB : b < B) (h : w.heap[b]? = some o) : w'.heap[b]? = some o := (hb.block b hB).trans h
/-- the cells of a clause, ahead of its expression -/
structure ClAt (w : World) (b off : Nat) (k : Int) (nm a : ByteArray) : Prop where
  c0 : w.cell? ⟨b, off, none⟩ = some (.int .i64 k)
  c1 : w.cell? ⟨b, off + 1, none⟩ = some (.string nm)
  c2 : w.cell? ⟨b, off + 2, none⟩ = some (.string a)
  s1 : nm.size ≤ maxLen
  s2 : a.size ≤ maxLen
theorem ClAt.below {w w' : World} {B b off : Nat} {k : Int} {nm a : ByteArray} (h : ClAt w b off k nm a) (hb : Below B w w') (hB : b < B) : ClAt w' b off k nm a :=
  have e := fun o => hb.cell (p := ⟨b, o, none⟩) hB
  ⟨(e _).trans h.c0, (e _).trans h.c1, (e _).trans h.c2, h.s1, h.s2⟩
end Go.Proofs.YtcbpjgnbdpfiiaaGreatDoor
