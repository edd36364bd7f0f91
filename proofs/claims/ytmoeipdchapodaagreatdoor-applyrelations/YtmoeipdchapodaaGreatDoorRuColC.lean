/-
  CONTRACTS of package run at a plan of two ops, a table and a function of its two columns: what an op is made of.
-/
import Derived.Test.YtmoeipdchapodaaGreatDoorRuCol
import Derived.Deep.QuietTactic
import Derived.Deep.Cut
import Derived.BigQuiet
import Derived.Deep.RegionLaw
import Derived.Laws.EntriesVeiled
set_option linter.unusedVariables false
namespace Go.Proofs.YtmoeipdchapodaaGreatDoor
set_option maxRecDepth 100000
open Go.RowKit Go.WideShapes

/-- the cells of the plan -/
theorem PlS.cells {w : World} {pb cb qb rb ib rcap : Nat} {x y : It} {fn : ByteArray} (h : PlS w pb cb qb rb ib rcap x y fn) : pb < w.heap.size ∧ w.cell? ⟨pb, 0, none⟩ = some (.int .i64 1) ∧ w.cell? ⟨pb, 1, none⟩ = some (.slice none 0 0) ∧ w.cell? ⟨pb, 2, none⟩ = some (.string ⟨#[]⟩) ∧ w.cell? ⟨pb, 3, none⟩ = some (.slice none 0 0) ∧ w.cell? ⟨pb, 4, none⟩ = some (.slice none 0 0) ∧ w.cell? ⟨pb, 5, none⟩ = some (.string ⟨#[]⟩) ∧ w.cell? ⟨pb, 6, none⟩ = some (.string ⟨#[]⟩) ∧ w.cell? ⟨pb, 7, none⟩ = some (.int .i64 0) ∧ w.cell? ⟨pb, 8, none⟩ = some (.int .i64 0) ∧ w.cell? ⟨pb, 9, none⟩ = some (.int .i64 0) ∧ w.cell? ⟨pb, 10, none⟩ = some (.string ⟨#[]⟩) ∧ w.cell? ⟨pb, 11, none⟩ = some (.slice (some ⟨cb, 0, none⟩) 2 3) ∧ w.cell? ⟨pb, 12, none⟩ = some (.slice (some ⟨qb, 0, none⟩) 1 1) ∧ w.cell? ⟨pb, 13, none⟩ = some (.int .i64 11) ∧ w.cell? ⟨pb, 14, none⟩ = some (.slice (some ⟨ib, 0, none⟩) 1 1) ∧ w.cell? ⟨pb, 15, none⟩ = some (.string ⟨#[118]⟩) ∧ w.cell? ⟨pb, 16, none⟩ = some (.slice (some ⟨cb, 0, none⟩) 2 3) ∧ w.cell? ⟨pb, 17, none⟩ = some (.slice none 0 0) ∧ w.cell? ⟨pb, 18, none⟩ = some (.string ⟨#[]⟩) ∧ w.cell? ⟨pb, 19, none⟩ = some (.string fn) ∧ w.cell? ⟨pb, 20, none⟩ = some (.int .i64 0) ∧ w.cell? ⟨pb, 21, none⟩ = some (.int .i64 0) ∧ w.cell? ⟨pb, 22, none⟩ = some (.int .i64 0) ∧ w.cell? ⟨pb, 23, none⟩ = some (.string ⟨#[]⟩) ∧ w.cell? ⟨pb, 24, none⟩ = some (.slice none 0 0) ∧ w.cell? ⟨pb, 25, none⟩ = some (.slice none 0 0) := by
  have k := fun j => Lib.cell_of_heap h.plan j
  exact ⟨(Array.getElem?_eq_some_iff.1 h.plan).1, by rw [k 0]; rfl, by rw [k 1]; rfl, by rw [k 2]; rfl, by rw [k 3]; rfl, by rw [k 4]; rfl, by rw [k 5]; rfl, by rw [k 6]; rfl, by rw [k 7]; rfl, by rw [k 8]; rfl, by rw [k 9]; rfl, by rw [k 10]; rfl, by rw [k 11]; rfl, by rw [k 12]; rfl, by rw [k 13]; rfl, by rw [k 14]; rfl, by rw [k 15]; rfl, by rw [k 16]; rfl, by rw [k 17]; rfl, by rw [k 18]; rfl, by rw [k 19]; rfl, by rw [k 20]; rfl, by rw [k 21]; rfl, by rw [k 22]; rfl, by rw [k 23]; rfl, by rw [k 24]; rfl, by rw [k 25]; rfl⟩
set_option maxHeartbeats 1600000 in
theorem inputsOf_none (pb cb qb rb ib rcap : Nat) (x y : It) (fn : ByteArray) (tv : Value) (w : World) (h : PlS w pb cb qb rb ib rcap x y fn) :
    Calls Tryz.prog 23 #[.pointer (some ⟨pb, 0, none⟩), tv] w fun e w' => e = .returned (.slice (some ⟨w.heap.size, 0, none⟩) 0 0) ∧ Below w.heap.size w w' := by
  obtain ⟨hpb, d0, d1, _⟩ := h.cells
  have hmk := mk_rels0
  clear h
  go_enter Tryz.func23, Tryz.ntmps23
  go_wp2
  refine LoopN.wp 1 (LoopN.next ?_)
  go_wp2
  go_ret
  exact ⟨rfl, (Below.refl _ _).alloc (Nat.le_refl _) _⟩
set_option maxHeartbeats 1600000 in
theorem inputsOf_one (pb cb qb rb ib rcap : Nat) (x y : It) (fn : ByteArray) (tb : Nat) (ca qa : Option Addr) (cn ck qn qk : Nat) (w : World) (h : PlS w pb cb qb rb ib rcap x y fn) (htb : tb < w.heap.size) (t0 : w.cell? ⟨tb, 0, none⟩ = some (.slice ca cn ck)) (t1 : w.cell? ⟨tb, 1, none⟩ = some (.slice qa qn qk)) :
    Calls Tryz.prog 23 #[.pointer (some ⟨pb, 13, none⟩), .slice (some ⟨tb, 0, none⟩) 2 2] w fun e w' => e = .returned (.slice (some ⟨w.heap.size, 0, none⟩) 1 1) ∧ w'.heap[w.heap.size]? = some (.cells #[.slice ca cn ck, .slice qa qn qk] 36) ∧ Below w.heap.size w w' := by
  obtain ⟨hpb, _, _, _, _, _, _, _, _, _, _, _, _, _, d13, d14, _⟩ := h.cells
  obtain ⟨i0, _, i1⟩ := blk1 h.ins
  have hmk := mk_rels1
  clear h
  go_enter Tryz.func23, Tryz.ntmps23
  go_wp2
  refine LoopN.wp 2 (LoopN.next ?_)
  go_wp2
  refine LoopN.next ?_
  go_wp2
  go_ret
  exact ⟨rfl, alloc_newN rfl, (Below.refl _ _).alloc (Nat.le_refl _) _⟩
end Go.Proofs.YtmoeipdchapodaaGreatDoor
