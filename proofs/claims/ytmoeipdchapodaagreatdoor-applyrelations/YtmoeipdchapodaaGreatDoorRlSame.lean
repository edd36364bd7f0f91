/-
  CONTRACTS: the same texts, items, relations (sameTexts, sameItems, sameRel, of package pleacherlaw); a call of a Go function as one step of a region that draws.
-/
import Derived.Test.YtmoeipdchapodaaGreatDoorRlRel
import Derived.Test.YtmoeipdchapodaaGreatDoorRlMem
import Derived.Deep.QuietTactic
import Derived.BigQuiet
set_option linter.unusedVariables false
namespace Go.Proofs.YtmoeipdchapodaaGreatDoor
open Go.RowKit

theorem below_drawn {B : Nat} {a w : World} (h : Below B a w) : ∀ q, Below B a (w.drewN q)
  | 0 => h
  | q + 1 => (below_drawn h q).drew

theorem madeF_cols {C : Nat → ByteArray} {n m : Nat} (h : colsF C n ≠ 0) : madeF C n m = colsF C n := by unfold madeF; rw [if_neg h]
theorem madeF_rows {C : Nat → ByteArray} {n m : Nat} (h : colsF C n = 0) : madeF C n m = if 1000000 < m then 1 else 0 := by unfold madeF; rw [if_pos h]

end Go.Proofs.YtmoeipdchapodaaGreatDoor
set_option linter.unusedVariables false
namespace Go.Proofs.YtmoeipdchapodaaGreatDoor
set_option maxRecDepth 100000
open Go.RowKit

theorem drawn_keep {w wr : World} {b o q : Nat} (h : wr = w.drewN q) : wr.cell? ⟨b, o, none⟩ = w.cell? ⟨b, o, none⟩ := by rw [h]; simp
/-- two relations were boxed -/
theorem box22 {w wr : World} {c q c' q' : Value} {T T' : TypeId} (h : Below ((w.alloc (.cells #[c, q] T)).alloc (.cells #[c', q'] T')).heap.size ((w.alloc (.cells #[c, q] T)).alloc (.cells #[c', q'] T')) wr) :
    wr.cell? ⟨w.heap.size, 0, none⟩ = some c ∧ wr.cell? ⟨w.heap.size, 1, none⟩ = some q ∧ wr.cell? ⟨w.heap.size + 1, 0, none⟩ = some c' ∧ wr.cell? ⟨w.heap.size + 1, 1, none⟩ = some q' ∧ w.heap.size + 1 < wr.heap.size := by
  have hs := h.size
  simp at hs
  refine ⟨(h.cell (p := ⟨w.heap.size, 0, none⟩) (by simp <;> omega)).trans ?_, (h.cell (p := ⟨w.heap.size, 1, none⟩) (by simp <;> omega)).trans ?_, (h.cell (p := ⟨w.heap.size + 1, 0, none⟩) (by simp)).trans ?_, (h.cell (p := ⟨w.heap.size + 1, 1, none⟩) (by simp)).trans ?_, by omega⟩ <;> simp
theorem below_two {w : World} (o o' : Obj) : Below w.heap.size w ((w.alloc o).alloc o') := ((Below.refl _ _).alloc (Nat.le_refl _) _).alloc (by simp) _
/-- a call of a Go function, as one step of a region that draws -/
theorem wp_call {P : Program} {o : Oper} {a : Act} {w : World} {K : Act → World → Prop} {Q : Exit → Act → World → Prop} (f : FuncId) (args : Array Value) (hrun : (execOp a.eval o).run P w = .ok (.enter f args) w)
    (Post : Value → World → Prop) (hc : Calls P f args w fun e w' => ∃ v, e = .returned v ∧ Post v w') (h : ∀ v w', Post v w' → K (a.put o.dst v) w') : o.wp P a w K Q := by
  unfold Oper.wp
  rw [hrun, Oper.upon_enter]
  refine hc.mono fun e w'' hh => ?_
  obtain ⟨v, rfl, hp⟩ := hh
  exact h v w'' hp
theorem step_call {P : Program} {ops : Array Oper} {o : Oper} {a : Act} {w : World} {K : Act → World → Prop} {Q : Exit → Act → World → Prop} {Z : Prop} (hgd : o.guard = none) (f : FuncId) (args : Array Value) (hrun : (execOp a.eval o).run P w = .ok (.enter f args) w)
    (Post : Value → World → Prop) (hc : Calls P f args w fun e w' => ∃ v, e = .returned v ∧ Post v w') (h : ∀ v w', Post v w' → K (a.put o.dst v) w') : if Region.wanted o (yielded ops a.tmps) = true then Oper.wp P o a w K Q else Z :=
  step_of hgd (wp_call f args hrun Post hc h)
end Go.Proofs.YtmoeipdchapodaaGreatDoor
