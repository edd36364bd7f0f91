/-
  STEPS of a drawn region by its slots: an operation that gives a value, one that writes, a call.
-/
import Derived.Test.YtkhlfdnlpimojaaDoorRg
import Derived.WalkKit
set_option linter.unusedVariables false
namespace Go.Proofs.YtkhlfdnlpimojaaDoor
open Go

theorem wp_val {P : Program} {o : Oper} {a : Act} {w w' : World} {K : Act → World → Prop} {Q : Exit → Act → World → Prop} {v : Value} (h : (execOp a.eval o).run P w = .ok (.value v) w') (hK : K (a.put o.dst v) w') : o.wp P a w K Q := by
  unfold Oper.wp
  rw [h]
  exact hK
theorem wp_skip {P : Program} {o : Oper} {a : Act} {w w' : World} {K : Act → World → Prop} {Q : Exit → Act → World → Prop} (h : (execOp a.eval o).run P w = .ok .skip w') (hK : K (a.put o.dst undef) w') : o.wp P a w K Q := by
  unfold Oper.wp
  rw [h]
  exact hK
theorem wp_enter {P : Program} {o : Oper} {a : Act} {w w' : World} {K : Act → World → Prop} {Q : Exit → Act → World → Prop} {f : FuncId} {args : Array Value} (h : (execOp a.eval o).run P w = .ok (.enter f args) w') (hc : Calls P f args w' fun e w'' => ∃ v, e = .returned v ∧ K (a.put o.dst v) w'') : o.wp P a w K Q := by
  unfold Oper.wp
  rw [h]
  show Calls P f args w' _
  refine hc.mono ?_
  rintro e w'' ⟨v, rfl, hv⟩
  exact hv
/-- no operation of the region writes this slot -/
def noDst (ops : Array Oper) (s : Nat) : Bool := (List.range ops.size).all fun i => decide ((ops[i]?).bind (·.dst) ≠ some s)
theorem SlotInv.given {ops : Array Oper} {a0 : Act} {D : Nat → Value → World → Prop} {G : Array Bool → Act → World → Prop} {listed : Array Bool} {a : Act} {w : World} (h : SlotInv ops a0 D G listed a w) (s : Nat) (v : Value) (hv : a0.tmps[s]? = some v) (hn : noDst ops s = true) : a.tmps[s]? = some v :=
  (h.old s fun j o ho hs => by
    unfold noDst at hn
    have := List.all_eq_true.1 hn j (List.mem_range.2 (Array.getElem?_eq_some_iff.1 ho).1)
    rw [ho] at this
    simp only [Option.bind_some, hs, ne_eq, not_true_eq_false, decide_false] at this
    cases this).trans hv
theorem set_other_get {listed : Array Bool} {i j : Nat} (h : i ≠ j) : (listed.setIfInBounds i true).getD j false = listed.getD j false := by rw [set_get, if_neg h]
theorem set_this_get {listed : Array Bool} {i n : Nat} (hs : listed.size = n) (hi : i < n) : (listed.setIfInBounds i true).getD i false = true := by rw [set_get, if_pos rfl, if_pos (by omega)]
theorem SlotInv.later2 {ops : Array Oper} {a0 : Act} {D : Nat → Value → World → Prop} {G : Array Bool → Act → World → Prop} {listed : Array Bool} {a : Act} {w : World} (h : SlotInv ops a0 D G listed a w) (j i : Nat) (o : Oper) (e : Edge) (ho : ops[j]? = some o) (he : e ∈ o.after) (hb : Region.binds .any e = true) (hon : e.on = i) (hl : listed.getD i false = false) : listed.getD j false = false := by
  cases hx : listed.getD j false with
  | false => rfl
  | true =>
    have := h.shut j o ho hx e he hb
    rw [hon, hl] at this
    cases this
theorem put_other {a : Act} {s t : Nat} {v : Value} (h : s ≠ t) : (a.put (some s) v).tmps[t]? = a.tmps[t]? := by rw [put_at, if_neg h]
theorem put_this {a : Act} {s : Nat} {v : Value} (h : s < a.tmps.size) : (a.put (some s) v).tmps[s]? = some v := by rw [put_at, if_pos rfl, if_pos h]
theorem want_none {o : Oper} {y : Nat → Option Bool} (h : o.guard = none) : Region.wanted o y = true := by
  unfold Region.wanted
  rw [h]
end Go.Proofs.YtkhlfdnlpimojaaDoor
