/-
  A REGION THAT DRAWS ITS ORDER, BY ITS SLOTS, WITHIN A ROUND of a range over a function (at the wide fence).
-/
import Derived.Test.YtkhlfdnlpimojaaDoorRgStep
import Derived.OrdersIn
import Derived.RangeFuncCalls
set_option linter.unusedVariables false
namespace Go.Proofs.YtkhlfdnlpimojaaDoor
open Go

/-- no operation is a defer -/
def calmB (ops : Array Oper) : Bool := ops.all fun o => match o.op with | .defer _ => false | _ => true
theorem calm_at {ops : Array Oper} (h : calmB ops = true) {i : Nat} {o : Oper} (ho : ops[i]? = some o) : ∀ c, o.op ≠ .defer c := by
  intro c hc
  obtain ⟨hi, e⟩ := Array.getElem?_eq_some_iff.1 ho
  unfold calmB at h
  rw [Array.all_eq_true] at h
  have := h i hi
  rw [e, hc] at this
  cases this
theorem rows_round {n l : Nat} {P : Program} {row : String} {args : Array Value} {w : World} {R : Value → World → Prop} (h : Rows P row args w R) : RowsIn (Fence.wide.inRound l) n P row args w R :=
  fun c cs _ => let ⟨v, w', r, s⟩ := h c cs; ⟨v, w', r, stepsIn_wide.2 s⟩
theorem oper_round {n l : Nat} {P : Program} {o : Oper} {a : Act} {w : World} {K : Act → World → Prop} {Q : Exit → Act → World → Prop} (hd : ∀ c, o.op ≠ .defer c) (h : o.wp P a w K Q) : o.wpIn (Fence.wide.inRound l) n P a w K Q := by
  refine ⟨fun _ _ => trivial, ?_⟩
  rw [Oper.semAt_eq _ _ _ hd]
  unfold Oper.wp at h
  generalize (execOp a.eval o).run P w = r at *
  cases r with
  | ok x w' =>
    cases x <;> simp only [Oper.uponIn, Oper.upon] at h ⊢ <;>
      first
        | exact h
        | exact ⟨(fun e => absurd e (by simp [Fence.wide])), CallsIn.inRound l (callsIn_wide.2 h)⟩
        | exact ⟨(fun e => absurd e (by simp [Fence.wide])), rows_round h⟩
  | halt x w' => cases x <;> simp only [Oper.uponIn, Oper.upon] at h ⊢ <;> exact h
theorem wpAnyIn_inv {n l : Nat} {P : Program} {ops : Array Oper} {Q : Exit → Act → World → Prop} (I : Array Bool → Act → World → Prop) (ht : topB ops = true) (hcalm : calmB ops = true)
    (step : ∀ (listed : Array Bool) a w i o, listed.size = ops.size → I listed a w → ops[i]? = some o → listed.getD i true = false → (∀ e ∈ o.after, Region.binds .any e = true → listed.getD e.on false = true) →
      if Region.wanted o (yielded ops a.tmps) = true then o.wp P a w (fun a' w' => I (listed.setIfInBounds i true) a' w') Q else I (listed.setIfInBounds i true) (a.put o.dst undef) w)
    (fin : ∀ (listed : Array Bool) a w, listed.size = ops.size → I listed a w → (∀ i, i < ops.size → listed.getD i true = true) → Q .normal a w) :
    ∀ (fuel : Nat) (listed : Array Bool) a w, listed.size = ops.size → listed.toList.count false ≤ fuel → I listed a w → wpAnyIn (Fence.wide.inRound l) n P .any ops Q fuel listed a w := by
  intro fuel
  induction fuel with
  | zero =>
    intro listed a w hs hc hI
    have hall : ∀ i, i < ops.size → listed.getD i true = true := fun i hi => by
      cases h : listed.getD i true with
      | true => rfl
      | false => have := count_set h; omega
    refine ⟨?_, fin listed a w hs hI hall⟩
    unfold Region.ready
    refine List.filter_eq_nil_iff.2 fun i hi => ?_
    rw [hall i (List.mem_range.1 hi)]
    simp
  | succ fuel ih =>
    intro listed a w hs hc hI
    refine ⟨fun hr => fin listed a w hs hI (all_listed hs ht hr), fun i hi => ?_⟩
    unfold Region.ready at hi
    obtain ⟨h1, h2⟩ := List.mem_filter.1 hi
    have hlt := List.mem_range.1 h1
    rw [Array.getElem?_eq_getElem hlt] at h2
    simp only [Option.map_some, Option.getD_some, Bool.and_eq_true, Bool.not_eq_true'] at h2
    obtain ⟨h3, h4⟩ := h2
    rw [Array.all_eq_true'] at h4
    have hst := step listed a w i ops[i] hs hI (Array.getElem?_eq_getElem hlt) h3 (fun e he hb => by have := h4 e he; rw [hb] at this; simpa using this)
    have hnext : ∀ a' w', I (listed.setIfInBounds i true) a' w' → wpAnyIn (Fence.wide.inRound l) n P .any ops Q fuel (listed.setIfInBounds i true) a' w' := fun a' w' h => ih _ a' w' (by simpa using hs) (by have := count_set h3; omega) h
    unfold wpOpIn
    rw [Array.getElem?_eq_getElem hlt]
    show if Region.wanted ops[i] (yielded ops a.tmps) = true then _ else _
    split
    · rename_i hw
      rw [if_pos hw] at hst
      exact Oper.wpIn_mono hnext (oper_round (calm_at hcalm (Array.getElem?_eq_getElem hlt)) hst)
    · rename_i hw
      rw [if_neg hw] at hst
      exact ⟨fun _ _ => trivial, hnext _ _ hst⟩
/-- A REGION THAT DRAWS, BY ITS SLOTS, IN A ROUND. -/
theorem wpIn_region_slots {n l : Nat} {P : Program} {id : Nat} {ops : Array Oper} {Q : Exit → Act → World → Prop} {a0 : Act} {w0 : World} (hm : P.follows .mixedOrders = true) (D : Nat → Value → World → Prop) (G : Array Bool → Act → World → Prop) (ht : topB ops = true) (hcalm : calmB ops = true) (hd : dstB ops a0.tmps.size = true)
    (start : G (Array.replicate ops.size false) a0 w0.drew)
    (step : ∀ (listed : Array Bool) a w i (o : Oper), listed.size = ops.size → SlotInv ops a0 D G listed a w → ops[i]? = some o → listed.getD i true = false → (∀ e ∈ o.after, Region.binds .any e = true → listed.getD e.on false = true) →
      if Region.wanted o (yielded ops a.tmps) = true then o.wp P a w (fun a' w' => ∃ v, a' = a.put o.dst v ∧ D i v w' ∧ (∀ j u, D j u w → D j u w') ∧ G (listed.setIfInBounds i true) (a.put o.dst v) w') Q else D i undef w ∧ G (listed.setIfInBounds i true) (a.put o.dst undef) w)
    (fin : ∀ (v : Nat → Value) w, (∀ j (o : Oper) s, ops[j]? = some o → o.dst = some s → D j (v j) w) → (∀ j (o : Oper) s, ops[j]? = some o → o.dst = some s → (putAll ops.toList v 0 a0).tmps[s]? = some (v j)) → G (Array.replicate ops.size true) (putAll ops.toList v 0 a0) w → Q .normal (putAll ops.toList v 0 a0) w) :
    (Code.region id ops true).wpIn (Fence.wide.inRound l) n P Q a0 w0 := by
  refine wpIn_region_any hm ?_
  refine wpAnyIn_inv (SlotInv ops a0 D G) ht hcalm ?_ ?_ _ _ _ _ (by simp) (Nat.le_trans (List.count_le_length) (by simp)) ⟨rfl, rfl, fun _ _ => rfl, fun j o s _ _ hl => ?_, fun j o _ hl => ?_, start⟩
  · intro listed a w i o hsz h ho hl haf
    have k := step listed a w i o hsz h ho hl haf
    split
    · rename_i hw
      rw [if_pos hw] at k
      exact Oper.wp_mono (fun a' w' ⟨v, e, h1, h2, h3⟩ => by rw [e]; exact h.did hd hsz ho haf h1 h2 h3) k
    · rename_i hw
      rw [if_neg hw] at k
      exact h.did hd hsz ho haf k.1 (fun _ _ h => h) k.2
  · intro listed a w hsz h hall
    obtain ⟨v, e, hv⟩ := slots_end h hd hsz hall
    have hG := h.more
    rw [e] at hG ⊢
    refine fin v w hv (fun j o s ho hs => ?_) ?_
    · have := putAll_new ops.toList v 0 a0 s j o (by rw [Array.getElem?_toList]; exact ho) hs (dst_lt hd ho hs) (fun j' o' h1 h2 => dst_one hd ho (by rw [Array.getElem?_toList] at h1; exact h1) hs h2)
      rw [Nat.zero_add] at this
      exact this
    have hl : listed = Array.replicate ops.size true := by
      refine Array.ext (by simpa using hsz) fun i h1 h2 => ?_
      have := hall i (by omega)
      rw [Array.getD_eq_getD_getElem?, Array.getElem?_eq_getElem h1] at this
      simpa using this
    rw [← hl]
    exact hG
  · rw [Array.getD_eq_getD_getElem?, Array.getElem?_replicate] at hl
    split at hl <;> cases hl
  · rw [Array.getD_eq_getD_getElem?, Array.getElem?_replicate] at hl
    split at hl <;> cases hl
end Go.Proofs.YtkhlfdnlpimojaaDoor
