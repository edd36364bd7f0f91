import Derived.RegionTactic
import Derived.Tactics
import Derived.ProofKit
set_option linter.unusedVariables false
namespace Go.Proofs.YtbnlekhjgkojlaaGreatDoor
open Go
def topB (ops : Array Oper) : Bool := (List.range ops.size).all fun i => ((ops[i]?).map fun o => o.after.all fun e => !Region.binds .any e || decide (e.on < i)).getD true
theorem all_listed {ops : Array Oper} {listed : Array Bool} (hs : listed.size = ops.size) (ht : topB ops = true) (hr : Region.ready .any ops listed = []) : ∀ i, i < ops.size → listed.getD i true = true := by
 intro i
 induction i using Nat.strongRecOn with
 | ind i ih =>
  intro hi
  by_cases hl : listed.getD i true = true
  · exact hl
  · exfalso
    have hm : i ∈ Region.ready .any ops listed := by
     unfold Region.ready
     refine List.mem_filter.2 ⟨List.mem_range.2 hi, ?_⟩
     rw [Array.getElem?_eq_getElem hi]
     simp only [Option.map_some, Option.getD_some, Bool.and_eq_true, Bool.not_eq_true']
     refine ⟨by simpa using hl, ?_⟩
     rw [Array.all_eq_true']
     intro e he
     unfold topB at ht
     rw [List.all_eq_true] at ht
     have h1 := ht i (List.mem_range.2 hi)
     rw [Array.getElem?_eq_getElem hi] at h1
     simp only [Option.map_some, Option.getD_some] at h1
     rw [Array.all_eq_true'] at h1
     have h2 := h1 e he
     cases hb : Region.binds .any e with
     | false => rfl
     | true =>
      rw [hb] at h2
      simp only [Bool.not_true, Bool.false_or, decide_eq_true_eq] at h2
      have h3 := ih e.on h2 (by omega)
      simp only [Bool.not_true, Bool.false_or]
      have h4 : e.on < listed.size := by omega
      rw [Array.getD_eq_getD_getElem?, Array.getElem?_eq_getElem h4] at h3 ⊢
      exact h3
    rw [hr] at hm
    cases hm
theorem count_set {listed : Array Bool} {i : Nat} (h : listed.getD i true = false) : (listed.setIfInBounds i true).toList.count false + 1 = listed.toList.count false := by
 have hi : i < listed.size := by
  by_cases hi : i < listed.size
  · exact hi
  · rw [Array.getD_eq_getD_getElem?, Array.getElem?_eq_none (by omega)] at h
    cases h
 have hv : listed.toList[i]'(by simpa using hi) = false := by
  rw [Array.getD_eq_getD_getElem?, Array.getElem?_eq_getElem hi] at h
  simpa using h
 rw [Array.toList_setIfInBounds]
 have := List.count_set (a := true) (b := false) (l := listed.toList) (i := i) (h := by simpa using hi)
 rw [this]
 have hp : 0 < listed.toList.count false := List.count_pos_iff.2 (by rw [← hv]; exact List.getElem_mem _)
 have e1 : (listed.toList[i]'(by simpa using hi) == false) = true := by rw [hv]; rfl
 rw [if_pos e1, if_neg (by decide)]
 omega
theorem wpAny_inv {P : Program} {ops : Array Oper} {Q : Exit → Act → World → Prop} (I : Array Bool → Act → World → Prop) (ht : topB ops = true)
 (step : ∀ (listed : Array Bool) a w i o, listed.size = ops.size → I listed a w → ops[i]? = some o → listed.getD i true = false → (∀ e ∈ o.after, Region.binds .any e = true → listed.getD e.on false = true) →
  if Region.wanted o (yielded ops a.tmps) = true then o.wp P a w (fun a' w' => I (listed.setIfInBounds i true) a' w') Q else I (listed.setIfInBounds i true) (a.put o.dst undef) w)
 (fin : ∀ (listed : Array Bool) a w, listed.size = ops.size → I listed a w → (∀ i, i < ops.size → listed.getD i true = true) → Q .normal a w) :
 ∀ (fuel : Nat) (listed : Array Bool) a w, listed.size = ops.size → listed.toList.count false ≤ fuel → I listed a w → wpAny P .any ops Q fuel listed a w := by
 intro fuel
 induction fuel with
 | zero =>
  intro listed a w hs hc hI
  have hall : ∀ i, i < ops.size → listed.getD i true = true := fun i hi => by
   cases h : listed.getD i true with
   | true => rfl
   | false => have := count_set h; omega
  refine ⟨?_, fin listed a w hs hI hall⟩
  unfold Region.ready
  refine List.filter_eq_nil_iff.2 fun i hi => ?_
  rw [hall i (List.mem_range.1 hi)]
  simp
 | succ fuel ih =>
  intro listed a w hs hc hI
  refine ⟨fun hr => fin listed a w hs hI (all_listed hs ht hr), fun i hi => ?_⟩
  unfold Region.ready at hi
  obtain ⟨h1, h2⟩ := List.mem_filter.1 hi
  have hlt := List.mem_range.1 h1
  rw [Array.getElem?_eq_getElem hlt] at h2
  simp only [Option.map_some, Option.getD_some, Bool.and_eq_true, Bool.not_eq_true'] at h2
  obtain ⟨h3, h4⟩ := h2
  rw [Array.all_eq_true'] at h4
  have hst := step listed a w i ops[i] hs hI (Array.getElem?_eq_getElem hlt) h3 (fun e he hb => by have := h4 e he; rw [hb] at this; simpa using this)
  have hnext : ∀ a' w', I (listed.setIfInBounds i true) a' w' → wpAny P .any ops Q fuel (listed.setIfInBounds i true) a' w' := fun a' w' h => ih _ a' w' (by simpa using hs) (by have := count_set h3; omega) h
  unfold wpOp
  rw [Array.getElem?_eq_getElem hlt]
  show if Region.wanted ops[i] (yielded ops a.tmps) = true then _ else _
  split
  · rename_i hw
    rw [if_pos hw] at hst
    exact .inl (Oper.wp_mono hnext hst)
  · rename_i hw
    rw [if_neg hw] at hst
    exact hnext _ _ hst
def dstB (ops : Array Oper) (n : Nat) : Bool := (List.range ops.size).all fun i => match (ops[i]?).bind (·.dst) with
 | none => true
 | some s => decide (s < n) && (List.range ops.size).all fun j => decide (j = i) || decide ((ops[j]?).bind (·.dst) ≠ some s)
theorem dst_lt {ops : Array Oper} {n : Nat} (h : dstB ops n = true) {i : Nat} {o : Oper} {s : Nat} (ho : ops[i]? = some o) (hs : o.dst = some s) : s < n := by
 unfold dstB at h
 rw [List.all_eq_true] at h
 have hi : i < ops.size := (Array.getElem?_eq_some_iff.1 ho).1
 have := h i (List.mem_range.2 hi)
 rw [ho] at this
 simp only [Option.bind_some, hs, Bool.and_eq_true, decide_eq_true_eq] at this
 exact this.1
theorem dst_one {ops : Array Oper} {n : Nat} (h : dstB ops n = true) {i j : Nat} {o o' : Oper} {s : Nat} (ho : ops[i]? = some o) (ho' : ops[j]? = some o') (hs : o.dst = some s) (hs' : o'.dst = some s) : j = i := by
 unfold dstB at h
 rw [List.all_eq_true] at h
 have hi : i < ops.size := (Array.getElem?_eq_some_iff.1 ho).1
 have hj : j < ops.size := (Array.getElem?_eq_some_iff.1 ho').1
 have := h i (List.mem_range.2 hi)
 rw [ho] at this
 simp only [Option.bind_some, hs, Bool.and_eq_true, decide_eq_true_eq] at this
 have h2 := List.all_eq_true.1 this.2 j (List.mem_range.2 hj)
 rw [ho'] at h2
 simp only [Option.bind_some, hs', ne_eq, not_true_eq_false, decide_false, Bool.or_false, decide_eq_true_eq] at h2
 exact h2
structure SlotInv (ops : Array Oper) (a0 : Act) (D : Nat → Value → World → Prop) (G : Array Bool → Act → World → Prop) (listed : Array Bool) (a : Act) (w : World) : Prop where
 defers : a.defers = a0.defers
 size : a.tmps.size = a0.tmps.size
 old : ∀ s, (∀ j o, ops[j]? = some o → o.dst = some s → listed.getD j false = false) → a.tmps[s]? = a0.tmps[s]?
 new : ∀ j o s, ops[j]? = some o → o.dst = some s → listed.getD j false = true → ∃ v, a.tmps[s]? = some v ∧ D j v w
 shut : ∀ j o, ops[j]? = some o → listed.getD j false = true → ∀ e ∈ o.after, Region.binds .any e = true → listed.getD e.on false = true
 more : G listed a w
theorem put_at {a : Act} {s t : Nat} {v : Value} : (a.put (some s) v).tmps[t]? = if s = t then (if s < a.tmps.size then some v else none) else a.tmps[t]? := by
 show (a.tmps.setIfInBounds s v)[t]? = _
 rw [Array.getElem?_setIfInBounds]
theorem set_get {listed : Array Bool} {i j : Nat} : (listed.setIfInBounds i true).getD j false = (if i = j then (if i < listed.size then true else false) else listed.getD j false) := by
 rw [Array.getD_eq_getD_getElem?, Array.getD_eq_getD_getElem?, Array.getElem?_setIfInBounds]
 split
 · split <;> rfl
 · rfl
theorem SlotInv.did {ops : Array Oper} {a0 : Act} {D : Nat → Value → World → Prop} {G : Array Bool → Act → World → Prop} {listed : Array Bool} {a : Act} {w w' : World} {i : Nat} {o : Oper} {v : Value} (h : SlotInv ops a0 D G listed a w) (hd : dstB ops a0.tmps.size = true) (hsz : listed.size = ops.size) (ho : ops[i]? = some o)
 (haf : ∀ e ∈ o.after, Region.binds .any e = true → listed.getD e.on false = true) (hD : D i v w') (hk : ∀ j u, D j u w → D j u w') (hG : G (listed.setIfInBounds i true) (a.put o.dst v) w') : SlotInv ops a0 D G (listed.setIfInBounds i true) (a.put o.dst v) w' := by
 have hi : i < listed.size := by rw [hsz]; exact (Array.getElem?_eq_some_iff.1 ho).1
 have hkeep : ∀ j, listed.getD j false = true → (listed.setIfInBounds i true).getD j false = true := fun j hj => by
  rw [set_get]
  by_cases e : i = j
  · rw [if_pos e, if_pos hi]
  · rw [if_neg e]; exact hj
 refine ⟨?_, ?_, ?_, ?_, ?_, hG⟩
 · cases hs : o.dst <;> exact h.defers
 · cases hs : o.dst with
   | none => exact h.size
   | some s => show (a.tmps.setIfInBounds s v).size = _; rw [Array.size_setIfInBounds]; exact h.size
 · intro s hn
   have h1 : a.tmps[s]? = a0.tmps[s]? := h.old s fun j o' ho' hs' => by
    have := hn j o' ho' hs'
    cases hl : listed.getD j false with
    | false => rfl
    | true => rw [hkeep j hl] at this; cases this
   cases hs : o.dst with
   | none => exact h1
   | some t =>
    rw [put_at]
    split
    · rename_i e
      subst e
      have := hn i o ho hs
      rw [set_get, if_pos rfl, if_pos hi] at this
      cases this
    · exact h1
 · intro j o' s ho' hs' hl
   by_cases hji : i = j
   · subst hji
     obtain rfl : o' = o := Option.some.inj (ho'.symm.trans ho)
     rw [hs', put_at, if_pos rfl, if_pos (by rw [h.size]; exact dst_lt hd ho hs')]
     exact ⟨v, rfl, hD⟩
   · rw [set_get, if_neg hji] at hl
     obtain ⟨u, hu, hDu⟩ := h.new j o' s ho' hs' hl
     refine ⟨u, ?_, hk j u hDu⟩
     cases hs : o.dst with
     | none => exact hu
     | some t =>
      rw [put_at, if_neg]
      · exact hu
      · intro e
        subst e
        exact hji (dst_one hd ho' ho hs' hs)
 · intro j o' ho' hl e he hb
   by_cases hji : i = j
   · subst hji
     obtain rfl : o' = o := Option.some.inj (ho'.symm.trans ho)
     exact hkeep _ (haf e he hb)
   · rw [set_get, if_neg hji] at hl
     exact hkeep _ (h.shut j o' ho' hl e he hb)
def putAll (ops : List Oper) (v : Nat → Value) (k : Nat) (a : Act) : Act := match ops with
 | [] => a
 | o :: rest => putAll rest v (k + 1) (a.put o.dst (v k))
theorem putAll_defers : ∀ (ops : List Oper) (v : Nat → Value) (k : Nat) (a : Act), (putAll ops v k a).defers = a.defers
 | [], _, _, _ => rfl
 | o :: rest, v, k, a => by rw [putAll, putAll_defers rest]; cases o.dst <;> rfl
theorem putAll_old : ∀ (ops : List Oper) (v : Nat → Value) (k : Nat) (a : Act) (s : Nat), (∀ o ∈ ops, o.dst ≠ some s) → (putAll ops v k a).tmps[s]? = a.tmps[s]?
 | [], _, _, _, _, _ => rfl
 | o :: rest, v, k, a, s, h => by
  rw [putAll, putAll_old rest _ _ _ s (fun o' ho' => h o' (List.mem_cons_of_mem _ ho'))]
  cases hs : o.dst with
  | none => rfl
  | some t => rw [put_at, if_neg (fun e => h o (List.mem_cons_self ..) (by rw [hs, e]))]
theorem putAll_new : ∀ (ops : List Oper) (v : Nat → Value) (k : Nat) (a : Act) (s : Nat) (j : Nat) (o : Oper), ops[j]? = some o → o.dst = some s → s < a.tmps.size → (∀ j' o', ops[j']? = some o' → o'.dst = some s → j' = j) → (putAll ops v k a).tmps[s]? = some (v (k + j))
 | [], _, _, _, _, j, o, h, _, _, _ => by simp at h
 | o0 :: rest, v, k, a, s, 0, o, h, hs, hlt, hone => by
  simp only [List.getElem?_cons_zero, Option.some.injEq] at h
  subst h
  rw [putAll, putAll_old rest _ _ _ s, hs, put_at, if_pos rfl, if_pos hlt]
  · rfl
  · intro o' ho' e
    obtain ⟨j', hj'⟩ := List.getElem?_of_mem ho'
    have := hone (j' + 1) o' (by rw [List.getElem?_cons_succ]; exact hj') e
    omega
 | o0 :: rest, v, k, a, s, j + 1, o, h, hs, hlt, hone => by
  rw [List.getElem?_cons_succ] at h
  have hlt' : s < (a.put o0.dst (v k)).tmps.size := by
   cases hs' : o0.dst with
   | none => exact hlt
   | some t => show s < (a.tmps.setIfInBounds t _).size; rw [Array.size_setIfInBounds]; exact hlt
  rw [putAll, putAll_new rest v (k + 1) _ s j o h hs hlt' (fun j' o' h1 h2 => by have := hone (j' + 1) o' (by rw [List.getElem?_cons_succ]; exact h1) h2; omega)]
  rw [show k + 1 + j = k + (j + 1) by omega]
theorem slots_end {ops : Array Oper} {a0 : Act} {D : Nat → Value → World → Prop} {G : Array Bool → Act → World → Prop} {listed : Array Bool} {a : Act} {w : World} (h : SlotInv ops a0 D G listed a w) (hd : dstB ops a0.tmps.size = true) (hsz : listed.size = ops.size) (hall : ∀ i, i < ops.size → listed.getD i true = true) :
 ∃ v : Nat → Value, a = putAll ops.toList v 0 a0 ∧ ∀ j (o : Oper) s, ops[j]? = some o → o.dst = some s → D j (v j) w := by
 have hl : ∀ j, j < ops.size → listed.getD j false = true := fun j hj => by
  have := hall j hj
  rw [Array.getD_eq_getD_getElem?, Array.getElem?_eq_getElem (by omega)] at this ⊢
  exact this
 refine ⟨fun j => (Option.bind ops[j]? Oper.dst).elim undef fun s => (a.tmps[s]?).getD undef, ?_, ?_⟩
 · have e1 : a.tmps = (putAll ops.toList (fun j => (Option.bind ops[j]? Oper.dst).elim undef fun s => (a.tmps[s]?).getD undef) 0 a0).tmps := by
    refine Array.ext_getElem? fun s => ?_
    by_cases hx : ∃ (j : Nat) (o : Oper), ops[j]? = some o ∧ o.dst = some s
    · obtain ⟨j, o, ho, hs⟩ := hx
      obtain ⟨v, hv, _⟩ := h.new j o s ho hs (hl j (Array.getElem?_eq_some_iff.1 ho).1)
      rw [putAll_new _ _ _ _ s j o (by rw [Array.getElem?_toList]; exact ho) hs (dst_lt hd ho hs) (fun j' o' h1 h2 => dst_one hd ho (by rw [Array.getElem?_toList] at h1; exact h1) hs h2)]
      simp only [Nat.zero_add, ho, Option.bind_some, hs, Option.elim_some, hv, Option.getD_some]
    · rw [putAll_old _ _ _ _ s (fun o ho e => by
       obtain ⟨j, hj⟩ := List.getElem?_of_mem ho
       rw [Array.getElem?_toList] at hj
       exact hx ⟨j, o, hj, e⟩)]
      exact h.old s fun j o ho hs => absurd ⟨j, o, ho, hs⟩ hx
   have e2 : a.defers = (putAll ops.toList (fun j => (Option.bind ops[j]? Oper.dst).elim undef fun s => (a.tmps[s]?).getD undef) 0 a0).defers := by rw [putAll_defers]; exact h.defers
   cases a
   simp only at e1 e2
   rw [Act.mk.injEq]
   exact ⟨e1, e2⟩
 · intro j o s ho hs
   obtain ⟨v, hv, hD⟩ := h.new j o s ho hs (hl j (Array.getElem?_eq_some_iff.1 ho).1)
   simp only [ho, Option.bind_some, hs, Option.elim_some, hv, Option.getD_some]
   exact hD
theorem wp_region_slots {P : Program} {id : Nat} {ops : Array Oper} {Q : Exit → Act → World → Prop} {a0 : Act} {w0 : World} (hm : P.follows .mixedOrders = true) (D : Nat → Value → World → Prop) (G : Array Bool → Act → World → Prop) (ht : topB ops = true) (hd : dstB ops a0.tmps.size = true)
 (start : G (Array.replicate ops.size false) a0 w0.drew)
 (step : ∀ (listed : Array Bool) a w i (o : Oper), listed.size = ops.size → SlotInv ops a0 D G listed a w → ops[i]? = some o → listed.getD i true = false → (∀ e ∈ o.after, Region.binds .any e = true → listed.getD e.on false = true) →
  if Region.wanted o (yielded ops a.tmps) = true then o.wp P a w (fun a' w' => ∃ v, a' = a.put o.dst v ∧ D i v w' ∧ (∀ j u, D j u w → D j u w') ∧ G (listed.setIfInBounds i true) (a.put o.dst v) w') Q else D i undef w ∧ G (listed.setIfInBounds i true) (a.put o.dst undef) w)
 (fin : ∀ (v : Nat → Value) w, (∀ j (o : Oper) s, ops[j]? = some o → o.dst = some s → D j (v j) w) → (∀ j (o : Oper) s, ops[j]? = some o → o.dst = some s → (putAll ops.toList v 0 a0).tmps[s]? = some (v j)) → G (Array.replicate ops.size true) (putAll ops.toList v 0 a0) w → Q .normal (putAll ops.toList v 0 a0) w) :
 (Code.region id ops true).wp P Q a0 w0 := by
 refine wp_region_any hm ?_
 refine wpAny_inv (SlotInv ops a0 D G) ht ?_ ?_ _ _ _ _ (by simp) (Nat.le_trans (List.count_le_length) (by simp)) ⟨rfl, rfl, fun _ _ => rfl, fun j o s _ _ hl => ?_, fun j o _ hl => ?_, start⟩
 · intro listed a w i o hsz h ho hl haf
   have k := step listed a w i o hsz h ho hl haf
   split
   · rename_i hw
     rw [if_pos hw] at k
     exact Oper.wp_mono (fun a' w' ⟨v, e, h1, h2, h3⟩ => by rw [e]; exact h.did hd hsz ho haf h1 h2 h3) k
   · rename_i hw
     rw [if_neg hw] at k
     exact h.did hd hsz ho haf k.1 (fun _ _ h => h) k.2
 · intro listed a w hsz h hall
   obtain ⟨v, e, hv⟩ := slots_end h hd hsz hall
   have hG := h.more
   rw [e] at hG ⊢
   refine fin v w hv (fun j o s ho hs => ?_) ?_
   · have := putAll_new ops.toList v 0 a0 s j o (by rw [Array.getElem?_toList]; exact ho) hs (dst_lt hd ho hs) (fun j' o' h1 h2 => dst_one hd ho (by rw [Array.getElem?_toList] at h1; exact h1) hs h2)
     rw [Nat.zero_add] at this
     exact this
   have hl : listed = Array.replicate ops.size true := by
    refine Array.ext (by simpa using hsz) fun i h1 h2 => ?_
    have := hall i (by omega)
    rw [Array.getD_eq_getD_getElem?, Array.getElem?_eq_getElem h1] at this
    simpa using this
   rw [← hl]
   exact hG
 · rw [Array.getD_eq_getD_getElem?, Array.getElem?_replicate] at hl
   split at hl <;> cases hl
 · rw [Array.getD_eq_getD_getElem?, Array.getElem?_replicate] at hl
   split at hl <;> cases hl
theorem SlotInv.later {ops : Array Oper} {a0 : Act} {D : Nat → Value → World → Prop} {G : Array Bool → Act → World → Prop} {listed : Array Bool} {a : Act} {w : World} (h : SlotInv ops a0 D G listed a w) (j i : Nat) (o : Oper) (e : Edge) (ho : ops[j]? = some o) (he : e ∈ o.after) (hb : Region.binds .any e = true) (hon : e.on = i) (hl : listed.getD i true = false) : listed.getD j false = false := by
 cases hx : listed.getD j false with
 | false => rfl
 | true =>
  have := h.shut j o ho hx e he hb
  rw [hon] at this
  rw [Array.getD_eq_getD_getElem?] at hl this
  cases hy : listed[i]? with
  | none => rw [hy] at this; cases this
  | some b => rw [hy] at hl this; simp at hl this; rw [hl] at this; cases this
end Go.Proofs.YtbnlekhjgkojlaaGreatDoor
