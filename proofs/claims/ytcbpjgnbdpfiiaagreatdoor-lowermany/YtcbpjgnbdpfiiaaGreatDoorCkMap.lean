/-
  MAPS WITH TEXTS AS KEYS: what they hold, key by key; looked up, written, ranged over.
-/
import Derived.Test.YtcbpjgnbdpfiiaaGreatDoorUnroll
import Derived.Test.YtcbpjgnbdpfiiaaGreatDoorRgIn
import Derived.Maps.OwnSet
import Derived.Maps.RangeRun
set_option linter.unusedVariables false
namespace Go.Proofs.YtcbpjgnbdpfiiaaGreatDoor
set_option maxRecDepth 100000
open Go.RowKit Go.WideShapes

theorem strLaw : Go.Maps.Keyed Tryz.prog 9 := Go.Maps.string_keyed Tryz.underlying9
theorem str_key (x : ByteArray) (h : x.size ≤ maxLen) : keyOf Tryz.prog 9 (.string x) = some (.string x.data.toList) := by
  simp [keyOf, Tryz.underlying9, mapKey]
  exact h
/-- what the map in block M holds -/
def VMap (w : World) (M : Nat) (V : ByteArray → Option Value) : Prop :=
  ∃ es clock, w.heap[M]? = some (.map es clock) ∧
    (∀ (i : Nat) (e : MapEntry), es[i]? = some e → ∃ x, e.key = .string x ∧ x.size ≤ maxLen ∧ V x = some e.val ∧ e.born < clock) ∧
    (∀ (i j : Nat) (e e' : MapEntry), es[i]? = some e → es[j]? = some e' → i ≠ j → e.key ≠ e'.key ∧ e.born ≠ e'.born) ∧
    (∀ x v, V x = some v → ∃ (i : Nat) (e : MapEntry), es[i]? = some e ∧ e.key = .string x)
theorem VMap.made (w : World) : VMap (w.alloc (.map #[] 0)) w.heap.size (fun _ => none) :=
  ⟨#[], 0, heap_alloc_new w _, fun i e h => by simp at h, fun i j e e' h => by simp at h, fun x v h => nomatch h⟩
theorem VMap.keep {w w' : World} {M : Nat} {V : ByteArray → Option Value} (h : VMap w M V) (hM : w'.heap[M]? = w.heap[M]?) : VMap w' M V := by
  obtain ⟨es, clock, h1, h2⟩ := h
  exact ⟨es, clock, hM.trans h1, h2⟩
theorem VMap.lt {w : World} {M : Nat} {V : ByteArray → Option Value} (h : VMap w M V) : M < w.heap.size := by
  obtain ⟨es, clock, h1, _⟩ := h
  exact (Array.getElem?_eq_some_iff.1 h1).1
theorem VMap.congr {w : World} {M : Nat} {V V' : ByteArray → Option Value} (h : VMap w M V) (e : ∀ x, V x = V' x) : VMap w M V' := by
  have : V = V' := funext e
  rw [← this]; exact h
theorem VMap.alloc {w : World} {M : Nat} {V : ByteArray → Option Value} (h : VMap w M V) (o : Obj) : VMap (w.alloc o) M V := h.keep (Below.heap_alloc w o M h.lt)
theorem vkeys {es : Array MapEntry} {clock : Nat} {V : ByteArray → Option Value} (h3 : ∀ (i : Nat) (e : MapEntry), es[i]? = some e → ∃ x, e.key = .string x ∧ x.size ≤ maxLen ∧ V x = some e.val ∧ e.born < clock) : ∀ e ∈ es.toList, ∃ l, keyOf Tryz.prog 9 e.key = some l := by
  intro e he
  obtain ⟨i, hi⟩ := List.mem_iff_getElem?.1 he
  obtain ⟨x, k1, k2, _⟩ := h3 i e (by simpa using hi)
  rw [k1]
  exact ⟨_, str_key x k2⟩
theorem VMap.look {w : World} {M : Nat} {V : ByteArray → Option Value} (h : VMap w M V) {x : ByteArray} (hx : x.size ≤ maxLen) {t el : TypeId} {z : Value} (ht : Tryz.prog.underlying t = some (.map 9 el)) (hz : (zeroValue el).run Tryz.prog w = .ok z w) :
    (Instr.lookup t (.map (some M)) (.string x) false).run Tryz.prog w = .ok ((V x).getD z) w ∧ (Instr.lookup t (.map (some M)) (.string x) true).run Tryz.prog w = .ok (.tuple #[(V x).getD z, .bool (V x).isSome]) w := by
  obtain ⟨es, clock, h1, h3, h4, h5⟩ := h
  have hk := str_key x hx
  rcases strLaw.find w hk es.toList (vkeys h3) with ⟨f1, f2⟩ | ⟨j, e0, f1, f2, f3⟩
  · have hV : V x = none := by
      cases hv : V x with
      | none => rfl
      | some v =>
        obtain ⟨i, e, k1, k2⟩ := h5 x v hv
        exact absurd k2 (f2 e (List.mem_iff_getElem?.2 ⟨i, by simpa using k1⟩))
    constructor <;> simp [Instr.lookup, run_underlying ht, MapKept.run_getObj_map h1, strLaw.check w _ hk, f1, hz, Result.andThen, hV]
  · obtain ⟨y, k1, k2, k3, k4⟩ := h3 j e0 (by simpa using f2)
    have e : y = x := by
      have := k1.symm.trans f3
      simpa using this
    subst e
    constructor <;> simp [Instr.lookup, run_underlying ht, MapKept.run_getObj_map h1, strLaw.check w _ hk, f1, Result.andThen, k3]
/-- only the map's block is turned -/
def TurnedM (w w' : World) (M : Nat) : Prop := w'.heap.size = w.heap.size ∧ (∀ c, c ≠ M → w'.heap[c]? = w.heap[c]?) ∧ w'.os = w.os ∧ w'.tape = w.tape ∧ w'.output = w.output
theorem turnedM_set {w : World} {M : Nat} {es : Array MapEntry} {clock : Nat} (h : w.heap[M]? = some (.map es clock)) (o : Obj) : TurnedM w (ChangeMaps.setBlock w M o) M :=
  ⟨by simp [ChangeMaps.setBlock], fun c hc => ChangeMaps.heap_setBlock_other h o hc, rfl, rfl, rfl⟩
theorem TurnedM.below {w w' : World} {M B : Nat} (h : TurnedM w w' M) (hB : B ≤ M) : Below B w w' :=
  ⟨by first | exact h.2.2.1 | exact h.1 | omega, by first | exact h.2.2.2.1 | (rw [h.1]; exact Nat.le_refl _), by first | exact h.2.2.2.2 | exact fun b hb => h.2.1 b (by omega), by first | (rw [h.1]; exact Nat.le_refl _) | exact h.2.2.1, by first | exact fun b hb => h.2.1 b (by omega) | exact h.2.2.2.2⟩
/-- what is held, with one more, or another one, at a key -/
def putV (V : ByteArray → Option Value) (x : ByteArray) (v : Value) : ByteArray → Option Value := fun y => if (y.toList == x.toList) = true then some v else V y
theorem putV_same (V : ByteArray → Option Value) (x : ByteArray) (v : Value) : putV V x v x = some v := by unfold putV; rw [if_pos (by simp)]
theorem putV_other (V : ByteArray → Option Value) {x y : ByteArray} (v : Value) (h : y ≠ x) : putV V x v y = V y := by unfold putV; rw [same_no h, if_neg (by simp)]
theorem VMap.put {w : World} {M : Nat} {V : ByteArray → Option Value} (h : VMap w M V) {x : ByteArray} (hx : x.size ≤ maxLen) (v : Value) {t el : TypeId} (ht : Tryz.prog.underlying t = some (.map 9 el)) :
    ∃ w', (Instr.mapUpdate t (.map (some M)) (.string x) v).run Tryz.prog w = .ok () w' ∧ VMap w' M (putV V x v) ∧ TurnedM w w' M := by
  obtain ⟨es, clock, h1, h3, h4, h5⟩ := h
  have hk := str_key x hx
  rcases strLaw.find w hk es.toList (vkeys h3) with ⟨f1, f2⟩ | ⟨j, e0, f1, f2, f3⟩
  · refine ⟨ChangeMaps.setBlock w M (.map (es.push { key := .string x, val := v, born := clock }) (clock + 1)), ?_, ⟨_, _, ChangeMaps.heap_setBlock_same h1 _, ?_, ?_, ?_⟩, turnedM_set h1 _⟩
    · simp [Instr.mapUpdate, run_underlying ht, MapKept.run_getObj_map h1, strLaw.check w _ hk, f1, MapKept.run_setObj_map _ h1, Result.andThen, ChangeMaps.setBlock]
    · intro i e he
      rw [Array.getElem?_push] at he
      split at he
      · cases he
        exact ⟨x, rfl, hx, putV_same _ _ _, Nat.lt_succ_self _⟩
      · obtain ⟨y, k1, k2, k3, k4⟩ := h3 i e he
        refine ⟨y, k1, k2, ?_, by omega⟩
        rw [putV_other _ _ (fun e1 => f2 e (List.mem_iff_getElem?.2 ⟨i, by simpa using he⟩) (by rw [k1, e1]))]
        exact k3
    · intro i i' e e' he he' hne
      rw [Array.getElem?_push] at he he'
      split at he
      · split at he'
        · omega
        · cases he
          obtain ⟨y, k1, k2, k3, k4⟩ := h3 i' e' he'
          exact ⟨fun e1 => f2 e' (List.mem_iff_getElem?.2 ⟨i', by simpa using he'⟩) e1.symm, by simp only; omega⟩
      · split at he'
        · cases he'
          obtain ⟨y, k1, k2, k3, k4⟩ := h3 i e he
          exact ⟨fun e1 => f2 e (List.mem_iff_getElem?.2 ⟨i, by simpa using he⟩) e1, by simp only; omega⟩
        · exact h4 i i' e e' he he' hne
    · intro y u hy
      by_cases e : y = x
      · subst e
        exact ⟨es.size, { key := .string y, val := v, born := clock }, by simp, rfl⟩
      · rw [putV_other _ _ e] at hy
        obtain ⟨i, e1, k1, k2⟩ := h5 y u hy
        exact ⟨i, e1, by rw [Array.getElem?_push, if_neg (by have := (Array.getElem?_eq_some_iff.1 k1).1; omega)]; exact k1, k2⟩
  · have f2' : es[j]? = some e0 := by simpa using f2
    refine ⟨ChangeMaps.setBlock w M (.map (es.modify j fun e => { key := .string x, val := v, born := e.born }) clock), ?_, ⟨_, _, ChangeMaps.heap_setBlock_same h1 _, ?_, ?_, ?_⟩, turnedM_set h1 _⟩
    · simp [Instr.mapUpdate, run_underlying ht, MapKept.run_getObj_map h1, strLaw.check w _ hk, f1, f2', f3, strLaw.stays w hk, MapKept.run_setObj_map _ h1, Result.andThen, ChangeMaps.setBlock]
    · intro i e he
      rw [Array.getElem?_modify] at he
      by_cases hj : j = i
      · subst hj
        rw [if_pos rfl, f2'] at he
        simp at he
        subst he
        obtain ⟨y, k1, k2, k3, k4⟩ := h3 j e0 f2'
        have e1 : y = x := by
          have := k1.symm.trans f3
          simpa using this
        subst e1
        exact ⟨y, rfl, k2, putV_same _ _ _, k4⟩
      · rw [if_neg hj] at he
        obtain ⟨y, k1, k2, k3, k4⟩ := h3 i e he
        refine ⟨y, k1, k2, ?_, k4⟩
        rw [putV_other _ _ (fun e1 => (h4 j i e0 e f2' he hj).1 (by rw [f3, k1, e1]))]
        exact k3
    · intro i i' e e' he he' hne
      rw [Array.getElem?_modify] at he he'
      by_cases hj : j = i
      · subst hj
        rw [if_pos rfl, f2'] at he
        rw [if_neg hne] at he'
        simp at he
        subst he
        exact ⟨by rw [← f3]; exact (h4 j i' e0 e' f2' he' hne).1, (h4 j i' e0 e' f2' he' hne).2⟩
      · rw [if_neg hj] at he
        by_cases hk' : j = i'
        · subst hk'
          rw [if_pos rfl, f2'] at he'
          simp at he'
          subst he'
          exact ⟨by rw [← f3]; exact (h4 i j e e0 he f2' hne).1, (h4 i j e e0 he f2' hne).2⟩
        · rw [if_neg hk'] at he'
          exact h4 i i' e e' he he' hne
    · intro y u hy
      by_cases e : y = x
      · subst e
        exact ⟨j, { key := .string y, val := v, born := e0.born }, by rw [Array.getElem?_modify, if_pos rfl, f2']; rfl, rfl⟩
      · rw [putV_other _ _ e] at hy
        obtain ⟨i, e1, k1, k2⟩ := h5 y u hy
        have hj : j ≠ i := by
          rintro rfl
          rw [f2'] at k1
          cases k1
          have := k2.symm.trans f3
          exact e (by simpa using this)
        exact ⟨i, e1, by rw [Array.getElem?_modify, if_neg hj]; exact k1, k2⟩

/-- a map that is ranged over: what it holds, and which of it came already -/
def VRng (w : World) (r M : Nat) (V : ByteArray → Option Value) (D : Value → Prop) (left : Nat) : Prop :=
  ∃ es clock since seen c0, w.heap[M]? = some (.map es clock) ∧ w.heap[r]? = some (.mapIter (some M) since seen c0) ∧ (∀ x ∈ es.toList, x.born < since) ∧ since ≤ c0 ∧ since ≤ clock ∧ (leftOf es seen).size = left ∧
    (∀ e ∈ es.toList, ∃ x, e.key = .string x ∧ V x = some e.val) ∧ (es.toList.map (·.born)).Nodup ∧ (∀ x v, V x = some v → ∃ e ∈ es.toList, e.val = v) ∧ (∀ e ∈ es.toList, seen.contains e.born = true → D e.val)
theorem VRng.keep {w w' : World} {r M : Nat} {V : ByteArray → Option Value} {D D' : Value → Prop} {left : Nat} (h : VRng w r M V D left) (hM : w'.heap[M]? = w.heap[M]?) (hr : w'.heap[r]? = w.heap[r]?) (hD : ∀ v, D v → D' v) : VRng w' r M V D' left := by
  obtain ⟨es, clock, since, seen, c0, h1, h2, h3, h4, h5, h6, h7, h8, h9, h10⟩ := h
  exact ⟨es, clock, since, seen, c0, hM.trans h1, hr.trans h2, h3, h4, h5, h6, h7, h8, h9, fun e he hs => hD _ (h10 e he hs)⟩
theorem VRng.lt {w : World} {r M : Nat} {V : ByteArray → Option Value} {D : Value → Prop} {left : Nat} (h : VRng w r M V D left) : M < w.heap.size ∧ r < w.heap.size ∧ r ≠ M := by
  obtain ⟨es, clock, since, seen, c0, h1, h2, _⟩ := h
  refine ⟨(Array.getElem?_eq_some_iff.1 h1).1, (Array.getElem?_eq_some_iff.1 h2).1, fun e => ?_⟩
  rw [e, h1] at h2
  cases h2
theorem VMap.range {w : World} {M : Nat} {V : ByteArray → Option Value} (h : VMap w M V) {t el : TypeId} (ht : Tryz.prog.underlying t = some (.map 9 el)) (D : Value → Prop) :
    ∃ w' left, (Instr.range t (.map (some M))).run Tryz.prog w = .ok (.pointer (some ⟨w.heap.size, 0, none⟩)) w' ∧ VRng w' w.heap.size M V D left ∧ w'.heap.size = w.heap.size + 1 ∧ (∀ b, b < w.heap.size → w'.heap[b]? = w.heap[b]?) ∧ w'.os = w.os ∧ w'.tape = w.tape ∧ w'.output = w.output := by
  have hlt := h.lt
  obtain ⟨es, clock, h1, h3, h4, h5⟩ := h
  refine ⟨_, (leftOf es #[]).size, run_range_map w t 9 el M es clock ht h1, ⟨es, clock, clock, #[], clock, (Below.heap_alloc w _ M hlt).trans h1, heap_alloc_new w _, fun e he => ?_, Nat.le_refl _, Nat.le_refl _, rfl, fun e he => ?_, ?_, fun x v hv => ?_, fun e _ hs => by simp at hs⟩, by simp, fun b hb => Below.heap_alloc w _ b hb, rfl, rfl, rfl⟩
  · obtain ⟨i, hi⟩ := List.mem_iff_getElem?.1 he
    obtain ⟨x, k1, k2, k3, k4⟩ := h3 i e (by simpa using hi)
    exact k4
  · obtain ⟨i, hi⟩ := List.mem_iff_getElem?.1 he
    obtain ⟨x, k1, k2, k3, k4⟩ := h3 i e (by simpa using hi)
    exact ⟨x, k1, k3⟩
  · unfold List.Nodup
    rw [List.pairwise_map, List.pairwise_iff_getElem]
    intro i j hi hj hij
    have hi' : i < es.size := by simpa using hi
    have hj' : j < es.size := by simpa using hj
    have := (h4 i j es[i] es[j] (Array.getElem?_eq_getElem hi') (Array.getElem?_eq_getElem hj') (by omega)).2
    simpa using this
  · obtain ⟨i, e, k1, k2⟩ := h5 x v hv
    obtain ⟨y, q1, q2, q3, q4⟩ := h3 i e k1
    have e1 : y = x := by
      have := q1.symm.trans k2
      simpa using this
    subst e1
    rw [hv] at q3
    exact ⟨e, List.mem_iff_getElem?.2 ⟨i, by simpa using k1⟩, (Option.some.inj q3).symm⟩
theorem VRng.next {w : World} {r M : Nat} {V : ByteArray → Option Value} {D : Value → Prop} {left : Nat} (h : VRng w r M V D left) (ty : TypeId) :
    ((∀ x v, V x = some v → D v) ∧ (Instr.next (.pointer (some ⟨r, 0, none⟩)) false ty).run Tryz.prog w = .ok (.tuple #[.bool false]) w) ∨
    ∃ x v w1 left', V x = some v ∧ (Instr.next (.pointer (some ⟨r, 0, none⟩)) false ty).run Tryz.prog w = .ok (.tuple #[.bool true, .string x, v]) w1 ∧ (Instr.entry (.pointer (some ⟨r, 0, none⟩))).run Tryz.prog w1 = .ok (.tuple #[.string x, v]) w1 ∧ left' < left ∧ VRng w1 r M V (fun u => D u ∨ u = v) left' ∧ TurnedM w w1 r := by
  have hne := h.lt.2.2
  obtain ⟨es, clock, since, seen, c0, h1, h2, h3, h4, h5, h6, h7, h8, h9, h10⟩ := h
  rcases run_next_at (P := Tryz.prog) w ty r M since c0 seen es clock h2 h1 h3 h4 with ⟨h0, hrun⟩ | ⟨e, he, w1, hal, hrun⟩
  · refine .inl ⟨fun x v hv => ?_, hrun⟩
    obtain ⟨e, he, rfl⟩ := h9 x v hv
    exact h10 e he (all_seen es seen h0 e he)
  · obtain ⟨hem, hes⟩ := mem_left he
    obtain ⟨x, k1, k2⟩ := h7 e hem
    have hr1 : w1.heap[r]? = some (.mapIter (some M) since seen c0) := by rcases hal with rfl | rfl <;> exact h2
    have hM1 : w1.heap[M]? = some (.map es clock) := by rcases hal with rfl | rfl <;> exact h1
    have hlt : r < w1.heap.size := (Array.getElem?_eq_some_iff.1 hr1).1
    have hset : (ChangeMaps.setBlock w1 r (.mapIter (some M) since (seen.push e.born) clock)).heap[r]? = some (.mapIter (some M) since (seen.push e.born) clock) := by
      simp [ChangeMaps.setBlock, hlt]
    have hoth : ∀ c, c ≠ r → (ChangeMaps.setBlock w1 r (.mapIter (some M) since (seen.push e.born) clock)).heap[c]? = w1.heap[c]? := fun c hc => by
      simp [ChangeMaps.setBlock, Ne.symm hc]
    have hM2 := (hoth M (fun e => hne e.symm)).trans hM1
    refine .inr ⟨x, e.val, _, _, k2, by rw [← k1]; exact hrun, ?_, by rw [← h6]; exact left_shrinks es seen e he, ⟨es, clock, since, seen.push e.born, clock, hM2, hset, h3, h5, h5, rfl, h7, h8, h9, fun e' he' hs => ?_⟩, ?_⟩
    · rw [← k1]
      exact run_entry_at _ r M since seen es clock e hset hM2 hem h8
    · rw [Array.contains_push] at hs
      simp only [Bool.or_eq_true, beq_iff_eq] at hs
      rcases hs with hs | hs
      · exact .inl (h10 e' he' hs)
      · exact .inr (by rw [born_inj h8 he' hem (by first | exact hs | exact hs.symm)])
    · rcases hal with rfl | rfl
      · exact ⟨by simp [ChangeMaps.setBlock], hoth, rfl, rfl, rfl⟩
      · exact ⟨by simp [ChangeMaps.setBlock], fun c hc => (hoth c hc).trans rfl, rfl, rfl, rfl⟩
end Go.Proofs.YtcbpjgnbdpfiiaaGreatDoor
