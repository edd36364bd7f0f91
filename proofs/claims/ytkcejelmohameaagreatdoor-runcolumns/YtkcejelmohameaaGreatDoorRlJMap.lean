/-
  A MAP of items to lists of rows: each list is its own.
-/
import Derived.Test.YtkcejelmohameaaGreatDoorRlCMap
set_option linter.unusedVariables false
namespace Go.Proofs.YtkcejelmohameaaGreatDoor
set_option maxRecDepth 100000
open Go.RowKit Go.WideShapes

theorem own_block {w w' : World} {base : Nat} {e : TypeId} {size : Nat} {v : Value} {n : Nat} {xs : List Value} (h : w.ownsRow base e size v n xs) (hb : ∀ b, v.ownBlock = some b → w'.heap[b]? = w.heap[b]?) : w'.ownsRow base e size v n xs := by
  obtain ⟨h1, h2⟩ := h
  refine ⟨h1, ?_⟩
  rcases h2 with h2 | ⟨g, cap, cur, hv, hg, hh, r⟩
  · exact .inl h2
  · exact .inr ⟨g, cap, cur, hv, hg, by rw [hb g (by rw [hv]; rfl)]; exact hh, r⟩
/-- the map: for each item the values of its rows, in a list of its own from base on -/
def JMap (w : World) (M base : Nat) (V : It → List Value) : Prop :=
  ∃ es clock, w.heap[M]? = some (.map es clock) ∧ M < base ∧
    (∀ (i : Nat) (e : MapEntry), es[i]? = some e → ∃ x, e.key = itV x ∧ fitI x ∧ V x ≠ [] ∧ w.ownsRow base 94 1 e.val (V x).length (V x) ∧ e.born < clock) ∧
    (∀ (i j : Nat) (e e' : MapEntry), es[i]? = some e → es[j]? = some e' → i ≠ j → e.key ≠ e'.key ∧ e.born ≠ e'.born ∧ ∀ b, e.val.ownBlock = some b → e'.val.ownBlock ≠ some b) ∧
    (∀ x, V x ≠ [] → ∃ (i : Nat) (e : MapEntry), es[i]? = some e ∧ e.key = itV x)
theorem zeroRows (w : World) : (zeroValue 38).run Tryz.prog w = .ok (.slice none 0 0) w := by kernel_rfl
theorem JMap.made (w : World) (base : Nat) (hb : w.heap.size < base) : JMap (w.alloc (.map #[] 0)) w.heap.size base (fun _ => []) :=
  ⟨#[], 0, heap_alloc_new w _, hb, fun i e h => by simp at h, fun i j e e' h => by simp at h, fun x h => absurd rfl h⟩
theorem JMap.keep {w w' : World} {M base : Nat} {V : It → List Value} (h : JMap w M base V) (hM : w'.heap[M]? = w.heap[M]?) (hb : ∀ b, base ≤ b → b < w.heap.size → w'.heap[b]? = w.heap[b]?) : JMap w' M base V := by
  obtain ⟨es, clock, h1, h2, h3, h4, h5⟩ := h
  refine ⟨es, clock, hM.trans h1, h2, fun i e he => ?_, h4, h5⟩
  obtain ⟨x, k1, k2, k3, k4, k5⟩ := h3 i e he
  exact ⟨x, k1, k2, k3, own_block k4 (fun b hb' => hb b (k4.lt b hb').1 (k4.lt b hb').2), k5⟩
theorem jkeys {es : Array MapEntry} {w : World} {base clock : Nat} {V : It → List Value} (h3 : ∀ (i : Nat) (e : MapEntry), es[i]? = some e → ∃ x, e.key = itV x ∧ fitI x ∧ V x ≠ [] ∧ w.ownsRow base 94 1 e.val (V x).length (V x) ∧ e.born < clock) : ∀ e ∈ es.toList, ∃ l, keyOf Tryz.prog 67 e.key = some l := by
  intro e he
  obtain ⟨i, hi⟩ := List.mem_iff_getElem?.1 he
  obtain ⟨x, k1, k2, _⟩ := h3 i e (by simpa using hi)
  rw [k1]
  exact itV_key x k2
theorem JMap.look {w : World} {M base : Nat} {V : It → List Value} (h : JMap w M base V) {x : It} (hx : fitI x) :
    ∃ v, (Instr.lookup 156 (.map (some M)) (itV x) false).run Tryz.prog w = .ok v w ∧ w.ownsRow base 94 1 v (V x).length (V x) := by
  obtain ⟨es, clock, h1, h2, h3, h4, h5⟩ := h
  obtain ⟨l, hk⟩ := itV_key x hx
  rcases itemLaw.find w hk es.toList (jkeys h3) with ⟨f1, f2⟩ | ⟨j, e0, f1, f2, f3⟩
  · have hV : V x = [] := Classical.byContradiction fun hne => by
      obtain ⟨i, e, k1, k2⟩ := h5 x hne
      exact f2 e (List.mem_iff_getElem?.2 ⟨i, by simpa using k1⟩) k2
    refine ⟨.slice none 0 0, ?_, by rw [hV]; exact World.ownsRow_nil _ _ _ _⟩
    simp [Instr.lookup, run_underlying Tryz.underlying156, MapKept.run_getObj_map h1, itemLaw.check w _ hk, f1, zeroRows w, Result.andThen]
  · obtain ⟨y, k1, k2, k3, k4, _⟩ := h3 j e0 (by simpa using f2)
    have e : y = x := itV_inj (k1.symm.trans f3)
    subst e
    refine ⟨e0.val, ?_, k4⟩
    simp [Instr.lookup, run_underlying Tryz.underlying156, MapKept.run_getObj_map h1, itemLaw.check w _ hk, f1, Result.andThen]
/-- only the map's block is turned -/
def Turned (w w' : World) (M : Nat) : Prop := w'.heap.size = w.heap.size ∧ (∀ c, c ≠ M → w'.heap[c]? = w.heap[c]?) ∧ w'.os = w.os ∧ w'.tape = w.tape ∧ w'.output = w.output
theorem turned_set {w : World} {M : Nat} {es : Array MapEntry} {clock : Nat} (h : w.heap[M]? = some (.map es clock)) (o : Obj) : Turned w (ChangeMaps.setBlock w M o) M :=
  ⟨by simp [ChangeMaps.setBlock], fun c hc => ChangeMaps.heap_setBlock_other h o hc, rfl, rfl, rfl⟩
theorem jstore {w1 w2 : World} {M base i clock1 : Nat} {es1 : Array MapEntry} {V : It → List Value} {x : It} {v v' u : Value} {e1 : MapEntry} (hx : fitI x)
    (hM2 : w2.heap[M]? = some (.map es1 clock1)) (hMb : M < base) (hi : es1[i]? = some e1) (hk1 : e1.key = itV x) (hv1 : e1.val = v) (hb1 : e1.born < clock1)
    (hA : ∀ (j : Nat) (e : MapEntry), es1[j]? = some e → j ≠ i → ∃ y, e.key = itV y ∧ fitI y ∧ V y ≠ [] ∧ w1.ownsRow base 94 1 e.val (V y).length (V y) ∧ e.born < clock1)
    (hC : ∀ (j k : Nat) (e e' : MapEntry), es1[j]? = some e → es1[k]? = some e' → j ≠ k → e.key ≠ e'.key ∧ e.born ≠ e'.born ∧ ∀ b, e.val.ownBlock = some b → e'.val.ownBlock ≠ some b)
    (hD : ∀ y, y ≠ x → V y ≠ [] → ∃ (j : Nat) (e : MapEntry), es1[j]? = some e ∧ e.key = itV y)
    (hsz : w1.heap.size ≤ w2.heap.size) (hbl : ∀ b, base ≤ b → b < w1.heap.size → v.ownBlock ≠ some b → w2.heap[b]? = w1.heap[b]?)
    (hown : w2.ownsRow base 94 1 v' ((V x).length + 1) (V x ++ [u])) (hloc : v'.ownBlock = v.ownBlock ∨ ∃ k, v'.ownBlock = some k ∧ w1.heap.size ≤ k) :
    ∃ w3, (Instr.entryStore 156 (.map (some M)) (.int .i64 (e1.born : Int)) v').run Tryz.prog w2 = .ok () w3 ∧ JMap w3 M base (fun y => if itB y x = true then V x ++ [u] else V y) ∧ Turned w2 w3 M := by
  have hf : es1.findIdx? (fun e => (e.born : Int) == (e1.born : Int)) = some i := by
    rw [Array.findIdx?_eq_some_iff_getElem]
    obtain ⟨hil, hie⟩ := Array.getElem?_eq_some_iff.1 hi
    refine ⟨hil, by rw [hie]; simp, fun j hj => ?_⟩
    have h := (hC j i es1[j] e1 (Array.getElem?_eq_getElem (by omega)) hi (by omega)).2.1
    simp
    omega
  have hT := turned_set hM2 (.map (es1.modify i fun e => { e with val := v' }) clock1)
  refine ⟨_, ?_, ⟨es1.modify i fun e => { e with val := v' }, clock1, ChangeMaps.heap_setBlock_same hM2 _, hMb, ?_, ?_, ?_⟩, hT⟩
  · simp [Instr.entryStore, MapKept.run_getObj_map hM2, asInt, asIntOf, hf, MapKept.run_setObj_map _ hM2, Result.andThen, ChangeMaps.setBlock]
  · intro j e he
    rw [Array.getElem?_modify] at he
    by_cases hj : i = j
    · subst hj
      rw [if_pos rfl, hi] at he
      simp at he
      subst he
      have hB : itB x x = true := itB_iff.2 rfl
      refine ⟨x, hk1, hx, ?_, ?_, hb1⟩
      · simp [hB]
      · simp only [hB, if_true, List.length_append, List.length_singleton]
        exact own_block hown (fun b hb => hT.2.1 b (by have := (hown.lt b hb).1; omega))
    · rw [if_neg hj] at he
      obtain ⟨y, q1, q2, q3, q4, q5⟩ := hA j e he (fun h => hj h.symm)
      have hyx : itB y x = false := by
        cases h : itB y x
        · rfl
        · exact absurd (by rw [q1, hk1, itB_iff.1 h]) (hC j i e e1 he hi (fun h => hj h.symm)).1
      refine ⟨y, q1, q2, ?_, ?_, q5⟩
      · simpa [hyx] using q3
      · simp only [hyx]
        refine own_block q4 (fun b hb => ?_)
        have hl := q4.lt b hb
        rw [hT.2.1 b (by omega)]
        exact hbl b hl.1 hl.2 (by
          have := (hC j i e e1 he hi (fun h => hj h.symm)).2.2 b hb
          rwa [hv1] at this)
  · intro j k e e' he he' hjk
    rw [Array.getElem?_modify] at he he'
    by_cases hj : i = j
    · subst hj
      rw [if_pos rfl, hi] at he
      rw [if_neg hjk] at he'
      simp at he
      subst he
      have h := hC i k e1 e' hi he' hjk
      refine ⟨h.1, h.2.1, fun b hb => ?_⟩
      rcases hloc with hl | ⟨g, hl, hg⟩
      · have hb' : v'.ownBlock = some b := hb
        rw [hl, ← hv1] at hb'
        exact h.2.2 b hb'
      · intro hc
        obtain ⟨y, _, _, _, q4, _⟩ := hA k e' he' (fun h => hjk h.symm)
        have := (q4.lt b hc).2
        have hb' : v'.ownBlock = some b := hb
        rw [hl] at hb'
        have := Option.some.inj hb'
        omega
    · rw [if_neg hj] at he
      by_cases hk : i = k
      · subst hk
        rw [if_pos rfl, hi] at he'
        simp at he'
        subst he'
        have h := hC j i e e1 he hi hjk
        refine ⟨h.1, h.2.1, fun b hb hc => ?_⟩
        have hc' : v'.ownBlock = some b := hc
        rcases hloc with hl | ⟨g, hl, hg⟩
        · rw [hl, ← hv1] at hc'
          exact h.2.2 b hb hc'
        · obtain ⟨y, _, _, _, q4, _⟩ := hA j e he (fun h => hj h.symm)
          have := (q4.lt b hb).2
          rw [hl] at hc'
          have := Option.some.inj hc'
          omega
      · rw [if_neg hk] at he'
        exact hC j k e e' he he' hjk
  · intro y hy
    by_cases hyx : y = x
    · subst hyx
      exact ⟨i, { e1 with val := v' }, by rw [Array.getElem?_modify, if_pos rfl, hi]; rfl, hk1⟩
    · have hB : itB y x = false := by
        cases h : itB y x
        · rfl
        · exact absurd (itB_iff.1 h) hyx
      have hy' : V y ≠ [] := by simpa [hB] using hy
      obtain ⟨j, e, q1, q2⟩ := hD y hyx hy'
      have hj : i ≠ j := by
        rintro rfl
        rw [hi] at q1
        cases q1
        exact hyx (itV_inj (q2.symm.trans hk1))
      exact ⟨j, e, by rw [Array.getElem?_modify, if_neg hj]; exact q1, q2⟩
theorem JMap.entry {w : World} {M base : Nat} {V : It → List Value} (h : JMap w M base V) {x : It} (hx : fitI x) :
    ∃ (v : Value) (stamp : Int) (w1 : World), (Instr.mapEntry 156 (.map (some M)) (itV x)).run Tryz.prog w = .ok (.tuple #[v, .int .i64 stamp]) w1 ∧ w1.ownsRow base 94 1 v (V x).length (V x) ∧ Turned w w1 M ∧
      ∀ (w2 : World) (v' u : Value), w2.heap[M]? = w1.heap[M]? → w1.heap.size ≤ w2.heap.size → (∀ b, base ≤ b → b < w1.heap.size → v.ownBlock ≠ some b → w2.heap[b]? = w1.heap[b]?) → w2.ownsRow base 94 1 v' ((V x).length + 1) (V x ++ [u]) → (v'.ownBlock = v.ownBlock ∨ ∃ k, v'.ownBlock = some k ∧ w1.heap.size ≤ k) →
        ∃ w3, (Instr.entryStore 156 (.map (some M)) (.int .i64 stamp) v').run Tryz.prog w2 = .ok () w3 ∧ JMap w3 M base (fun y => if itB y x = true then V x ++ [u] else V y) ∧ Turned w2 w3 M := by
  obtain ⟨es, clock, h1, h2, h3, h4, h5⟩ := h
  obtain ⟨l, hk⟩ := itV_key x hx
  rcases itemLaw.find w hk es.toList (jkeys h3) with ⟨f1, f2⟩ | ⟨j, e0, f1, f2, f3⟩
  · have hV : V x = [] := Classical.byContradiction fun hne => by
      obtain ⟨i, e, k1, k2⟩ := h5 x hne
      exact f2 e (List.mem_iff_getElem?.2 ⟨i, by simpa using k1⟩) k2
    have hT := turned_set h1 (.map (es.push { key := itV x, val := .slice none 0 0, born := clock }) (clock + 1))
    refine ⟨.slice none 0 0, (clock : Int), _, ?_, by rw [hV]; exact World.ownsRow_nil _ _ _ _, hT, ?_⟩
    · simp [Instr.mapEntry, run_underlying Tryz.underlying156, MapKept.run_getObj_map h1, itemLaw.check w _ hk, f1, zeroRows w, MapKept.run_setObj_map _ h1, Result.andThen, ChangeMaps.setBlock, goInt]
    · intro w2 v' u q1 q2 q3 q4 q5
      have hA' : ∀ (i : Nat) (e : MapEntry), (es.push { key := itV x, val := .slice none 0 0, born := clock })[i]? = some e → i ≠ es.size → es[i]? = some e := fun i e he hne => by
        rw [Array.getElem?_push, if_neg hne] at he
        exact he
      have hlast : (es.push { key := itV x, val := .slice none 0 0, born := clock })[es.size]? = some { key := itV x, val := .slice none 0 0, born := clock } := by simp
      have hne : ∀ (i : Nat) (e : MapEntry), es[i]? = some e → e.key ≠ itV x := fun i e he => f2 e (List.mem_iff_getElem?.2 ⟨i, by simpa using he⟩)
      refine jstore (w1 := ChangeMaps.setBlock w M (.map (es.push { key := itV x, val := .slice none 0 0, born := clock }) (clock + 1))) (v := .slice none 0 0) (i := es.size) (e1 := { key := itV x, val := .slice none 0 0, born := clock }) hx (q1.trans (ChangeMaps.heap_setBlock_same h1 _)) h2 hlast rfl rfl (Nat.lt_succ_self _) ?_ ?_ ?_ q2 q3 q4 q5
      · intro i e he hi
        obtain ⟨y, r1, r2, r3, r4, r5⟩ := h3 i e (hA' i e he hi)
        exact ⟨y, r1, r2, r3, own_block r4 (fun b hb => hT.2.1 b (by have := (r4.lt b hb).1; omega)), by omega⟩
      · intro i k e e' he he' hik
        by_cases hi : i = es.size
        · subst hi
          rw [hlast] at he
          cases he
          have he2 := hA' k e' he' (fun h => hik h.symm)
          obtain ⟨y, _, _, _, _, r5⟩ := h3 k e' he2
          exact ⟨fun h => hne k e' he2 h.symm, by show clock ≠ e'.born; omega, fun b hb => nomatch hb⟩
        · have he1 := hA' i e he hi
          by_cases hkk : k = es.size
          · subst hkk
            rw [hlast] at he'
            cases he'
            obtain ⟨y, _, _, _, _, r5⟩ := h3 i e he1
            exact ⟨hne i e he1, by show e.born ≠ clock; omega, fun b hb => by intro h; cases h⟩
          · exact h4 i k e e' he1 (hA' k e' he' hkk) hik
      · intro y hy hVy
        obtain ⟨i, e, r1, r2⟩ := h5 y hVy
        have hil := (Array.getElem?_eq_some_iff.1 r1).1
        exact ⟨i, e, by rw [Array.getElem?_push, if_neg (by omega)]; exact r1, r2⟩
  · have hj : es[j]? = some e0 := by simpa using f2
    obtain ⟨y, k1, k2, k3, k4, k5⟩ := h3 j e0 hj
    have e : y = x := itV_inj (k1.symm.trans f3)
    subst e
    have hsame : es.modify j (fun e => { e with key := itV y }) = es := by
      apply Array.ext_getElem?
      intro i
      rw [Array.getElem?_modify]
      by_cases hi : j = i
      · subst hi
        rw [if_pos rfl, hj]
        simp [← f3]
      · rw [if_neg hi]
    have hT := turned_set h1 (.map es clock)
    refine ⟨e0.val, (e0.born : Int), ChangeMaps.setBlock w M (.map es clock), ?_, own_block k4 (fun b hb => hT.2.1 b (by have := (k4.lt b hb).1; omega)), hT, ?_⟩
    · have hst := itemLaw.stays w hk
      simp [Instr.mapEntry, run_underlying Tryz.underlying156, MapKept.run_getObj_map h1, itemLaw.check w _ hk, f1, hj, f3, hst, hsame, MapKept.run_setObj_map _ h1, Result.andThen, ChangeMaps.setBlock, goInt]
    · intro w2 v' u q1 q2 q3 q4 q5
      refine jstore (w1 := ChangeMaps.setBlock w M (.map es clock)) (v := e0.val) (i := j) (e1 := e0) hx (q1.trans (ChangeMaps.heap_setBlock_same h1 _)) h2 hj f3 rfl k5 ?_ h4 (fun z hz hV => h5 z hV) q2 q3 q4 q5
      intro i e' he hi
      obtain ⟨z, r1, r2, r3, r4, r5⟩ := h3 i e' he
      exact ⟨z, r1, r2, r3, own_block r4 (fun b hb => hT.2.1 b (by have := (r4.lt b hb).1; omega)), r5⟩
end Go.Proofs.YtkcejelmohameaaGreatDoor
