/-
  A MAP of items to how many there were.
-/
import Derived.Test.YtlblomlblibbdaaDoorRlItKey
set_option linter.unusedVariables false
namespace Go.Proofs.YtlblomlblibbdaaDoor
set_option maxRecDepth 100000
open Go.RowKit Go.WideShapes

/-- the map: for each item its number, if it is not 0 -/
def CMap (w : World) (M : Nat) (V : It → Nat) : Prop :=
  ∃ es clock, w.heap[M]? = some (.map es clock) ∧
    (∀ (i : Nat) (e : MapEntry), es[i]? = some e → ∃ x, e.key = itV x ∧ fitI x ∧ V x ≠ 0 ∧ e.val = .int .i64 (V x : Int) ∧ e.born < clock) ∧
    (∀ (i j : Nat) (e e' : MapEntry), es[i]? = some e → es[j]? = some e' → i ≠ j → e.key ≠ e'.key ∧ e.born ≠ e'.born) ∧
    (∀ x, V x ≠ 0 → ∃ (i : Nat) (e : MapEntry), es[i]? = some e ∧ e.key = itV x)
theorem zeroInt (w : World) : (zeroValue 3).run Tryd.prog w = .ok (.int .i64 0) w := by kernel_rfl
theorem CMap.made (w : World) : CMap (w.alloc (.map #[] 0)) w.heap.size (fun _ => 0) :=
  ⟨#[], 0, heap_alloc_new w _, fun i e h => by simp at h, fun i j e e' h => by simp at h, fun x h => absurd rfl h⟩
theorem CMap.keep {w w' : World} {M : Nat} {V : It → Nat} (h : CMap w M V) (hM : w'.heap[M]? = w.heap[M]?) : CMap w' M V := by
  obtain ⟨es, clock, h1, h2⟩ := h
  exact ⟨es, clock, hM.trans h1, h2⟩
theorem CMap.lt {w : World} {M : Nat} {V : It → Nat} (h : CMap w M V) : M < w.heap.size := by
  obtain ⟨es, clock, h1, _⟩ := h
  exact (Array.getElem?_eq_some_iff.1 h1).1
theorem CMap.congr {w : World} {M : Nat} {V V' : It → Nat} (h : CMap w M V) (e : ∀ x, V x = V' x) : CMap w M V' := by
  have : V = V' := funext e
  rw [← this]; exact h
theorem ckeys {es : Array MapEntry} {clock : Nat} {V : It → Nat} (h3 : ∀ (i : Nat) (e : MapEntry), es[i]? = some e → ∃ x, e.key = itV x ∧ fitI x ∧ V x ≠ 0 ∧ e.val = .int .i64 (V x : Int) ∧ e.born < clock) : ∀ e ∈ es.toList, ∃ l, keyOf Tryd.prog 38 e.key = some l := by
  intro e he
  obtain ⟨i, hi⟩ := List.mem_iff_getElem?.1 he
  obtain ⟨x, k1, k2, _⟩ := h3 i e (by simpa using hi)
  rw [k1]
  exact itV_key x k2
theorem CMap.look {w : World} {M : Nat} {V : It → Nat} (h : CMap w M V) {x : It} (hx : fitI x) :
    (Instr.lookup 44 (.map (some M)) (itV x) false).run Tryd.prog w = .ok (.int .i64 (V x : Int)) w := by
  obtain ⟨es, clock, h1, h3, h4, h5⟩ := h
  obtain ⟨l, hk⟩ := itV_key x hx
  rcases itemLaw.find w hk es.toList (ckeys h3) with ⟨f1, f2⟩ | ⟨j, e0, f1, f2, f3⟩
  · have hV : V x = 0 := Classical.byContradiction fun hne => by
      obtain ⟨i, e, k1, k2⟩ := h5 x hne
      exact f2 e (List.mem_iff_getElem?.2 ⟨i, by simpa using k1⟩) k2
    simp [Instr.lookup, run_underlying Tryd.underlying44, MapKept.run_getObj_map h1, itemLaw.check w _ hk, f1, zeroInt w, Result.andThen, hV]
  · obtain ⟨y, k1, k2, k3, k4, _⟩ := h3 j e0 (by simpa using f2)
    have e : y = x := itV_inj (k1.symm.trans f3)
    subst e
    simp [Instr.lookup, run_underlying Tryd.underlying44, MapKept.run_getObj_map h1, itemLaw.check w _ hk, f1, Result.andThen, k4]
/-- only the map's block is turned -/
def TurnedC (w w' : World) (M : Nat) : Prop := w'.heap.size = w.heap.size ∧ (∀ c, c ≠ M → w'.heap[c]? = w.heap[c]?) ∧ w'.os = w.os ∧ w'.tape = w.tape ∧ w'.output = w.output
theorem turnedC_set {w : World} {M : Nat} {es : Array MapEntry} {clock : Nat} (h : w.heap[M]? = some (.map es clock)) (o : Obj) : TurnedC w (ChangeMaps.setBlock w M o) M :=
  ⟨by simp [ChangeMaps.setBlock], fun c hc => ChangeMaps.heap_setBlock_other h o hc, rfl, rfl, rfl⟩
theorem cstore {w2 : World} {M i clock1 N : Nat} {es1 : Array MapEntry} {V : It → Nat} {x : It} {e1 : MapEntry} (hx : fitI x) (hN : N ≠ 0)
    (hM2 : w2.heap[M]? = some (.map es1 clock1)) (hi : es1[i]? = some e1) (hk1 : e1.key = itV x) (hb1 : e1.born < clock1)
    (hA : ∀ (j : Nat) (e : MapEntry), es1[j]? = some e → j ≠ i → ∃ y, e.key = itV y ∧ fitI y ∧ V y ≠ 0 ∧ e.val = .int .i64 (V y : Int) ∧ e.born < clock1)
    (hC : ∀ (j k : Nat) (e e' : MapEntry), es1[j]? = some e → es1[k]? = some e' → j ≠ k → e.key ≠ e'.key ∧ e.born ≠ e'.born)
    (hD : ∀ y, y ≠ x → V y ≠ 0 → ∃ (j : Nat) (e : MapEntry), es1[j]? = some e ∧ e.key = itV y) :
    ∃ w3, (Instr.entryStore 44 (.map (some M)) (.int .i64 (e1.born : Int)) (.int .i64 (N : Int))).run Tryd.prog w2 = .ok () w3 ∧ CMap w3 M (fun y => if itB y x = true then N else V y) ∧ TurnedC w2 w3 M := by
  have hf : es1.findIdx? (fun e => (e.born : Int) == (e1.born : Int)) = some i := by
    rw [Array.findIdx?_eq_some_iff_getElem]
    obtain ⟨hil, hie⟩ := Array.getElem?_eq_some_iff.1 hi
    refine ⟨hil, by rw [hie]; simp, fun j hj => ?_⟩
    have h := (hC j i es1[j] e1 (Array.getElem?_eq_getElem (by omega)) hi (by omega)).2
    simp
    omega
  have hT := turnedC_set hM2 (.map (es1.modify i fun e => { e with val := .int .i64 (N : Int) }) clock1)
  have hB : itB x x = true := itB_iff.2 rfl
  refine ⟨_, ?_, ⟨es1.modify i fun e => { e with val := .int .i64 (N : Int) }, clock1, ChangeMaps.heap_setBlock_same hM2 _, ?_, ?_, ?_⟩, hT⟩
  · simp [Instr.entryStore, MapKept.run_getObj_map hM2, asInt, asIntOf, hf, MapKept.run_setObj_map _ hM2, Result.andThen, ChangeMaps.setBlock]
  · intro j e he
    rw [Array.getElem?_modify] at he
    by_cases hj : i = j
    · subst hj
      rw [if_pos rfl, hi] at he
      simp at he
      subst he
      exact ⟨x, hk1, hx, by simpa [hB] using hN, by simp [hB], hb1⟩
    · rw [if_neg hj] at he
      obtain ⟨y, q1, q2, q3, q4, q5⟩ := hA j e he (fun h => hj h.symm)
      have hyx : itB y x = false := by
        cases h : itB y x
        · rfl
        · exact absurd (by rw [q1, hk1, itB_iff.1 h]) (hC j i e e1 he hi (fun h => hj h.symm)).1
      exact ⟨y, q1, q2, by simpa [hyx] using q3, by simpa [hyx] using q4, q5⟩
  · intro j k e e' he he' hjk
    rw [Array.getElem?_modify] at he he'
    by_cases hj : i = j
    · subst hj
      rw [if_pos rfl, hi] at he
      rw [if_neg hjk] at he'
      simp at he
      subst he
      exact hC i k e1 e' hi he' hjk
    · rw [if_neg hj] at he
      by_cases hk : i = k
      · subst hk
        rw [if_pos rfl, hi] at he'
        simp at he'
        subst he'
        exact hC j i e e1 he hi hjk
      · rw [if_neg hk] at he'
        exact hC j k e e' he he' hjk
  · intro y hy
    by_cases hyx : y = x
    · subst hyx
      exact ⟨i, { e1 with val := .int .i64 (N : Int) }, by rw [Array.getElem?_modify, if_pos rfl, hi]; rfl, hk1⟩
    · have hB : itB y x = false := by
        cases h : itB y x
        · rfl
        · exact absurd (itB_iff.1 h) hyx
      have hy' : V y ≠ 0 := by simpa [hB] using hy
      obtain ⟨j, e, q1, q2⟩ := hD y hyx hy'
      have hj : i ≠ j := by
        rintro rfl
        rw [hi] at q1
        cases q1
        exact hyx (itV_inj (q2.symm.trans hk1))
      exact ⟨j, e, by rw [Array.getElem?_modify, if_neg hj]; exact q1, q2⟩
theorem CMap.entry {w : World} {M : Nat} {V : It → Nat} (h : CMap w M V) {x : It} (hx : fitI x) :
    ∃ (stamp : Int) (w1 : World), (Instr.mapEntry 44 (.map (some M)) (itV x)).run Tryd.prog w = .ok (.tuple #[.int .i64 (V x : Int), .int .i64 stamp]) w1 ∧ TurnedC w w1 M ∧ (Instr.lookup 44 (.map (some M)) (itV x) false).run Tryd.prog w1 = .ok (.int .i64 (V x : Int)) w1 ∧
      ∀ (w2 : World) (N : Nat), N ≠ 0 → w2.heap[M]? = w1.heap[M]? →
        ∃ w3, (Instr.entryStore 44 (.map (some M)) (.int .i64 stamp) (.int .i64 (N : Int))).run Tryd.prog w2 = .ok () w3 ∧ CMap w3 M (fun y => if itB y x = true then N else V y) ∧ TurnedC w2 w3 M := by
  obtain ⟨es, clock, h1, h3, h4, h5⟩ := h
  obtain ⟨l, hk⟩ := itV_key x hx
  rcases itemLaw.find w hk es.toList (ckeys h3) with ⟨f1, f2⟩ | ⟨j, e0, f1, f2, f3⟩
  · have hV : V x = 0 := Classical.byContradiction fun hne => by
      obtain ⟨i, e, k1, k2⟩ := h5 x hne
      exact f2 e (List.mem_iff_getElem?.2 ⟨i, by simpa using k1⟩) k2
    have hT := turnedC_set h1 (.map (es.push { key := itV x, val := .int .i64 0, born := clock }) (clock + 1))
    refine ⟨(clock : Int), _, ?_, hT, ?_, ?_⟩
    rotate_left
    · have h1' := ChangeMaps.heap_setBlock_same h1 (.map (es.push { key := itV x, val := .int .i64 0, born := clock }) (clock + 1))
      have hkeys : ∀ e ∈ (es.push { key := itV x, val := .int .i64 0, born := clock }).toList, ∃ l, keyOf Tryd.prog 38 e.key = some l := fun e he => by
        rw [Array.toList_push] at he
        rcases List.mem_append.1 he with he | he
        · exact ckeys h3 e he
        · rw [List.mem_singleton.1 he]; exact itV_key x hx
      rcases itemLaw.find (ChangeMaps.setBlock w M (.map (es.push { key := itV x, val := .int .i64 0, born := clock }) (clock + 1))) hk _ hkeys with ⟨g1, g2⟩ | ⟨j, e0, g1, g2, g3⟩
      · exact absurd rfl (g2 { key := itV x, val := .int .i64 0, born := clock } (by simp))
      · have hv0 : e0.val = .int .i64 0 := by
          have hm : e0 ∈ (es.push { key := itV x, val := .int .i64 0, born := clock }).toList := List.mem_iff_getElem?.2 ⟨j, g2⟩
          rw [Array.toList_push] at hm
          rcases List.mem_append.1 hm with hm | hm
          · exact absurd g3 (f2 e0 hm)
          · rw [List.mem_singleton.1 hm]
        rw [hV]
        rw [Array.toList_push] at g1
        simp [Instr.lookup, run_underlying Tryd.underlying44, MapKept.run_getObj_map h1', itemLaw.check _ _ hk, g1, Result.andThen, hv0]
    rotate_left
    · rw [hV]
      simp [Instr.mapEntry, run_underlying Tryd.underlying44, MapKept.run_getObj_map h1, itemLaw.check w _ hk, f1, zeroInt w, MapKept.run_setObj_map _ h1, Result.andThen, ChangeMaps.setBlock, goInt]
    · intro w2 N hN q1
      have hA' : ∀ (i : Nat) (e : MapEntry), (es.push { key := itV x, val := .int .i64 0, born := clock })[i]? = some e → i ≠ es.size → es[i]? = some e := fun i e he hne => by
        rw [Array.getElem?_push, if_neg hne] at he
        exact he
      have hlast : (es.push { key := itV x, val := .int .i64 0, born := clock })[es.size]? = some { key := itV x, val := .int .i64 0, born := clock } := by simp
      have hne : ∀ (i : Nat) (e : MapEntry), es[i]? = some e → e.key ≠ itV x := fun i e he => f2 e (List.mem_iff_getElem?.2 ⟨i, by simpa using he⟩)
      refine cstore (i := es.size) (e1 := { key := itV x, val := .int .i64 0, born := clock }) hx hN (q1.trans (ChangeMaps.heap_setBlock_same h1 _)) hlast rfl (Nat.lt_succ_self _) ?_ ?_ ?_
      · intro i e he hi
        obtain ⟨y, r1, r2, r3, r4, r5⟩ := h3 i e (hA' i e he hi)
        exact ⟨y, r1, r2, r3, r4, by omega⟩
      · intro i k e e' he he' hik
        by_cases hi : i = es.size
        · subst hi
          rw [hlast] at he
          cases he
          have he2 := hA' k e' he' (fun h => hik h.symm)
          obtain ⟨y, _, _, _, _, r5⟩ := h3 k e' he2
          exact ⟨fun h => hne k e' he2 h.symm, by show clock ≠ e'.born; omega⟩
        · have he1 := hA' i e he hi
          by_cases hkk : k = es.size
          · subst hkk
            rw [hlast] at he'
            cases he'
            obtain ⟨y, _, _, _, _, r5⟩ := h3 i e he1
            exact ⟨hne i e he1, by show e.born ≠ clock; omega⟩
          · exact h4 i k e e' he1 (hA' k e' he' hkk) hik
      · intro y hy hVy
        obtain ⟨i, e, r1, r2⟩ := h5 y hVy
        have hil := (Array.getElem?_eq_some_iff.1 r1).1
        exact ⟨i, e, by rw [Array.getElem?_push, if_neg (by omega)]; exact r1, r2⟩
  · have hj : es[j]? = some e0 := by simpa using f2
    obtain ⟨y, k1, k2, k3, k4, k5⟩ := h3 j e0 hj
    have e : y = x := itV_inj (k1.symm.trans f3)
    subst e
    have hsame : es.modify j (fun e => { e with key := itV y }) = es := by
      apply Array.ext_getElem?
      intro i
      rw [Array.getElem?_modify]
      by_cases hi : j = i
      · subst hi
        rw [if_pos rfl, hj]
        simp [← f3]
      · rw [if_neg hi]
    have hT := turnedC_set h1 (.map es clock)
    refine ⟨(e0.born : Int), ChangeMaps.setBlock w M (.map es clock), ?_, hT, CMap.look (⟨es, clock, ChangeMaps.heap_setBlock_same h1 _, h3, h4, h5⟩ : CMap _ M V) hx, ?_⟩
    · have hst := itemLaw.stays w hk
      simp [Instr.mapEntry, run_underlying Tryd.underlying44, MapKept.run_getObj_map h1, itemLaw.check w _ hk, f1, hj, f3, hst, hsame, MapKept.run_setObj_map _ h1, Result.andThen, ChangeMaps.setBlock, goInt, k4]
    · intro w2 N hN q1
      refine cstore (i := j) (e1 := e0) hx hN (q1.trans (ChangeMaps.heap_setBlock_same h1 _)) hj f3 k5 ?_ h4 (fun z hz hV => h5 z hV)
      intro i e' he hi
      exact h3 i e' he
end Go.Proofs.YtlblomlblibbdaaDoor
