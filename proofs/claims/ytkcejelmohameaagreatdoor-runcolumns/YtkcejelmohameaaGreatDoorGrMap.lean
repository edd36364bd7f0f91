/-
  A MAP of parts to their places, in the order in which they came; rows of one's own, each in a block of its own.
-/
import Derived.Test.YtkcejelmohameaaGreatDoorRlCMap
import Derived.Test.YtkcejelmohameaaGreatDoorRlSameI
import Derived.Test.YtkcejelmohameaaGreatDoorRlCMap
import Derived.Laws.OwnMore
import Derived.OwnWalk
import Derived.Sort.Row
set_option linter.unusedVariables false
namespace Go.Proofs.YtkcejelmohameaaGreatDoor
set_option maxRecDepth 100000
open Go.RowKit Go.WideShapes

/-- the map: the i-th entry is the i-th part's place -/
def PMap (w : World) (M n : Nat) (K : Nat → It) : Prop :=
  ∃ es clock, w.heap[M]? = some (.map es clock) ∧ es.size = n ∧ ∀ i, i < n → fitI (K i) ∧ ∃ e : MapEntry, es[i]? = some e ∧ e.key = itV (K i) ∧ e.val = .int .i64 (i : Int)
theorem zeroIntG (w : World) : (zeroValue 3).run Tryz.prog w = .ok (.int .i64 0) w := by kernel_rfl
theorem PMap.made (w : World) (K : Nat → It) : PMap (w.alloc (.map #[] 0)) w.heap.size 0 K := ⟨#[], 0, heap_alloc_new w _, rfl, fun i h => by omega⟩
theorem PMap.keep {w w' : World} {M n : Nat} {K : Nat → It} (h : PMap w M n K) (hM : w'.heap[M]? = w.heap[M]?) : PMap w' M n K := by
  obtain ⟨es, clock, h1, h2⟩ := h
  exact ⟨es, clock, hM.trans h1, h2⟩
theorem PMap.lt {w : World} {M n : Nat} {K : Nat → It} (h : PMap w M n K) : M < w.heap.size := by
  obtain ⟨es, clock, h1, _⟩ := h
  exact (Array.getElem?_eq_some_iff.1 h1).1
theorem pkeys {es : Array MapEntry} {n : Nat} {K : Nat → It} (hs : es.size = n) (h : ∀ i, i < n → fitI (K i) ∧ ∃ e : MapEntry, es[i]? = some e ∧ e.key = itV (K i) ∧ e.val = .int .i64 (i : Int)) : ∀ e ∈ es.toList, ∃ l, keyOf Tryz.prog 67 e.key = some l := by
  intro e he
  obtain ⟨i, hi⟩ := List.mem_iff_getElem?.1 he
  have hi' : es[i]? = some e := by simpa using hi
  have hl := (Array.getElem?_eq_some_iff.1 hi').1
  obtain ⟨h1, e', h2, h3, _⟩ := h i (by omega)
  rw [hi'] at h2
  cases h2
  rw [h3]
  exact itV_key _ h1
theorem PMap.look_yes {w : World} {M n i : Nat} {K : Nat → It} (h : PMap w M n K) (hi : i < n) (hinj : ∀ j, j < n → K j = K i → j = i) :
    (Instr.lookup 141 (.map (some M)) (itV (K i)) true).run Tryz.prog w = .ok (.tuple #[.int .i64 (i : Int), .bool true]) w := by
  obtain ⟨es, clock, h1, h2, h3⟩ := h
  obtain ⟨hf, e, k1, k2, k3⟩ := h3 i hi
  obtain ⟨l, hk⟩ := itV_key (K i) hf
  rcases itemLaw.find w hk es.toList (pkeys h2 h3) with ⟨f1, f2⟩ | ⟨j, e0, f1, f2, f3⟩
  · exact absurd k2 (f2 e (List.mem_iff_getElem?.2 ⟨i, by simpa using k1⟩))
  · have f2' : es[j]? = some e0 := by simpa using f2
    have hl := (Array.getElem?_eq_some_iff.1 f2').1
    obtain ⟨_, e1, q1, q2, q3⟩ := h3 j (by omega)
    rw [f2'] at q1
    cases q1
    have hj : j = i := hinj j (by omega) (itV_inj (q2.symm.trans f3))
    subst hj
    simp [Instr.lookup, run_underlying Tryz.underlying141, MapKept.run_getObj_map h1, itemLaw.check w _ hk, f1, Result.andThen, q3]
theorem PMap.look_no {w : World} {M n : Nat} {K : Nat → It} (h : PMap w M n K) {x : It} (hx : fitI x) (hno : ∀ j, j < n → K j ≠ x) :
    (Instr.lookup 141 (.map (some M)) (itV x) true).run Tryz.prog w = .ok (.tuple #[.int .i64 0, .bool false]) w := by
  obtain ⟨es, clock, h1, h2, h3⟩ := h
  obtain ⟨l, hk⟩ := itV_key x hx
  rcases itemLaw.find w hk es.toList (pkeys h2 h3) with ⟨f1, f2⟩ | ⟨j, e0, f1, f2, f3⟩
  · simp [Instr.lookup, run_underlying Tryz.underlying141, MapKept.run_getObj_map h1, itemLaw.check w _ hk, f1, zeroIntG w, Result.andThen]
  · have f2' : es[j]? = some e0 := by simpa using f2
    have hl := (Array.getElem?_eq_some_iff.1 f2').1
    obtain ⟨_, e1, q1, q2, q3⟩ := h3 j (by omega)
    rw [f2'] at q1
    cases q1
    exact absurd (itV_inj (q2.symm.trans f3)) (hno j (by omega))
/-- only the map's block is turned -/
def TurnedP (w w' : World) (M : Nat) : Prop := w'.heap.size = w.heap.size ∧ (∀ c, c ≠ M → w'.heap[c]? = w.heap[c]?) ∧ w'.os = w.os ∧ w'.tape = w.tape ∧ w'.output = w.output
theorem PMap.put {w : World} {M n : Nat} {K : Nat → It} (h : PMap w M n K) (hx : fitI (K n)) (hno : ∀ j, j < n → K j ≠ K n) :
    ∃ w', (Instr.mapUpdate 141 (.map (some M)) (itV (K n)) (.int .i64 (n : Int))).run Tryz.prog w = .ok () w' ∧ PMap w' M (n + 1) K ∧ TurnedP w w' M := by
  obtain ⟨es, clock, h1, h2, h3⟩ := h
  obtain ⟨l, hk⟩ := itV_key (K n) hx
  rcases itemLaw.find w hk es.toList (pkeys h2 h3) with ⟨f1, f2⟩ | ⟨j, e0, f1, f2, f3⟩
  · refine ⟨ChangeMaps.setBlock w M (.map (es.push { key := itV (K n), val := .int .i64 (n : Int), born := clock }) (clock + 1)), ?_, ⟨_, _, ChangeMaps.heap_setBlock_same h1 _, by simp [h2], fun i hi => ?_⟩, by simp [ChangeMaps.setBlock], fun c hc => ChangeMaps.heap_setBlock_other h1 _ hc, rfl, rfl, rfl⟩
    · simp [Instr.mapUpdate, run_underlying Tryz.underlying141, MapKept.run_getObj_map h1, itemLaw.check w _ hk, f1, MapKept.run_setObj_map _ h1, Result.andThen, ChangeMaps.setBlock]
    · by_cases e : i = n
      · subst e
        exact ⟨hx, { key := itV (K i), val := .int .i64 (i : Int), born := clock }, by rw [Array.getElem?_push, if_pos h2.symm], rfl, rfl⟩
      · obtain ⟨q0, e1, q1, q2⟩ := h3 i (by omega)
        exact ⟨q0, e1, by rw [Array.getElem?_push, if_neg (by omega)]; exact q1, q2⟩
  · have f2' : es[j]? = some e0 := by simpa using f2
    have hl := (Array.getElem?_eq_some_iff.1 f2').1
    obtain ⟨_, e1, q1, q2, q3⟩ := h3 j (by omega)
    rw [f2'] at q1
    cases q1
    exact absurd (itV_inj (q2.symm.trans f3)) (hno j (by omega))

/-- the cells of a row of two items -/
def cellsTwo (x y : It) : Array Value := #[.int .i64 x.kind, .int .i64 x.n, .string x.s, .int .i64 y.kind, .int .i64 y.n, .string y.s]
/-- rows of two items, each in a block of its own, all behind M -/
def GrpRows (w : World) (M : Nat) (v : Value) (k : Nat) (S : Nat → Row) (blk : Nat → Nat) : Prop :=
  w.ownsRow (M + 1) 94 1 v k ((List.range k).map fun j => .slice (some ⟨blk j, 0, none⟩) 2 2) ∧
    (∀ j, j < k → (S j).len = 2 ∧ M < blk j ∧ v.ownBlock ≠ some (blk j) ∧ w.heap[blk j]? = some (.cells (cellsTwo ((S j).at_ 0) ((S j).at_ 1)) 67)) ∧
    (∀ i j, i < k → j < k → blk i = blk j → i = j)
theorem own_base {w : World} {B B' : Nat} {e : TypeId} {v : Value} {n : Nat} {xs : List Value} (h : w.ownsRow B e 1 v n xs) (hB : B' ≤ B) : w.ownsRow B' e 1 v n xs := by
  obtain ⟨h1, h2 | ⟨g, cap, cur, h2, h3, h4⟩⟩ := h
  · exact ⟨h1, .inl h2⟩
  · exact ⟨h1, .inr ⟨g, cap, cur, h2, by omega, h4⟩⟩
theorem GrpRows.nil (w : World) (M : Nat) (S : Nat → Row) (blk : Nat → Nat) : GrpRows w M (.slice none 0 0) 0 S blk := ⟨⟨rfl, .inl ⟨rfl, rfl⟩⟩, fun j h => by omega, fun i j h => by omega⟩
theorem GrpRows.two {w : World} {B T M : Nat} {v : Value} {k : Nat} {S : Nat → Row} {blk : Nat → Nat} (h : GrpRows w M v k S blk) (hB : B ≤ T) (hT : T < M) : RowsTwo w B T v k S := by
  obtain ⟨h1, h3, _⟩ := h
  refine ⟨_, own_base h1 (by omega), fun e => by have := (h1.lt T e).1; omega, fun i hi => ⟨.slice (some ⟨blk i, 0, none⟩) 2 2, by simp [hi], ?_⟩⟩
  obtain ⟨q1, q2, q3, q4⟩ := h3 i hi
  have hlt := (Array.getElem?_eq_some_iff.1 q4).1
  rw [q1]
  refine ⟨_, _, rfl, Nat.le_refl _, by unfold maxLen; omega, (fun h => nomatch h), fun _ => ⟨blk i, 0, rfl, hlt, by omega, fun e => q3 e, fun t ht => ?_⟩⟩
  have : t = 0 ∨ t = 1 := by omega
  rcases this with rfl | rfl <;> simp [World.cell?, q4, cellsTwo]
theorem GrpRows.shape {w : World} {M : Nat} {v : Value} {k : Nat} {S : Nat → Row} {blk : Nat → Nat} (h : GrpRows w M v k S blk) : ∃ a cap, v = .slice a k cap := by
  obtain ⟨⟨_, ⟨rfl, rfl⟩ | ⟨g, cap, cur, rfl, _⟩⟩, _⟩ := h
  · exact ⟨none, 0, rfl⟩
  · exact ⟨_, cap, rfl⟩
theorem GrpRows.lt {w : World} {M : Nat} {v : Value} {k : Nat} {S : Nat → Row} {blk : Nat → Nat} (h : GrpRows w M v k S blk) : ∀ b, v.ownBlock = some b → M < b ∧ b < w.heap.size := fun b e => by
  have := h.1.lt b e
  omega
theorem GrpRows.keep {w w' : World} {M : Nat} {v : Value} {k : Nat} {S : Nat → Row} {blk : Nat → Nat} (h : GrpRows w M v k S blk) (hb : ∀ b, M < b → b < w.heap.size → w'.heap[b]? = w.heap[b]?) : GrpRows w' M v k S blk := by
  obtain ⟨⟨h1, h2⟩, h3, h4⟩ := h
  refine ⟨⟨h1, ?_⟩, fun j hj => ?_, h4⟩
  · rcases h2 with h2 | ⟨g, cap, cur, hv, hg, hh, r⟩
    · exact .inl h2
    · exact .inr ⟨g, cap, cur, hv, hg, by rw [hb g (by omega) (Array.getElem?_eq_some_iff.1 hh).1]; exact hh, r⟩
  · obtain ⟨q1, q2, q3, q4⟩ := h3 j hj
    exact ⟨q1, q2, q3, (hb _ q2 (Array.getElem?_eq_some_iff.1 q4).1).trans q4⟩
theorem GrpRows.congr {w : World} {M : Nat} {v : Value} {k : Nat} {S S' : Nat → Row} {blk : Nat → Nat} (h : GrpRows w M v k S blk) (e : ∀ j, j < k → S j = S' j) : GrpRows w M v k S' blk := by
  obtain ⟨h1, h3, h4⟩ := h
  exact ⟨h1, fun j hj => by rw [← e j hj]; exact h3 j hj, h4⟩
theorem GrpRows.heap {w w' : World} {M : Nat} {v : Value} {k : Nat} {S : Nat → Row} {blk : Nat → Nat} (h : GrpRows w M v k S blk) (e : w'.heap = w.heap) : GrpRows w' M v k S blk := h.keep (fun b _ _ => by rw [e])
theorem GrpRows.alloc {w : World} {M : Nat} {v : Value} {k : Nat} {S : Nat → Row} {blk : Nat → Nat} (h : GrpRows w M v k S blk) (o : Obj) : GrpRows (w.alloc o) M v k S blk := h.keep (fun b _ hb => Below.heap_alloc _ _ _ hb)
theorem GrpRows.chain {w w' : World} {M : Nat} {v : Value} {k : Nat} {S : Nat → Row} {blk : Nat → Nat} (h : GrpRows w M v k S blk) (hc : Chain w w') : GrpRows w' M v k S blk := h.keep (fun b _ hb => Below.block hc b hb)
theorem heap_two (w : World) (o o' : Obj) : ((w.alloc o).alloc o').heap[w.heap.size]? = some o := (Below.heap_alloc _ _ _ (by simp)).trans (heap_alloc_new _ _)
theorem heap_two' {w W : World} (o o' : Obj) (e : W.heap = ((w.alloc o).alloc o').heap) : W.heap[w.heap.size]? = some o := by rw [e]; exact heap_two w o o'
/-- the j-th row -/
theorem GrpRows.at {w : World} {M : Nat} {v : Value} {k i : Nat} {S : Nat → Row} {blk : Nat → Nat} (h : GrpRows w M v k S blk) (hi : i < k) : ∃ g cap, v = .slice (some ⟨g, 0, none⟩) k cap ∧ g < w.heap.size ∧ w.cell? ⟨g, i, none⟩ = some (.slice (some ⟨blk i, 0, none⟩) 2 2) ∧ blk i < w.heap.size ∧ w.cell? ⟨blk i, 4, none⟩ = some (.int .i64 ((S i).at_ 1).n) ∧ w.frozen? ⟨blk i, 4, none⟩ = false := by
  obtain ⟨h1, h3, h4⟩ := h
  have h1' := h1
  obtain ⟨_, ⟨_, h0⟩ | ⟨g, cap, cur, rfl, _, hh, _⟩⟩ := h1'
  · omega
  · have hc := h1.cellAt i (by omega)
    obtain ⟨q1, q2, q3, q4⟩ := h3 i hi
    exact ⟨g, cap, rfl, (Array.getElem?_eq_some_iff.1 hh).1, hc.trans (by simp [hi]), (Array.getElem?_eq_some_iff.1 q4).1, by simp [World.cell?, q4, cellsTwo], by simp [World.frozen?, q4]⟩
/-- a number is turned -/
theorem GrpRows.set {w : World} {M : Nat} {v : Value} {k i : Nat} {S S' : Nat → Row} {blk : Nat → Nat} (h : GrpRows w M v k S blk) (hi : i < k) (n : Int) (hk : ((S i).at_ 1).kind = 2 ∧ ((S i).at_ 1).s = ⟨#[]⟩) (hS : ∀ j, j < k → S' j = if j = i then ⟨2, fun t => if t = 0 then (S i).at_ 0 else ⟨2, n, ⟨#[]⟩⟩⟩ else S j) :
    GrpRows (w.setCell ⟨blk i, 4, none⟩ (.int .i64 n)) M v k S' blk := by
  obtain ⟨⟨h1, h2⟩, h3, h4⟩ := h
  have hb : ∀ b, b ≠ blk i → (w.setCell ⟨blk i, 4, none⟩ (.int .i64 n)).heap[b]? = w.heap[b]? := fun b hb => Below.heap_setCell _ _ _ _ (by simpa using hb)
  obtain ⟨q1, q2, q3, q4⟩ := h3 i hi
  refine ⟨⟨h1, ?_⟩, fun j hj => ?_, h4⟩
  · rcases h2 with h2 | ⟨g, cap, cur, hv, hg, hh, r⟩
    · exact .inl h2
    · exact .inr ⟨g, cap, cur, hv, hg, by rw [hb g (fun e => q3 (by rw [hv, e]; rfl))]; exact hh, r⟩
  · obtain ⟨p1, p2, p3, p4⟩ := h3 j hj
    rw [hS j hj]
    by_cases e : j = i
    · subst e
      rw [if_pos rfl]
      refine ⟨rfl, p2, p3, ?_⟩
      rw [Go.Sort.setCell_eq]
      simp [Go.Sort.mapBlock, Array.getElem?_modify, q4, Go.Sort.onCells, cellsTwo, hk.1, hk.2]
    · rw [if_neg e]
      exact ⟨p1, p2, p3, (hb _ (fun e' => e (h4 j i hj hi e'))).trans p4⟩
/-- a row more -/
theorem wp_push_grp {o : Oper} {a : Act} {w : World} {K : Act → World → Prop} {Q : Exit → Act → World → Prop} (s x : Operand)
    (ho : o.op = .call { callee := .builtin .append, args := #[s, x], argTypes := #[38, 38] })
    (M k : Nat) (v : Value) (S : Nat → Row) (blk : Nat → Nat) (hs : a.eval s = v) (hv : GrpRows w M v k S blk) (hM : M < w.heap.size)
    (ad : Addr) (c r : Nat) (hx : a.eval x = .slice (some ad) 1 c) (hc : w.cell? ad = some (.slice (some ⟨r, 0, none⟩) 2 2)) (hr : w.heap[r]? = some (.cells (cellsTwo ((S k).at_ 0) ((S k).at_ 1)) 67)) (hS : (S k).len = 2) (hMr : M < r) (hvr : v.ownBlock ≠ some r) (hnr : ∀ j, j < k → blk j ≠ r) (hb : (k + 1) * 24 ≤ 140737488355328)
    (h : ∀ v' w', GrpRows w' M v' (k + 1) S (fun j => if j = k then r else blk j) → (∃ a' c', v' = .slice a' (k + 1) c') → w.grownBy w' v.ownBlock → (v'.ownBlock = v.ownBlock ∨ v'.ownBlock = some w.heap.size) → K (a.put o.dst v') w') : o.wp Tryz.prog a w K Q := by
  obtain ⟨i0, hi0, hz0, hz1, hz2⟩ := info_parts infoItems
  obtain ⟨h1, h3, h4⟩ := hv
  have hrl := (Array.getElem?_eq_some_iff.1 hr).1
  obtain ⟨v', w', hrun, k1, k2, k3, k4⟩ := run_append_own_at (P := Tryz.prog) w (M + 1) 38 o.type 94 i0 _ 1 24 Tryz.underlying38 hi0 hz0 hz1 hz2 rfl (by decide) v k _ h1 ad 1 c [.slice (some ⟨r, 0, none⟩) 2 2] rfl (fun j x hj => by
    match j, hj with
    | 0, hj =>
      simp only [List.getElem?_cons_zero, Option.some.injEq] at hj
      subst hj
      simpa [Addr.add] using hc) (fun x hx => by simp at hx; rw [hx]; rfl) (by unfold maxLen; omega) hb (by omega)
  unfold Oper.wp execOp
  simp only [ho, resolve, invoke, builtin, Sem.run_bind, Sem.run_pure, Result.andThen_ok, List.map_toArray, List.map_cons, List.map_nil, hs, hx, hrun]
  have hkeep : ∀ b, b < w.heap.size → v.ownBlock ≠ some b → w'.heap[b]? = w.heap[b]? ∧ v'.ownBlock ≠ some b := fun b hb hne => ⟨k2.block b hb (fun e => hne e.symm), fun e => by
    rcases k4 with k4 | k4
    · rw [k4] at e; exact hne e
    · rw [k4] at e; simp at e; omega⟩
  refine h v' w' ⟨?_, fun j hj => ?_, fun i j hi hj => ?_⟩ ?_ k2 k4
  · have e : (List.range (k + 1)).map (fun j => Value.slice (some ⟨if j = k then r else blk j, 0, none⟩) 2 2) = (List.range k).map (fun j => Value.slice (some ⟨blk j, 0, none⟩) 2 2) ++ [.slice (some ⟨r, 0, none⟩) 2 2] := by
      rw [List.range_succ, List.map_append]
      congr 1
      · refine List.map_congr_left fun j hj => ?_
        rw [if_neg (by have := List.mem_range.1 hj; omega)]
      · simp
    rw [e]
    exact k1
  · show (S j).len = 2 ∧ M < (if j = k then r else blk j) ∧ v'.ownBlock ≠ some (if j = k then r else blk j) ∧ w'.heap[if j = k then r else blk j]? = _
    by_cases e : j = k
    · subst e
      rw [if_pos rfl]
      obtain ⟨e1, e2⟩ := hkeep r hrl hvr
      exact ⟨hS, hMr, e2, e1.trans hr⟩
    · rw [if_neg e]
      obtain ⟨p1, p2, p3, p4⟩ := h3 j (by omega)
      obtain ⟨e1, e2⟩ := hkeep _ (Array.getElem?_eq_some_iff.1 p4).1 p3
      exact ⟨p1, p2, e2, e1.trans p4⟩
  · show (if i = k then r else blk i) = (if j = k then r else blk j) → i = j
    by_cases e1 : i = k
    · by_cases e2 : j = k
      · intro _; omega
      · rw [if_pos e1, if_neg e2]; intro e; exact absurd e.symm (hnr j (by omega))
    · by_cases e2 : j = k
      · rw [if_neg e1, if_pos e2]; intro e; exact absurd e (hnr i (by omega))
      · rw [if_neg e1, if_neg e2]; exact h4 i j (by omega) (by omega)
  · obtain ⟨_, ⟨rfl, h0⟩ | ⟨b, cap, cur, rfl, _⟩⟩ := k1
    · omega
    · exact ⟨_, _, rfl⟩
theorem step_push_grp {ops : Array Oper} {o : Oper} {a : Act} {w : World} {K : Act → World → Prop} {Q : Exit → Act → World → Prop} {Z : Prop} (hgd : o.guard = none) (s x : Operand)
    (ho : o.op = .call { callee := .builtin .append, args := #[s, x], argTypes := #[38, 38] })
    (M k : Nat) (v : Value) (S : Nat → Row) (blk : Nat → Nat) (hs : a.eval s = v) (hv : GrpRows w M v k S blk) (hM : M < w.heap.size)
    (ad : Addr) (c r : Nat) (hx : a.eval x = .slice (some ad) 1 c) (hc : w.cell? ad = some (.slice (some ⟨r, 0, none⟩) 2 2)) (hr : w.heap[r]? = some (.cells (cellsTwo ((S k).at_ 0) ((S k).at_ 1)) 67)) (hS : (S k).len = 2) (hMr : M < r) (hvr : v.ownBlock ≠ some r) (hnr : ∀ j, j < k → blk j ≠ r) (hb : (k + 1) * 24 ≤ 140737488355328)
    (h : ∀ v' w', GrpRows w' M v' (k + 1) S (fun j => if j = k then r else blk j) → (∃ a' c', v' = .slice a' (k + 1) c') → w.grownBy w' v.ownBlock → (v'.ownBlock = v.ownBlock ∨ v'.ownBlock = some w.heap.size) → K (a.put o.dst v') w') : if Region.wanted o (yielded ops a.tmps) = true then Oper.wp Tryz.prog o a w K Q else Z :=
  step_of hgd (wp_push_grp s x ho M k v S blk hs hv hM ad c r hx hc hr hS hMr hvr hnr hb h)
theorem TurnedP.below {w w' : World} {M : Nat} (h : TurnedP w w' M) : Below M w w' := ⟨h.2.2.1, h.2.2.2.1, h.2.2.2.2, by rw [h.1]; exact Nat.le_refl _, fun b hb => h.2.1 b (by omega)⟩
theorem grp_put {w9 w8 : World} {o o' : Obj} {row : Option Nat} {M : Nat} (hg : ((w9.alloc o).alloc o').grownBy w8 row) (hr : ∀ b, row = some b → M < b) (hM : M < w9.heap.size) : Below (M + 1) w9 w8 :=
  ⟨hg.os, hg.tape, hg.output, by have := hg.size; simp at this; omega, fun b hb => (hg.block b (by simp; omega) (fun e => by have := hr b e.symm; omega)).trans ((Below.heap_alloc _ _ _ (by simp; omega)).trans (Below.heap_alloc _ _ _ (by omega)))⟩
end Go.Proofs.YtkcejelmohameaaGreatDoor
