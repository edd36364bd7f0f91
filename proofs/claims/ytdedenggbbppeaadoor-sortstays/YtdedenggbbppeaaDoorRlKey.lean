/-
  KEYS: eight items; a map whose keys they are, as a set.
-/
import Derived.Test.YtdedenggbbppeaaDoorRlMem
import Derived.Maps.OwnSet
import Derived.DeepKeys5
set_option linter.unusedVariables false
namespace Go.Proofs.YtdedenggbbppeaaDoor
set_option maxRecDepth 100000
open Go.RowKit Go.WideShapes

/-- the value of a key -/
def keyV (X : Nat → It) : Value := .agg (itCells X 8).toArray
theorem typesFew : Nat.ble (Tryd.prog.types.size + 2) 10000 = true := by kernel_rfl
theorem typesKey : Nat.ble (53 + 1) Tryd.prog.types.size = true := by kernel_rfl
theorem keyLaw : Go.Maps.Keyed Tryd.prog 53 := Go.Maps.Keyed.of_law (deep_law_gate (by kernel_rfl) (Nat.le_of_ble_eq_true typesFew) (Nat.le_of_ble_eq_true typesKey) (by kernel_rfl) (by kernel_rfl))
/-- what an item must be, to be a key -/
def fitI (x : It) : Prop := (Lit.int .i64 x.kind).wf = true ∧ (Lit.int .i64 x.n).wf = true ∧ x.s.size ≤ maxLen
theorem keyV_cells (X : Nat → It) (i : Nat) (hi : i < 8) : ((itCells X 8).drop (i * 3)).take 3 = [.int .i64 (X i).kind, .int .i64 (X i).n, .string (X i).s] := by
  apply List.ext_getElem?
  intro j
  rw [List.getElem?_take]
  by_cases hj : j < 3
  · rw [if_pos hj, List.getElem?_drop, itCells_at _ _ _ (by omega), show (i * 3 + j) / 3 = i by omega, show (i * 3 + j) % 3 = j by omega]
    match j, hj with
    | 0, _ => rfl
    | 1, _ => rfl
    | 2, _ => rfl
  · rw [if_neg hj, List.getElem?_eq_none (by simp; omega)]
theorem item_lits (d : Nat) (x : It) (h : fitI x) : Tryd.prog.keyLits (d + 2) 34 [.int .i64 x.kind, .int .i64 x.n, .string x.s] = some [.int .i64 x.kind, .int .i64 x.n, .string x.s.data.toList] := by
  obtain ⟨h1, h2, h3⟩ := h
  simp [Program.keyLits, Tryd.underlying34, Tryd.underlying3, Tryd.underlying9, cellsItem, cells3, cells9, h1, h2, h3]
theorem mapM_some {α β : Type} (f : α → Option β) (g : α → β) : ∀ l : List α, (∀ a ∈ l, f a = some (g a)) → l.mapM f = some (l.map g)
  | [], _ => rfl
  | a :: r, h => by
    rw [List.mapM_cons, h a (by simp), mapM_some f g r (fun b hb => h b (by simp [hb]))]
    rfl
theorem cellsKey : Tryd.prog.cellsOf 53 = 24 := by kernel_rfl
theorem keyV_lits (d : Nat) (X : Nat → It) (h : ∀ i, i < 8 → fitI (X i)) : ∃ ls, Tryd.prog.keyLits (d + 3) 53 (itCells X 8) = some ls := by
  refine ⟨((List.range 8).map fun i => [Lit.int .i64 (X i).kind, Lit.int .i64 (X i).n, Lit.string (X i).s.data.toList]).flatten, ?_⟩
  obtain ⟨e, he⟩ : ∃ e, e = d + 2 := ⟨_, rfl⟩
  rw [show d + 3 = e + 1 by omega]
  simp only [Program.keyLits, Tryd.underlying53, cellsKey, cellsItem, itCells_len]
  rw [if_pos trivial, mapM_some _ (fun i => [Lit.int .i64 (X i).kind, Lit.int .i64 (X i).n, Lit.string (X i).s.data.toList])]
  · rfl
  · intro i hi
    have hi' := List.mem_range.1 hi
    rw [keyV_cells X i hi', he, item_lits d (X i) (h i hi')]
theorem keyV_key (X : Nat → It) (h : ∀ i, i < 8 → fitI (X i)) : ∃ l, keyOf Tryd.prog 53 (keyV X) = some l := by
  obtain ⟨d, hd⟩ : ∃ d, Tryd.prog.types.size + 1 = d + 3 := ⟨Tryd.prog.types.size - 2, by
    have := Nat.le_of_ble_eq_true typesKey
    omega⟩
  obtain ⟨ls, hls⟩ := keyV_lits d X h
  refine ⟨.string (keyBytes ls), ?_⟩
  have h1 : Tryd.prog.keyType 53 = true := by kernel_rfl
  have h2 : (keyV X).formed Tryd.prog 53 = true := by
    simp [keyV, Value.formed, Tryd.underlying53, cellsKey, itCells_len]
  have h3 : (keyV X).cells.toList = itCells X 8 := by simp [keyV, Value.cells]
  simp only [keyOf, Tryd.underlying53, h1, h2, h3, hd, hls]
  rfl
theorem keyV_inj {X Y : Nat → It} (h : keyV X = keyV Y) : ∀ i, i < 8 → X i = Y i := by
  intro i hi
  have h1 : itCells X 8 = itCells Y 8 := by
    have := Value.agg.inj h
    simpa using congrArg Array.toList this
  have h2 := keyV_cells X i hi
  rw [h1, keyV_cells Y i hi] at h2
  simp only [List.cons.injEq, Value.int.injEq, Value.string.injEq, true_and, and_true] at h2
  obtain ⟨a, b, c⟩ := h2
  cases hx : X i
  cases hy : Y i
  rw [hx] at a b c
  rw [hy] at a b c
  simp at a b c
  rw [a, b, c]
theorem keyV_congr {X Y : Nat → It} (h : ∀ i, i < 8 → X i = Y i) : keyV X = keyV Y := by
  unfold keyV itCells
  congr 2
  apply List.map_congr_left
  intro j hj
  rw [h (j / 3) (by have := List.mem_range.1 hj; omega)]

/-- a map as a set of keys -/
def SetIs (w : World) (b n : Nat) (T : Value → Prop) : Prop :=
  ∃ D : DataW Unit, w.ownsMap Tryd.prog 53 (unitElem (H := Unit)) b n D ∧ ∀ v l, keyOf Tryd.prog 53 v = some l → (Go.Maps.has D l = true ↔ T v)
theorem zeroU (w : World) : (zeroValue 51).run Tryd.prog w = .ok (.agg #[]) w := by kernel_rfl
theorem SetIs.made (w : World) : SetIs (w.alloc (.map #[] 0)) w.heap.size 0 (fun _ => False) :=
  ⟨.map [], World.ownsMap_made _ _ _ _, fun v l _ => ⟨fun h => (nomatch h), fun h => False.elim h⟩⟩
theorem SetIs.look {w : World} {b n : Nat} {T : Value → Prop} (h : SetIs w b n T) {v : Value} {l : Lit} (hk : keyOf Tryd.prog 53 v = some l) :
    ∃ r : Bool, (Instr.lookup 50 (.map (some b)) v true).run Tryd.prog w = .ok (.tuple #[.agg #[], .bool r]) w ∧ (r = true ↔ T v) := by
  obtain ⟨D, h1, h2⟩ := h
  obtain ⟨u, ps, h3, h4⟩ := h1.look_ok keyLaw Tryd.underlying50 (zeroU w) unitElem_mk hk
  obtain ⟨rfl, _⟩ := unitElem_inv h4
  exact ⟨_, h3, h2 v l hk⟩
theorem SetIs.put {w : World} {b n : Nat} {T : Value → Prop} (h : SetIs w b n T) (hn : n < maxLen) {v : Value} {l : Lit} (hk : keyOf Tryd.prog 53 v = some l) :
    ∃ w', (Instr.mapUpdate 50 (.map (some b)) v (.agg #[])).run Tryd.prog w = .ok () w' ∧ SetIs w' b (n + 1) (fun u => T u ∨ u = v) ∧ w.mapTurned w' b := by
  obtain ⟨D, h1, h2⟩ := h
  obtain ⟨w', h3, h4, h5⟩ := h1.store keyLaw Tryd.underlying50 hn hk unitElem_mk
  refine ⟨w', h3, ⟨_, h4, fun u lu hu => ?_⟩, h5⟩
  by_cases e : lu = l
  · subst e
    rw [Go.Maps.has_put_same h1.isMap (keyLaw.key hk)]
    exact ⟨fun _ => .inr (keyLaw.inj hu hk), fun _ => rfl⟩
  · rw [Go.Maps.has_put_other e, h2 u lu hu]
    refine ⟨.inl, fun h => h.elim id (fun h => ?_)⟩
    rw [h, hk] at hu
    exact absurd (Option.some.inj hu).symm e
theorem turned_block {w w' : World} {b : Nat} (h : w.mapTurned w' b) : w'.heap.size = w.heap.size ∧ (∀ c, c ≠ b → w'.heap[c]? = w.heap[c]?) ∧ w'.os = w.os ∧ w'.tape = w.tape ∧ w'.output = w.output := by
  have hg := h.grown
  obtain ⟨es, clock, es', clock', h1, h2⟩ := h
  have hlt : b < w.heap.size := (Array.getElem?_eq_some_iff.1 h1).1
  refine ⟨?_, fun c hc => ?_, hg.os, hg.tape, hg.output⟩
  · rw [h2]; simp [ChangeMaps.setBlock]
  · by_cases e : c < w.heap.size
    · exact hg.block c e (fun h => hc (Option.some.inj h))
    · have hs : w'.heap.size = w.heap.size := by rw [h2]; simp [ChangeMaps.setBlock]
      rw [Array.getElem?_eq_none (by omega), Array.getElem?_eq_none (by omega)]
theorem SetIs.keep {w w' : World} {b n : Nat} {T : Value → Prop} (h : SetIs w b n T) (hb : w'.heap[b]? = w.heap[b]?) : SetIs w' b n T := by
  obtain ⟨D, ⟨es, clock, h1, h2⟩, h3⟩ := h
  exact ⟨D, ⟨es, clock, hb.trans h1, h2⟩, h3⟩
theorem SetIs.lt {w : World} {b n : Nat} {T : Value → Prop} (h : SetIs w b n T) : b < w.heap.size := by
  obtain ⟨D, h1, _⟩ := h
  exact h1.lt
end Go.Proofs.YtdedenggbbppeaaDoor
