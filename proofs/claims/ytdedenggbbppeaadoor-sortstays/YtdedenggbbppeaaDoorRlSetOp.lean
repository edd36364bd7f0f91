/-
  LAWS for the walk: a set of keys is asked, and added to; a key is read, and stored.
-/
import Derived.Test.YtdedenggbbppeaaDoorRlKeyOf
import Derived.Test.YtdedenggbbppeaaDoorRlTwo
set_option linter.unusedVariables false
namespace Go.Proofs.YtdedenggbbppeaaDoor
set_option maxRecDepth 100000
open Go.RowKit Go.WideShapes

theorem wp_look_set {o : Oper} {a : Act} {w : World} {K : Act → World → Prop} {Q : Exit → Act → World → Prop} (m x : Operand) (hop : o.op = Op.lookup 50 m x true)
    (b n : Nat) (T : Value → Prop) (hm : a.eval m = .map (some b)) (hs : SetIs w b n T) (v : Value) (l : Lit) (hx : a.eval x = v) (hk : keyOf Tryd.prog 53 v = some l)
    (h : ∀ r : Bool, (r = true ↔ T v) → K (a.put o.dst (.tuple #[.agg #[], .bool r])) w) : o.wp Tryd.prog a w K Q := by
  obtain ⟨r, h1, h2⟩ := hs.look hk
  unfold Oper.wp
  simp [execOp, hop, hm, hx, h1, Result.andThen]
  exact h r h2
theorem wp_put_set {o : Oper} {a : Act} {w : World} {K : Act → World → Prop} {Q : Exit → Act → World → Prop} (m x y : Operand) (hop : o.op = Op.mapUpdate 50 m x y)
    (b n : Nat) (T : Value → Prop) (hm : a.eval m = .map (some b)) (hs : SetIs w b n T) (hn : n < maxLen) (v : Value) (l : Lit) (hx : a.eval x = v) (hy : a.eval y = .agg #[]) (hk : keyOf Tryd.prog 53 v = some l)
    (h : ∀ w', SetIs w' b (n + 1) (fun u => T u ∨ u = v) → w.mapTurned w' b → K (a.put o.dst undef) w') : o.wp Tryd.prog a w K Q := by
  obtain ⟨w', h1, h2, h3⟩ := hs.put hn hk
  unfold Oper.wp
  simp [execOp, hop, hm, hx, hy, h1, Result.andThen]
  exact h w' h2 h3
theorem wpList_look_set {ops : Array Oper} {rest : List Oper} {o : Oper} {a : Act} {w : World} {Q : Exit → Act → World → Prop} (hgd : o.guard = none) (m x : Operand) (hop : o.op = Op.lookup 50 m x true)
    (b n : Nat) (T : Value → Prop) (hm : a.eval m = .map (some b)) (hs : SetIs w b n T) (v : Value) (l : Lit) (hx : a.eval x = v) (hk : keyOf Tryd.prog 53 v = some l)
    (h : ∀ r : Bool, (r = true ↔ T v) → wpList Tryd.prog ops Q rest (a.put o.dst (.tuple #[.agg #[], .bool r])) w) : wpList Tryd.prog ops Q (o :: rest) a w :=
  wpList_plain hgd fun _ hK => wp_look_set m x hop b n T hm hs v l hx hk (fun r hr => hK _ _ (h r hr))
theorem wpList_put_set {ops : Array Oper} {rest : List Oper} {o : Oper} {a : Act} {w : World} {Q : Exit → Act → World → Prop} (hgd : o.guard = none) (m x y : Operand) (hop : o.op = Op.mapUpdate 50 m x y)
    (b n : Nat) (T : Value → Prop) (hm : a.eval m = .map (some b)) (hs : SetIs w b n T) (hn : n < maxLen) (v : Value) (l : Lit) (hx : a.eval x = v) (hy : a.eval y = .agg #[]) (hk : keyOf Tryd.prog 53 v = some l)
    (h : ∀ w', SetIs w' b (n + 1) (fun u => T u ∨ u = v) → w.mapTurned w' b → wpList Tryd.prog ops Q rest (a.put o.dst undef) w') : wpList Tryd.prog ops Q (o :: rest) a w :=
  wpList_plain hgd fun _ hK => wp_put_set m x y hop b n T hm hs hn v l hx hy hk (fun w' h1 h2 => hK _ _ (h w' h1 h2))
theorem step_look_set {ops : Array Oper} {o : Oper} {a : Act} {w : World} {K : Act → World → Prop} {Q : Exit → Act → World → Prop} {Z : Prop} (hgd : o.guard = none) (m x : Operand) (hop : o.op = Op.lookup 50 m x true)
    (b n : Nat) (T : Value → Prop) (hm : a.eval m = .map (some b)) (hs : SetIs w b n T) (v : Value) (l : Lit) (hx : a.eval x = v) (hk : keyOf Tryd.prog 53 v = some l)
    (h : ∀ r : Bool, (r = true ↔ T v) → K (a.put o.dst (.tuple #[.agg #[], .bool r])) w) : if Region.wanted o (yielded ops a.tmps) = true then Oper.wp Tryd.prog o a w K Q else Z :=
  step_of hgd (wp_look_set m x hop b n T hm hs v l hx hk h)
theorem step_put_set {ops : Array Oper} {o : Oper} {a : Act} {w : World} {K : Act → World → Prop} {Q : Exit → Act → World → Prop} {Z : Prop} (hgd : o.guard = none) (m x y : Operand) (hop : o.op = Op.mapUpdate 50 m x y)
    (b n : Nat) (T : Value → Prop) (hm : a.eval m = .map (some b)) (hs : SetIs w b n T) (hn : n < maxLen) (v : Value) (l : Lit) (hx : a.eval x = v) (hy : a.eval y = .agg #[]) (hk : keyOf Tryd.prog 53 v = some l)
    (h : ∀ w', SetIs w' b (n + 1) (fun u => T u ∨ u = v) → w.mapTurned w' b → K (a.put o.dst undef) w') : if Region.wanted o (yielded ops a.tmps) = true then Oper.wp Tryd.prog o a w K Q else Z :=
  step_of hgd (wp_put_set m x y hop b n T hm hs hn v l hx hy hk h)
theorem wpList_load_key {ops : Array Oper} {rest : List Oper} {op : Oper} {a : Act} {w : World} {Q : Exit → Act → World → Prop} (hgd : op.guard = none) (x : Operand) (ho : op.op = .load 53 x)
    (g : Nat) (hx : a.eval x = .pointer (some ⟨g, 0, none⟩)) (X : Nat → It) (hI : ItsAt w g 0 8 X) (h : wpList Tryd.prog ops Q rest (a.put op.dst (keyV X)) w) : wpList Tryd.prog ops Q (op :: rest) a w :=
  wpList_load_mid hgd 53 x ho g 0 hx (itCells X 8) _ (its_range hI) Tryd.underlying53 rfl (by rw [itCells_len]; exact infoKey) h
theorem wpList_store_key {ops : Array Oper} {rest : List Oper} {op : Oper} {a : Act} {w : World} {Q : Exit → Act → World → Prop} (hgd : op.guard = none) (x y : Operand) (ho : op.op = .store 53 x y)
    (g : Nat) (hx : a.eval x = .pointer (some ⟨g, 0, none⟩)) (X : Nat → It) (hy : a.eval y = keyV X) (hR : Room w g 8)
    (h : ∀ w', ItsAt w' g 0 8 X → w'.heap.size = w.heap.size → (∀ b, b ≠ g → w'.heap[b]? = w.heap[b]?) → w'.os = w.os → w'.tape = w.tape → w'.output = w.output → wpList Tryd.prog ops Q rest (a.put op.dst undef) w') : wpList Tryd.prog ops Q (op :: rest) a w := by
  obtain ⟨h1, h2, h3, h4, h5⟩ := setCells_keep g (itCells X 8) 0 w
  have hr := World.rangeAt_setCells_same w g 0 (itCells X 8) (room_there hR (by simp [itCells_len]))
  exact wpList_store_mid hgd 53 x y ho g 0 (itCells X 8).toArray hx hy (room_there hR (by simp [itCells_len])) (by rw [infoKey]; simp [itCells_len]) (key_one X) (h _ (its_back hr) h1 h2 h3 h4 h5)
theorem zero_room (w : World) {Z : Array Value} {T : TypeId} (hz : Z.size = 24) : Room (w.alloc (.cells Z T)) w.heap.size 8 := Room.made w Z T 8 hz
end Go.Proofs.YtdedenggbbppeaaDoor
