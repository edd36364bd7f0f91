/-
  EVENTS, AND PLACES, IN ROWS OF ONE'S OWN; two such rows apart from each other.
-/
import Derived.Test.YtabnaeppcnfhhaaDoorEtPlain
import Derived.Test.YtabnaeppcnfhhaaDoorNdAt
import Derived.Laws.OwnMore
import Derived.Laws.AppendOwnNone
import Derived.Maps.AppendAt
import Derived.OwnWalk
set_option linter.unusedVariables false
namespace Go.Proofs.YtabnaeppcnfhhaaDoor
set_option maxRecDepth 100000
open Go.RowKit

theorem ownsRow_below {w w' : World} {base : Nat} {e : TypeId} {size : Nat} {v : Value} {n : Nat} {xs : List Value} (h : w.ownsRow base e size v n xs) (hb : Below w.heap.size w w') : w'.ownsRow base e size v n xs := by
  refine ⟨h.1, ?_⟩
  rcases h.2 with h1 | ⟨g, cap, cur, h1, h2, h3, h4⟩
  · exact .inl h1
  · refine .inr ⟨g, cap, cur, h1, h2, ?_, h4⟩
    rw [hb.block g (Array.getElem?_eq_some_iff.1 h3).1]
    exact h3
theorem own_shape {w : World} {base : Nat} {e : TypeId} {size : Nat} {v : Value} {n : Nat} {xs : List Value} (h : w.ownsRow base e size v n xs) : ∃ a c, v = .slice a n c := by
  obtain ⟨_, ⟨rfl, rfl⟩ | ⟨b, cap, cur, rfl, _⟩⟩ := h
  · exact ⟨_, _, rfl⟩
  · exact ⟨_, _, rfl⟩
/-- two rows are not one -/
def Apart (u v : Value) : Prop := ∀ k, u.ownBlock = some k → v.ownBlock ≠ some k
theorem Apart.symm {u v : Value} (h : Apart u v) : Apart v u := fun k h1 h2 => h k h2 h1
/-- append to a row of one's own: where the new row lies -/
theorem wpList_append_at {P : Program} {ops : Array Oper} {rest : List Oper} {o : Oper} {a : Act} {w : World} {Q : Exit → Act → World → Prop} (hgd : o.guard = none) (s x : Operand) (t : TypeId)
    (ho : o.op = .call { callee := .builtin .append, args := #[s, x], argTypes := #[t, t] })
    (base : Nat) (e : TypeId) (i : TypeInfo) (z : Value) (size bytes : Nat) (ht : P.underlying t = some (.slice e)) (hi : P.info? e = some i) (hz : i.zero = some z)
    (hsize : i.size = size) (hby : i.bytes = bytes) (hzs : z.cells.size = size) (hsz : 0 < size)
    (v : Value) (n : Nat) (xs : List Value) (hs : a.eval s = v) (hown : w.ownsRow base e size v n xs)
    (ad : Addr) (m c : Nat) (news : List Value) (hx : a.eval x = .slice (some ad) m c) (hl : news.length = m * size) (hnews : ∀ j u, news[j]? = some u → w.cell? (ad.add j) = some u) (h1 : ∀ u ∈ news, u.oneCell' = true)
    (h63 : n + m ≤ maxLen) (hbytes : (n + m) * bytes ≤ 140737488355328) (hbase : base ≤ w.heap.size)
    (h : ∀ v' w', w'.ownsRow base e size v' (n + m) (xs ++ news) → w.grownBy w' v.ownBlock → (v'.ownBlock = v.ownBlock ∨ v'.ownBlock = some w.heap.size) → wpList P ops Q rest (a.put o.dst v') w') : wpList P ops Q (o :: rest) a w := by
  refine wpList_plain hgd fun K hK => ?_
  obtain ⟨v', w', hr, k1, k2, k3, k4⟩ := run_append_own_at (P := P) w base t o.type e i z size bytes ht hi hz hsize hby hzs hsz v n xs hown ad m c news hl hnews h1 h63 hbytes hbase
  unfold Oper.wp execOp
  simp only [ho, resolve, invoke, builtin, Sem.run_bind, Sem.run_pure, Result.andThen_ok, List.map_toArray, List.map_cons, List.map_nil, hs, hx, hr]
  exact hK _ _ (h v' w' k1 k2 k4)
/-- the other row stays -/
theorem stay_row {w w' : World} {base : Nat} {e : TypeId} {size : Nat} {u v v' : Value} {n : Nat} {xs : List Value} (h : w.ownsRow base e size u n xs) (hg : w.grownBy w' v.ownBlock) (ha : Apart u v) (hv : v'.ownBlock = v.ownBlock ∨ v'.ownBlock = some w.heap.size) :
    w'.ownsRow base e size u n xs ∧ Apart u v' := by
  have hlt := h.lt
  refine ⟨⟨h.1, ?_⟩, fun k h1 h2 => ?_⟩
  · rcases h.2 with h1 | ⟨g, cap, cur, rfl, h2, h3, h4⟩
    · exact .inl h1
    · refine .inr ⟨g, cap, cur, rfl, h2, ?_, h4⟩
      rw [hg.block g (Array.getElem?_eq_some_iff.1 h3).1 (fun e => ha g rfl e.symm)]
      exact h3
  · rcases hv with hv | hv
    · exact ha k h1 (hv ▸ h2)
    · rw [hv] at h2
      have := (hlt k h1).2
      simp at h2
      omega

theorem infoEv : (Tryd.prog.info? 35).map (fun i => (i.zero, i.size, i.bytes)) = some (some (.agg #[.int .i64 0, .string ByteArray.empty, .string ByteArray.empty]), 3, 40) := by kernel_rfl
theorem infoInt : (Tryd.prog.info? 3).map (fun i => (i.zero, i.size, i.bytes)) = some (some (.int .i64 0), 1, 8) := by kernel_rfl
theorem elemE_in {w : World} (t : Evt) : ∀ j u, (evC t)[j]? = some u → (w.alloc (.cells #[.int .i64 t.kind, .string t.name, .string t.value] 35)).cell? ((⟨w.heap.size, 0, none⟩ : Addr).add j) = some u := by
  intro j u hj
  have hj3 : j < 3 := (List.getElem?_eq_some_iff.1 hj).1
  match j, hj3 with
  | 0, _ => simp [evC] at hj; subst hj; simp [Addr.add]
  | 1, _ => simp [evC] at hj; subst hj; simp [Addr.add]
  | 2, _ => simp [evC] at hj; subst hj; simp [Addr.add]
theorem elemE_in2 {w : World} (o : Obj) (t : Evt) : ∀ j u, (evC t)[j]? = some u → ((w.alloc o).alloc (.cells #[.int .i64 t.kind, .string t.name, .string t.value] 35)).cell? ((⟨w.heap.size + 1, 0, none⟩ : Addr).add j) = some u := by
  intro j u hj
  have := elemE_in (w := w.alloc o) t j u hj
  simpa using this
theorem elemE_one (t : Evt) : ∀ u ∈ evC t, u.oneCell' = true := by
  intro u hu
  simp [evC] at hu
  rcases hu with rfl | rfl | rfl <;> rfl
def elemN (p : Int) : List Value := [.int .i64 p]
theorem elemN_in {w : World} (p : Int) : ∀ j u, (elemN p)[j]? = some u → (w.alloc (.cells #[.int .i64 p] 3)).cell? ((⟨w.heap.size, 0, none⟩ : Addr).add j) = some u := by
  intro j u hj
  have hj3 : j < 1 := (List.getElem?_eq_some_iff.1 hj).1
  match j, hj3 with
  | 0, _ => simp [elemN] at hj; subst hj; simp [Addr.add]
theorem elemN_one (p : Int) : ∀ u ∈ elemN p, u.oneCell' = true := by
  intro u hu
  simp [elemN] at hu
  subst hu; rfl
/-- events in a row of one's own -/
def EvRow (w : World) (base : Nat) (v : Value) (L : List Evt) : Prop := w.ownsRow base 35 3 v L.length (evtCells L)
theorem EvRow.below {w w' : World} {base : Nat} {v : Value} {L : List Evt} (h : EvRow w base v L) (hb : Below w.heap.size w w') : EvRow w' base v L := ownsRow_below h hb
theorem EvRow.nil (w : World) (base : Nat) : EvRow w base (.slice none 0 0) [] := World.ownsRow_nil _ _ _ _
theorem EvRow.alloc {w : World} {base : Nat} {v : Value} {L : List Evt} (h : EvRow w base v L) (o : Obj) : EvRow (w.alloc o) base v L := World.ownsRow.alloc h o
theorem EvRow.lt {w : World} {base : Nat} {v : Value} {L : List Evt} (h : EvRow w base v L) : ∀ k, v.ownBlock = some k → base ≤ k ∧ k < w.heap.size := World.ownsRow.lt h
/-- places in a row of one's own -/
def OpenIs (w : World) (base : Nat) (v : Value) (l : List Nat) : Prop := w.ownsRow base 3 1 v l.length (l.map fun p : Nat => Value.int .i64 (p : Int))
theorem OpenIs.below {w w' : World} {base : Nat} {v : Value} {l : List Nat} (h : OpenIs w base v l) (hb : Below w.heap.size w w') : OpenIs w' base v l := ownsRow_below h hb
theorem OpenIs.alloc {w : World} {base : Nat} {v : Value} {l : List Nat} (h : OpenIs w base v l) (o : Obj) : OpenIs (w.alloc o) base v l := World.ownsRow.alloc h o
theorem OpenIs.lt {w : World} {base : Nat} {v : Value} {l : List Nat} (h : OpenIs w base v l) : ∀ k, v.ownBlock = some k → base ≤ k ∧ k < w.heap.size := World.ownsRow.lt h
theorem OpenIs.nil (w : World) (base : Nat) : OpenIs w base (.slice none 0 0) [] := World.ownsRow_nil _ _ _ _
/-- the last place, and the row without it -/
theorem OpenIs.top {w : World} {base : Nat} {v : Value} {r : List Nat} {e : Nat} (h : OpenIs w base v (r ++ [e])) : ∃ g cap, v = .slice (some ⟨g, 0, none⟩) (r.length + 1) cap ∧ base ≤ g ∧ g < w.heap.size ∧ r.length + 1 ≤ cap ∧ cap ≤ maxLen ∧
    w.cell? ⟨g, r.length, none⟩ = some (.int .i64 e) ∧ OpenIs w base (.slice (some ⟨g, 0, none⟩) r.length cap) r := by
  have h8 := h
  obtain ⟨h1, ⟨_, h2⟩ | ⟨g, cap, cur, rfl, h2, h3, h4, h5, h6, h7⟩⟩ := h
  · simp at h2
  · refine ⟨g, cap, by simp, h2, (Array.getElem?_eq_some_iff.1 h3).1, by simpa using h4, h5, ?_, ?_⟩
    · unfold OpenIs at h8
      rw [World.ownsRow.cellAt h8 _ (by simp)]
      simp
    · refine ⟨by simp, .inr ⟨g, cap, cur, rfl, h2, h3, by simp at h4; omega, h5, h6, ?_⟩⟩
      have := congrArg (List.take r.length) h7
      rw [List.take_take] at this
      simp only [List.length_append, List.length_cons, List.length_nil, Nat.mul_one] at this
      rw [Nat.min_eq_left (by omega)] at this
      rw [Nat.mul_one, this]
      simp
/-- a cell that is no row's -/
theorem grown_cell {W w' : World} {v : Value} {p : Nat} (hg : W.grownBy w' v.ownBlock) (hlt : ∀ k, v.ownBlock = some k → k < p) (hp : p < W.heap.size) (o : Nat) : w'.cell? ⟨p, o, none⟩ = W.cell? ⟨p, o, none⟩ :=
  World.cell?_of_block (a := ⟨p, o, none⟩) (hg.block p hp (fun e => by have := hlt p e.symm; omega))
theorem EvRow.snoc {w : World} {base : Nat} {a : Option Addr} {c : Nat} {L : List Evt} {t : Evt} (h : w.ownsRow base 35 3 (.slice a (L.length + 1) c) (L.length + 1) (evtCells L ++ evC t)) : EvRow w base (.slice a (L.length + 1) c) (L ++ [t]) := by
  unfold EvRow; rw [evtCells_snoc, List.length_append]; exact h
theorem OpenIs.snoc {w : World} {base : Nat} {a : Option Addr} {c : Nat} {l : List Nat} {p : Nat} (h : w.ownsRow base 3 1 (.slice a (l.length + 1) c) (l.length + 1) (l.map (fun p : Nat => Value.int .i64 (p : Int)) ++ elemN (p : Int))) : OpenIs w base (.slice a (l.length + 1) c) (l ++ [p]) := by
  unfold OpenIs; rw [List.map_append, List.length_append]; exact h
def lenOf : Value → Nat
  | .slice _ n _ => n
  | _ => 0
theorem list_last (l : List Nat) : l = [] ∨ ∃ r e, l = r ++ [e] := by
  cases h : l.reverse with
  | nil => exact .inl (by simpa using h)
  | cons e r => exact .inr ⟨r.reverse, e, by rw [← List.reverse_reverse l, h]; simp⟩
theorem evtCells_at (L : List Evt) : ∀ (k : Nat) (h : k < L.length), (evtCells L)[k * 3]? = some (.int .i64 L[k].kind) ∧ (evtCells L)[k * 3 + 1]? = some (.string L[k].name) ∧ (evtCells L)[k * 3 + 2]? = some (.string L[k].value) := by
  induction L with
  | nil => intro k h; simp at h
  | cons t L ih =>
    intro k h
    cases k with
    | zero => exact ⟨rfl, rfl, rfl⟩
    | succ k =>
      have := ih k (by simpa using h)
      have e : ∀ j, (evtCells (t :: L))[(k + 1) * 3 + j]? = (evtCells L)[k * 3 + j]? := fun j => by
        rw [show (k + 1) * 3 + j = (k * 3 + j) + 3 by omega]; rfl
      exact ⟨(e 0).trans this.1, (e 1).trans this.2.1, (e 2).trans this.2.2⟩
/-- each event lies there -/
theorem EvRow.at {w : World} {base : Nat} {v : Value} {L : List Evt} (h : EvRow w base v L) (k : Nat) (hk : k < L.length) : ∃ b c, v = .slice (some ⟨b, 0, none⟩) L.length c ∧ b < w.heap.size ∧ L.length ≤ c ∧ w.cell? ⟨b, k * 3, none⟩ = some (.int .i64 L[k].kind) ∧ w.cell? ⟨b, k * 3 + 1, none⟩ = some (.string L[k].name) ∧ w.cell? ⟨b, k * 3 + 2, none⟩ = some (.string L[k].value) := by
  have h8 := h
  obtain ⟨hl, ⟨rfl, h2⟩ | ⟨b, cap, cur, rfl, q1, q2, q3, q4, _⟩⟩ := h
  · omega
  · obtain ⟨c0, c1, c2⟩ := evtCells_at L k hk
    exact ⟨b, cap, rfl, (Array.getElem?_eq_some_iff.1 q2).1, q3, (World.ownsRow.cellAt h8 _ (by omega)).trans c0, (World.ownsRow.cellAt h8 _ (by omega)).trans c1, (World.ownsRow.cellAt h8 _ (by omega)).trans c2⟩
theorem evtCells_one (L : List Evt) : ∀ u ∈ evtCells L, u.oneCell' = true := by
  intro u hu
  obtain ⟨t, _, h⟩ := List.mem_flatMap.1 hu
  exact elemE_one t u h
/-- the cells of such a row, wherever they are wanted -/
theorem EvRow.cells {w : World} {base : Nat} {v : Value} {L : List Evt} (h : EvRow w base v L) (hL : 0 < L.length) : ∃ g c, v = .slice (some ⟨g, 0, none⟩) L.length c ∧ base ≤ g ∧ g < w.heap.size ∧ ∀ j u, (evtCells L)[j]? = some u → w.cell? ((⟨g, 0, none⟩ : Addr).add j) = some u := by
  have h8 := h
  obtain ⟨hl, ⟨rfl, h2⟩ | ⟨b, cap, cur, rfl, q1, q2, q3, q4, _⟩⟩ := h
  · omega
  · refine ⟨b, cap, rfl, q1, (Array.getElem?_eq_some_iff.1 q2).1, fun j u hj => ?_⟩
    have hj' : j < L.length * 3 := by
      have := (List.getElem?_eq_some_iff.1 hj).1
      rwa [evtCells_len] at this
    have := World.ownsRow.cellAt h8 j hj'
    rw [hj] at this
    by_cases h0 : j = 0
    · subst h0; simpa [Addr.add] using this
    · simpa [Addr.add, h0] using this
end Go.Proofs.YtabnaeppcnfhhaaDoor
