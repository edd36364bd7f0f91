/-
  ROWS OF ONE'S OWN whose list was made ahead of the place where it is kept: laws for the walk.
-/
import Derived.Test.YtmoeipdchapodaaGreatDoorRlMem
set_option linter.unusedVariables false
namespace Go.Proofs.YtmoeipdchapodaaGreatDoor
set_option maxRecDepth 100000
open Go.RowKit Go.Deep Go.ChangeShapes Go.WideShapes

/-- the list lies behind B, not at T; each row behind T -/
def RowsTwo (w : World) (B T : Nat) (v : Value) (m : Nat) (R : Nat → Row) : Prop :=
  ∃ us : List Value, w.ownsRow B 33 1 v m us ∧ v.ownBlock ≠ some T ∧ ∀ i, i < m → ∃ u, us[i]? = some u ∧ ItsApart w (T + 1) v.ownBlock u (R i).len (R i).at_
theorem RowsTwo.shape {w : World} {B T : Nat} {v : Value} {m : Nat} {R : Nat → Row} (h : RowsTwo w B T v m R) : ∃ a cap, v = .slice a m cap := by
  obtain ⟨us, ⟨_, ⟨rfl, rfl⟩ | ⟨g, cap, cur, rfl, _⟩⟩, _⟩ := h
  · exact ⟨none, 0, rfl⟩
  · exact ⟨_, cap, rfl⟩
theorem RowsTwo.is {w : World} {B T : Nat} {v : Value} {m : Nat} {R : Nat → Row} (h : RowsTwo w B T v m R) : RowsIs w v m R := by
  obtain ⟨us, h1, _, h2⟩ := h
  have h8 := h1
  obtain ⟨hl, ⟨rfl, h3⟩ | ⟨b, cap, cur, rfl, q1, q2, q3, q4, _⟩⟩ := h1
  · subst h3
    exact ⟨none, 0, rfl, Nat.le_refl _, Nat.zero_le _, fun _ => rfl, fun h => absurd h (Nat.lt_irrefl _)⟩
  · refine ⟨_, cap, rfl, q3, q4, (fun h => nomatch h), fun h0 => ⟨b, 0, rfl, (Array.getElem?_eq_some_iff.1 q2).1, fun i hi => ?_⟩⟩
    obtain ⟨u, k1, k2⟩ := h2 i hi
    exact ⟨u, by rw [Nat.zero_add, h8.cellAt _ (by omega), k1], k2.is⟩
/-- no row as yet -/
theorem RowsTwo.start {w : World} {B T : Nat} {v : Value} {R : Nat → Row} (h : RowsOwn w B v 0 R) (hT : w.heap.size ≤ T) : RowsTwo w B T v 0 R := by
  obtain ⟨us, h1, _⟩ := h
  exact ⟨us, h1, fun e => by have := (h1.lt T e).2; omega, fun i hi => by omega⟩
theorem RowsTwo.keep {w w' : World} {B T : Nat} {v : Value} {m : Nat} {R : Nat → Row} (h : RowsTwo w B T v m R) (hs : w.heap.size ≤ w'.heap.size) (hb : ∀ b, b ≠ T → B ≤ b → b < w.heap.size → w'.heap[b]? = w.heap[b]?) (hBT : B ≤ T) : RowsTwo w' B T v m R := by
  obtain ⟨us, ⟨h1, h2⟩, ht, h3⟩ := h
  refine ⟨us, ⟨h1, ?_⟩, ht, fun i hi => ?_⟩
  · rcases h2 with h2 | ⟨g, cap, cur, hv, hg, hh, r⟩
    · exact .inl h2
    · exact .inr ⟨g, cap, cur, hv, hg, by rw [hb g (fun e => ht (by rw [hv, e]; rfl)) hg (Array.getElem?_eq_some_iff.1 hh).1]; exact hh, r⟩
  · obtain ⟨u, k1, k2⟩ := h3 i hi
    exact ⟨u, k1, k2.keep hs (fun b q1 q2 q3 => ⟨hb b (by omega) (by omega) q2, q3⟩)⟩
theorem RowsTwo.below {w w' : World} {B T : Nat} {v : Value} {m : Nat} {R : Nat → Row} (h : RowsTwo w B T v m R) (hb : Below w.heap.size w w') (hBT : B ≤ T) : RowsTwo w' B T v m R := h.keep hb.size (fun b _ _ hb1 => hb.block b hb1) hBT
theorem RowsTwo.alloc {w : World} {B T : Nat} {v : Value} {m : Nat} {R : Nat → Row} (h : RowsTwo w B T v m R) (hBT : B ≤ T) (o : Obj) : RowsTwo (w.alloc o) B T v m R := h.below ((Below.refl _ _).alloc (Nat.le_refl _) o) hBT
theorem RowsTwo.heap {w w' : World} {B T : Nat} {v : Value} {m : Nat} {R : Nat → Row} (h : RowsTwo w B T v m R) (e : w'.heap = w.heap) (hBT : B ≤ T) : RowsTwo w' B T v m R := h.keep (by rw [e]; exact Nat.le_refl _) (fun b _ _ _ => by rw [e]) hBT
/-- a store where it is kept, or ahead of all -/
theorem RowsTwo.setCell {w : World} {B T : Nat} {v : Value} {m : Nat} {R : Nat → Row} (h : RowsTwo w B T v m R) (hBT : B ≤ T) {a : Addr} (ha : a.block = T ∨ a.block < B) (u : Value) : RowsTwo (w.setCell a u) B T v m R :=
  h.keep (by simp) (fun b h1 h2 _ => Below.heap_setCell _ _ _ _ (by omega)) hBT
theorem RowsTwo.lt {w : World} {B T : Nat} {v : Value} {m : Nat} {R : Nat → Row} (h : RowsTwo w B T v m R) : ∀ k, v.ownBlock = some k → B ≤ k ∧ k < w.heap.size ∧ k ≠ T := by
  obtain ⟨us, h1, h2, _⟩ := h
  exact fun k hk => ⟨(h1.lt k hk).1, (h1.lt k hk).2, fun e => h2 (by rw [hk, e])⟩
/-- a row more -/
theorem wp_push_two {o : Oper} {a : Act} {w : World} {K : Act → World → Prop} {Q : Exit → Act → World → Prop} (s x : Operand)
    (ho : o.op = .call { callee := .builtin .append, args := #[s, x], argTypes := #[34, 34] })
    (B T m : Nat) (v : Value) (R : Nat → Row) (hs : a.eval s = v) (hv : RowsTwo w B T v m R) (hBT : B ≤ T) (hT : T < w.heap.size)
    (ad : Addr) (c : Nat) (u : Value) (hx : a.eval x = .slice (some ad) 1 c) (hc : w.cell? ad = some u) (hu : ItsApart w (T + 1) v.ownBlock u (R m).len (R m).at_) (hb : (m + 1) * 24 ≤ 140737488355328)
    (h : ∀ v' w', RowsTwo w' B T v' (m + 1) R → (∃ a' c', v' = .slice a' (m + 1) c') → w.grownBy w' v.ownBlock → (v'.ownBlock = v.ownBlock ∨ v'.ownBlock = some w.heap.size) → K (a.put o.dst v') w') : o.wp Tryz.prog a w K Q := by
  obtain ⟨i0, hi0, hz0, hz1, hz2⟩ := info_parts infoItems
  obtain ⟨us, h1, ht, h2⟩ := hv
  have huo : u.oneCell' = true := by
    obtain ⟨_, _, rfl, _⟩ := hu
    rfl
  have hl := h1.1
  obtain ⟨v', w', hr, k1, k2, k3, k4⟩ := run_append_own_at (P := Tryz.prog) w B 34 o.type 33 i0 _ 1 24 Tryz.underlying34 hi0 hz0 hz1 hz2 rfl (by decide) v m us h1 ad 1 c [u] rfl (fun j x hj => by
    match j, hj with
    | 0, hj =>
      simp only [List.getElem?_cons_zero, Option.some.injEq] at hj
      subst hj
      simpa [Addr.add] using hc) (fun x hx => by simp at hx; rw [hx]; exact huo) (by unfold maxLen; omega) hb (by omega)
  unfold Oper.wp execOp
  simp only [ho, resolve, invoke, builtin, Sem.run_bind, Sem.run_pure, Result.andThen_ok, List.map_toArray, List.map_cons, List.map_nil, hs, hx, hr]
  have hkeep : ∀ {u : Value} {n : Nat} {X : Nat → It}, ItsApart w (T + 1) v.ownBlock u n X → ItsApart w' (T + 1) v'.ownBlock u n X := fun hh => hh.keep k2.size (fun b q1 q2 q3 => ⟨k2.block b q2 (fun e => q3 e.symm), fun e => by
    rcases k4 with k4 | k4
    · rw [k4] at e; exact q3 e
    · rw [k4] at e; simp at e; omega⟩)
  refine h v' w' ⟨us ++ [u], k1, ?_, fun i hi => ?_⟩ ?_ k2 k4
  · rcases k4 with k4 | k4
    · rw [k4]; exact ht
    · rw [k4]; intro e; simp at e; omega
  · by_cases e : i = m
    · subst e
      exact ⟨u, by rw [List.getElem?_append_right (by omega)]; simp [show i - us.length = 0 by omega], hkeep hu⟩
    · obtain ⟨x, q1, q2⟩ := h2 i (by omega)
      exact ⟨x, by rw [List.getElem?_append_left (by omega)]; exact q1, hkeep q2⟩
  · obtain ⟨_, ⟨rfl, h0⟩ | ⟨b, cap, cur, rfl, _⟩⟩ := k1
    · omega
    · exact ⟨_, _, rfl⟩
theorem step_push_two {ops : Array Oper} {o : Oper} {a : Act} {w : World} {K : Act → World → Prop} {Q : Exit → Act → World → Prop} {Z : Prop} (hgd : o.guard = none) (s x : Operand)
    (ho : o.op = .call { callee := .builtin .append, args := #[s, x], argTypes := #[34, 34] })
    (B T m : Nat) (v : Value) (R : Nat → Row) (hs : a.eval s = v) (hv : RowsTwo w B T v m R) (hBT : B ≤ T) (hT : T < w.heap.size)
    (ad : Addr) (c : Nat) (u : Value) (hx : a.eval x = .slice (some ad) 1 c) (hc : w.cell? ad = some u) (hu : ItsApart w (T + 1) v.ownBlock u (R m).len (R m).at_) (hb : (m + 1) * 24 ≤ 140737488355328)
    (h : ∀ v' w', RowsTwo w' B T v' (m + 1) R → (∃ a' c', v' = .slice a' (m + 1) c') → w.grownBy w' v.ownBlock → (v'.ownBlock = v.ownBlock ∨ v'.ownBlock = some w.heap.size) → K (a.put o.dst v') w') : if Region.wanted o (yielded ops a.tmps) = true then Oper.wp Tryz.prog o a w K Q else Z :=
  step_of hgd (wp_push_two s x ho B T m v R hs hv hBT hT ad c u hx hc hu hb h)
/-- a row was made, and is to be put behind the others -/
theorem made_facts {wr w5 W : World} {B T k n : Nat} {rv v5 : Value} {R : Nat → Row} {X : Nat → It} (hi : ItsApart w5 W.heap.size none v5 n X) (hb : Below W.heap.size W w5) (h : Below wr.heap.size wr W) (hrow : RowsTwo wr B T rv k R) (hBT : B ≤ T) (hT : T < wr.heap.size) :
    ItsApart w5 (T + 1) rv.ownBlock v5 n X ∧ Below wr.heap.size wr w5 ∧ RowsTwo w5 B T rv k R := by
  have hbw : Below wr.heap.size wr w5 := h.trans (hb.mono h.size)
  exact ⟨hi.weaken (by have := h.size; omega) (fun q hq => Nat.lt_of_lt_of_le (hrow.lt q hq).2.1 h.size), hbw, hrow.below hbw hBT⟩
/-- .. and was put there: where it is kept, and all ahead, reads as before -/
theorem put_facts {wr w6 W : World} {B T k : Nat} {rv : Value} {R : Nat → Row} (hg : W.grownBy w6 rv.ownBlock) (e : Below wr.heap.size wr W) (hrow : RowsTwo wr B T rv k R) (hBT : B ≤ T) (hT : T < wr.heap.size) :
    w6.heap[T]? = wr.heap[T]? ∧ wr.heap.size ≤ w6.heap.size ∧ Below B wr w6 := by
  have hk : ∀ b, b < wr.heap.size → (b < B ∨ b = T) → w6.heap[b]? = wr.heap[b]? := fun b h1 h2 => (hg.block b (Nat.lt_of_lt_of_le h1 e.size) (fun q => by have := hrow.lt b q.symm; omega)).trans (e.block b h1)
  exact ⟨hk T hT (.inr rfl), Nat.le_trans e.size hg.size, ⟨hg.os.trans e.os, hg.tape.trans e.tape, hg.output.trans e.output, Nat.le_trans e.size hg.size, fun b hb => hk b (by omega) (.inl hb)⟩⟩
/-- texts from B on, ahead of T, apart from a block -/
def StrsKept (w : World) (B T : Nat) (g : Option Nat) (v : Value) (n : Nat) (C : Nat → ByteArray) : Prop :=
  ∃ a cap, v = .slice a n cap ∧ n ≤ cap ∧ cap ≤ maxLen ∧ (a = none → cap = 0) ∧ (0 < n → ∃ b off, a = some ⟨b, off, none⟩ ∧ b < w.heap.size ∧ B ≤ b ∧ b < T ∧ g ≠ some b ∧ StrsAt w b off n C)
theorem StrsKept.is {w : World} {B T : Nat} {g : Option Nat} {v : Value} {n : Nat} {C : Nat → ByteArray} (h : StrsKept w B T g v n C) : StrsIs w v n C := by
  obtain ⟨a, cap, h1, h2, h3, hn, h4⟩ := h
  refine ⟨a, cap, h1, h2, h3, hn, fun h0 => ?_⟩
  obtain ⟨b, off, h5, h6, _, _, _, h7⟩ := h4 h0
  exact ⟨b, off, h5, h6, h7⟩
theorem StrsKept.keep {w w' : World} {B T : Nat} {g g' : Option Nat} {v : Value} {n : Nat} {C : Nat → ByteArray} (h : StrsKept w B T g v n C) (hs : w.heap.size ≤ w'.heap.size) (hb : ∀ b, B ≤ b → b < T → b < w.heap.size → g ≠ some b → w'.heap[b]? = w.heap[b]? ∧ g' ≠ some b) : StrsKept w' B T g' v n C := by
  obtain ⟨a, cap, h1, h2, h3, hn, h4⟩ := h
  refine ⟨a, cap, h1, h2, h3, hn, fun h0 => ?_⟩
  obtain ⟨b, off, h5, h6, h7, h8, h9, h10⟩ := h4 h0
  obtain ⟨k1, k2⟩ := hb b h7 h8 h6 h9
  exact ⟨b, off, h5, by omega, h7, h8, k2, fun i hi => (World.cell?_of_block (a := ⟨b, off + i, none⟩) k1).trans (h10 i hi)⟩
theorem StrsKept.of {w : World} {base B T : Nat} {g : Option Nat} {v : Value} {n : Nat} {C : Nat → ByteArray} (h : StrsFrom w base v n C) (hB : B ≤ base) (hT : w.heap.size ≤ T) (hg : ∀ k, g = some k → k < base ∨ w.heap.size ≤ k) : StrsKept w B T g v n C := by
  obtain ⟨a, cap, h1, h2, h3, hn, h4⟩ := h
  refine ⟨a, cap, h1, h2, h3, hn, fun h0 => ?_⟩
  obtain ⟨b, off, h5, h6, h7, h8⟩ := h4 h0
  exact ⟨b, off, h5, h6, by omega, by omega, fun e => by have := hg b e; omega, h8⟩
theorem StrsKept.below {w w' : World} {B T : Nat} {g : Option Nat} {v : Value} {n : Nat} {C : Nat → ByteArray} (h : StrsKept w B T g v n C) (hb : Below w.heap.size w w') : StrsKept w' B T g v n C := h.keep hb.size (fun b _ _ hb1 hg => ⟨hb.block b hb1, hg⟩)
theorem StrsKept.setCell {w : World} {B T : Nat} {g : Option Nat} {v : Value} {n : Nat} {C : Nat → ByteArray} (h : StrsKept w B T g v n C) {a : Addr} (ha : a.block = T ∨ a.block < B) (u : Value) : StrsKept (w.setCell a u) B T g v n C :=
  h.keep (by simp) (fun b h1 h2 _ hg => ⟨Below.heap_setCell _ _ _ _ (by omega), hg⟩)
theorem StrsKept.mono {w : World} {B B' T T' : Nat} {g : Option Nat} {v : Value} {n : Nat} {C : Nat → ByteArray} (h : StrsKept w B T g v n C) (hB : B' ≤ B) (hT : T ≤ T') : StrsKept w B' T' g v n C := by
  obtain ⟨a, cap, h1, h2, h3, hn, h4⟩ := h
  refine ⟨a, cap, h1, h2, h3, hn, fun h0 => ?_⟩
  obtain ⟨b, off, h5, h6, h7, h8, h9, h10⟩ := h4 h0
  exact ⟨b, off, h5, h6, by omega, by omega, h9, h10⟩
theorem kept_push {w6 W w7 : World} {B T n : Nat} {rv v' c : Value} {C : Nat → ByteArray} (h : StrsKept w6 B T rv.ownBlock c n C) (hg : W.grownBy w7 rv.ownBlock) (hat : v'.ownBlock = rv.ownBlock ∨ v'.ownBlock = some W.heap.size) (e : Below w6.heap.size w6 W) : StrsKept w7 B T v'.ownBlock c n C :=
  h.keep (Nat.le_trans e.size hg.size) (fun b _ _ hb hne => ⟨(hg.block b (Nat.lt_of_lt_of_le hb e.size) (fun q => hne q.symm)).trans (e.block b hb), fun q => by
    rcases hat with k | k
    · rw [k] at q; exact hne q
    · rw [k] at q
      have := e.size
      simp at q
      omega⟩)
theorem alloc_below {w6 W w7 : World} {row : Option Nat} (hg : W.grownBy w7 row) {o : Obj} (e : W.heap = (w6.alloc o).heap) (e1 : W.os = w6.os) (e2 : W.tape = w6.tape) (e3 : W.output = w6.output) : Below w6.heap.size w6 W :=
  below_heap (w := w6.alloc o) ((Below.refl _ _).alloc (Nat.le_refl _) _) e e1 e2 e3
end Go.Proofs.YtmoeipdchapodaaGreatDoor
