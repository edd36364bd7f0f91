/-
  LISTS IN MEMORY: copies by append, rows of rows of one's own: laws for the walk. Nothing of what the program does.
-/
import Derived.Test.YtkcejelmohameaaGreatDoorRlOpen
import Derived.Laws.OwnMore
import Derived.Laws.AppendOwnNone
import Derived.Maps.AppendAt
import Derived.OwnWalk
import Derived.ProofKit
set_option linter.unusedVariables false
namespace Go.Proofs.YtkcejelmohameaaGreatDoor
set_option maxRecDepth 100000
open Go.RowKit Go.Deep Go.ChangeShapes Go.WideShapes

/-- the value is a list whose cells are these -/
def ListIs (w : World) (u : Value) (n size : Nat) (news : List Value) : Prop :=
  news.length = n * size ∧ (∀ x ∈ news, x.oneCell' = true) ∧ ((u = .slice none 0 0 ∧ n = 0) ∨ ∃ ad c, u = .slice (some ad) n c ∧ ∀ j x, news[j]? = some x → w.cell? (ad.add j) = some x)
theorem step_of {P : Program} {ops : Array Oper} {o : Oper} {a : Act} {w : World} {K : Act → World → Prop} {Q : Exit → Act → World → Prop} {X : Prop} (hg : o.guard = none) (h : o.wp P a w K Q) :
    if Region.wanted o (yielded ops a.tmps) = true then Oper.wp P o a w K Q else X := by
  have hw : Region.wanted o (yielded ops a.tmps) = true := by simp [Region.wanted, hg]
  rw [if_pos hw]
  exact h

/-- the cells of items, one behind the other -/
def itCell (x : It) (r : Nat) : Value := match r with
  | 0 => .int .i64 x.kind
  | 1 => .int .i64 x.n
  | _ => .string x.s
def itCells (X : Nat → It) (n : Nat) : List Value := (List.range (n * 3)).map fun j => itCell (X (j / 3)) (j % 3)
theorem itCells_len (X : Nat → It) (n : Nat) : (itCells X n).length = n * 3 := by simp [itCells]
theorem itCells_at (X : Nat → It) (n j : Nat) (h : j < n * 3) : (itCells X n)[j]? = some (itCell (X (j / 3)) (j % 3)) := by simp [itCells, h]
theorem itCell_one (x : It) (r : Nat) : (itCell x r).oneCell' = true := by
  unfold itCell
  split <;> rfl
theorem itCells_one (X : Nat → It) (n : Nat) : ∀ u ∈ itCells X n, u.oneCell' = true := by
  intro u hu
  obtain ⟨j, _, rfl⟩ := List.mem_map.1 hu
  exact itCell_one _ _
theorem itCells_in {w : World} {b off n : Nat} {X : Nat → It} (hX : ItsAt w b off n X) : ∀ j u, (itCells X n)[j]? = some u → w.cell? ((⟨b, off, none⟩ : Addr).add j) = some u := by
  intro j u hj
  have hjl : j < n * 3 := by
    have := (List.getElem?_eq_some_iff.1 hj).1
    rwa [itCells_len] at this
  rw [itCells_at X n j hjl, Option.some.injEq] at hj
  subst hj
  obtain ⟨h0, h1, h2⟩ := hX (j / 3) (by omega)
  rw [add_plain]
  have hm : j % 3 = 0 ∨ j % 3 = 1 ∨ j % 3 = 2 := by omega
  rcases hm with hm | hm | hm
  · rw [show off + j = off + j / 3 * 3 by omega, h0, hm]; rfl
  · rw [show off + j = off + j / 3 * 3 + 1 by omega, h1, hm]; rfl
  · rw [show off + j = off + j / 3 * 3 + 2 by omega, h2, hm]; rfl
theorem its_list {w : World} {u : Value} {n : Nat} {X : Nat → It} (h : ItsIs w u n X) : ListIs w u n 3 (itCells X n) := by
  obtain ⟨a, cap, rfl, h1, h2, hn, h3⟩ := h
  refine ⟨itCells_len X n, itCells_one X n, ?_⟩
  rcases Nat.eq_zero_or_pos n with hz | hz
  · subst hz
    cases a with
    | none => exact .inl ⟨by rw [hn rfl], rfl⟩
    | some a => exact .inr ⟨a, cap, rfl, fun j x hj => by simp [itCells] at hj⟩
  · obtain ⟨b, off, rfl, _, h5⟩ := h3 hz
    exact .inr ⟨_, cap, rfl, itCells_in h5⟩
/-- a list of items apart from a block, behind a base -/
def ItsApart (w : World) (base : Nat) (g : Option Nat) (u : Value) (n : Nat) (X : Nat → It) : Prop :=
  ∃ a cap, u = .slice a n cap ∧ n ≤ cap ∧ cap ≤ maxLen ∧ (a = none → cap = 0) ∧ (0 < n → ∃ b off, a = some ⟨b, off, none⟩ ∧ b < w.heap.size ∧ base ≤ b ∧ g ≠ some b ∧ ItsAt w b off n X)
theorem ItsApart.is {w : World} {base : Nat} {g : Option Nat} {u : Value} {n : Nat} {X : Nat → It} (h : ItsApart w base g u n X) : ItsIs w u n X := by
  obtain ⟨a, cap, h1, h2, h3, hn, h4⟩ := h
  refine ⟨a, cap, h1, h2, h3, hn, fun h0 => ?_⟩
  obtain ⟨b, off, h5, h6, _, _, h7⟩ := h4 h0
  exact ⟨b, off, h5, h6, h7⟩
theorem ItsAt.block {w w' : World} {b off n : Nat} {X : Nat → It} (h : ItsAt w b off n X) (hb : w'.heap[b]? = w.heap[b]?) : ItsAt w' b off n X := fun i hi =>
  ⟨(World.cell?_of_block (a := ⟨b, off + i * 3, none⟩) hb).trans (h i hi).1, (World.cell?_of_block (a := ⟨b, off + i * 3 + 1, none⟩) hb).trans (h i hi).2.1, (World.cell?_of_block (a := ⟨b, off + i * 3 + 2, none⟩) hb).trans (h i hi).2.2⟩
theorem ItsApart.keep {w w' : World} {base : Nat} {g g' : Option Nat} {u : Value} {n : Nat} {X : Nat → It} (h : ItsApart w base g u n X) (hs : w.heap.size ≤ w'.heap.size) (hb : ∀ b, base ≤ b → b < w.heap.size → g ≠ some b → w'.heap[b]? = w.heap[b]? ∧ g' ≠ some b) : ItsApart w' base g' u n X := by
  obtain ⟨a, cap, h1, h2, h3, hn, h4⟩ := h
  refine ⟨a, cap, h1, h2, h3, hn, fun h0 => ?_⟩
  obtain ⟨b, off, h5, h6, h7, h8, h9⟩ := h4 h0
  obtain ⟨k1, k2⟩ := hb b h7 h6 h8
  exact ⟨b, off, h5, by omega, h7, k2, h9.block k1⟩
/-- a copy that was just made -/
theorem its_new {w : World} {base : Nat} {g : Option Nat} {v : Value} {n : Nat} {X : Nat → It} (h : w.ownsRow base 67 3 v n (itCells X n)) (hg : ∀ k, g = some k → k < base) : ItsApart w base g v n X := by
  have h8 := h
  obtain ⟨hl, ⟨rfl, h2⟩ | ⟨b, cap, cur, rfl, q1, q2, q3, q4, _⟩⟩ := h
  · subst h2
    exact ⟨none, 0, rfl, Nat.le_refl _, Nat.zero_le _, fun _ => rfl, fun h => absurd h (Nat.lt_irrefl _)⟩
  · refine ⟨_, cap, rfl, q3, q4, (fun h => nomatch h), fun h0 => ⟨b, 0, rfl, (Array.getElem?_eq_some_iff.1 q2).1, q1, fun e => by have := hg b e; omega, fun i hi => ?_⟩⟩
    have c : ∀ r, r < 3 → w.cell? ⟨b, 0 + i * 3 + r, none⟩ = some (itCell (X i) r) := fun r hr => by
      rw [Nat.zero_add, h8.cellAt _ (by omega), itCells_at X n _ (by omega), show (i * 3 + r) / 3 = i by omega, show (i * 3 + r) % 3 = r by omega]
    exact ⟨c 0 (by omega), c 1 (by omega), c 2 (by omega)⟩

theorem ItsApart.weaken {w : World} {B base : Nat} {g : Option Nat} {u : Value} {n : Nat} {X : Nat → It} (h : ItsApart w B none u n X) (hb : base ≤ B) (hg : ∀ k, g = some k → k < B) : ItsApart w base g u n X := by
  obtain ⟨a, cap, h1, h2, h3, hn, h4⟩ := h
  refine ⟨a, cap, h1, h2, h3, hn, fun h0 => ?_⟩
  obtain ⟨b, off, h5, h6, h7, _, h9⟩ := h4 h0
  exact ⟨b, off, h5, h6, by omega, fun e => by have := hg b e; omega, h9⟩
theorem ItsApart.alloc {w : World} {base : Nat} {g : Option Nat} {u : Value} {n : Nat} {X : Nat → It} (h : ItsApart w base g u n X) (o : Obj) : ItsApart (w.alloc o) base g u n X := h.keep (by simp) (fun b _ hb hg => ⟨Below.heap_alloc w o b hb, hg⟩)
theorem ItsApart.drew {w : World} {base : Nat} {g : Option Nat} {u : Value} {n : Nat} {X : Nat → It} (h : ItsApart w base g u n X) : ItsApart w.drew base g u n X := h
theorem ItsIs.heap {w w' : World} {u : Value} {n : Nat} {X : Nat → It} (h : ItsIs w u n X) (e : w'.heap = w.heap) : ItsIs w' u n X := by
  obtain ⟨a, cap, h1, h2, h3, hn, h4⟩ := h
  refine ⟨a, cap, h1, h2, h3, hn, fun h0 => ?_⟩
  obtain ⟨b, off, h5, h6, h7⟩ := h4 h0
  exact ⟨b, off, h5, by rw [e]; exact h6, h7.block (by rw [e])⟩
theorem ItsApart.heap {w w' : World} {base : Nat} {g : Option Nat} {u : Value} {n : Nat} {X : Nat → It} (h : ItsApart w base g u n X) (e : w'.heap = w.heap) : ItsApart w' base g u n X := h.keep (by rw [e]; exact Nat.le_refl _) (fun b _ _ hg => ⟨by rw [e], hg⟩)
theorem below_heap {B : Nat} {a w w' : World} (h : Below B a w) (e : w'.heap = w.heap) (e1 : w'.os = w.os) (e2 : w'.tape = w.tape) (e3 : w'.output = w.output) : Below B a w' :=
  ⟨e1.trans h.os, e2.trans h.tape, e3.trans h.output, by rw [e]; exact h.size, fun k hk => by rw [e]; exact h.block k hk⟩
theorem ItsIs.drew {w : World} {u : Value} {n : Nat} {X : Nat → It} (h : ItsIs w u n X) : ItsIs w.drew u n X := h
theorem ItsIs.alloc {w : World} {u : Value} {n : Nat} {X : Nat → It} (h : ItsIs w u n X) (o : Obj) : ItsIs (w.alloc o) u n X := h.below ((Below.refl _ _).alloc (Nat.le_refl _) o)

/-- the cells of texts -/
def strCells (C : Nat → ByteArray) (n : Nat) : List Value := (List.range n).map fun j => .string (C j)
theorem strCells_len (C : Nat → ByteArray) (n : Nat) : (strCells C n).length = n * 1 := by simp [strCells]
theorem strCells_at (C : Nat → ByteArray) (n j : Nat) (h : j < n) : (strCells C n)[j]? = some (.string (C j)) := by simp [strCells, h]
theorem strCells_one (C : Nat → ByteArray) (n : Nat) : ∀ u ∈ strCells C n, u.oneCell' = true := by
  intro u hu
  obtain ⟨j, _, rfl⟩ := List.mem_map.1 hu
  rfl
theorem strs_cells {w : World} {u : Value} {n : Nat} {C : Nat → ByteArray} (h : StrsIs w u n C) : ListIs w u n 1 (strCells C n) := by
  obtain ⟨a, cap, rfl, h1, h2, hn, h3⟩ := h
  refine ⟨strCells_len C n, strCells_one C n, ?_⟩
  rcases Nat.eq_zero_or_pos n with hz | hz
  · subst hz
    cases a with
    | none => exact .inl ⟨by rw [hn rfl], rfl⟩
    | some a => exact .inr ⟨a, cap, rfl, fun j x hj => by simp [strCells] at hj⟩
  · obtain ⟨b, off, rfl, _, h5⟩ := h3 hz
    refine .inr ⟨_, cap, rfl, fun j x hj => ?_⟩
    have hjl : j < n := by
      have := (List.getElem?_eq_some_iff.1 hj).1
      rwa [strCells_len, Nat.mul_one] at this
    rw [strCells_at C n j hjl, Option.some.injEq] at hj
    rw [add_plain, h5 j hjl, hj]

/-- texts behind a base -/
def StrsFrom (w : World) (base : Nat) (v : Value) (n : Nat) (C : Nat → ByteArray) : Prop :=
  ∃ a cap, v = .slice a n cap ∧ n ≤ cap ∧ cap ≤ maxLen ∧ (a = none → cap = 0) ∧ (0 < n → ∃ b off, a = some ⟨b, off, none⟩ ∧ b < w.heap.size ∧ base ≤ b ∧ StrsAt w b off n C)
theorem StrsFrom.is {w : World} {base : Nat} {v : Value} {n : Nat} {C : Nat → ByteArray} (h : StrsFrom w base v n C) : StrsIs w v n C := by
  obtain ⟨a, cap, h1, h2, h3, hn, h4⟩ := h
  refine ⟨a, cap, h1, h2, h3, hn, fun h0 => ?_⟩
  obtain ⟨b, off, h5, h6, _, h7⟩ := h4 h0
  exact ⟨b, off, h5, h6, h7⟩
theorem StrsFrom.keep {w w' : World} {base : Nat} {v : Value} {n : Nat} {C : Nat → ByteArray} (h : StrsFrom w base v n C) (hs : w.heap.size ≤ w'.heap.size) (hb : ∀ b, base ≤ b → b < w.heap.size → w'.heap[b]? = w.heap[b]?) : StrsFrom w' base v n C := by
  obtain ⟨a, cap, h1, h2, h3, hn, h4⟩ := h
  refine ⟨a, cap, h1, h2, h3, hn, fun h0 => ?_⟩
  obtain ⟨b, off, h5, h6, h7, h8⟩ := h4 h0
  exact ⟨b, off, h5, by omega, h7, fun i hi => (World.cell?_of_block (a := ⟨b, off + i, none⟩) (hb b h7 h6)).trans (h8 i hi)⟩
theorem StrsFrom.below {w w' : World} {base : Nat} {v : Value} {n : Nat} {C : Nat → ByteArray} (h : StrsFrom w base v n C) (hb : Below w.heap.size w w') : StrsFrom w' base v n C := h.keep hb.size (fun b _ hb1 => hb.block b hb1)
theorem StrsFrom.setCell {w : World} {base : Nat} {v : Value} {n : Nat} {C : Nat → ByteArray} (h : StrsFrom w base v n C) {a : Addr} (ha : a.block < base) (u : Value) : StrsFrom (w.setCell a u) base v n C :=
  h.keep (by simp) (fun b hb _ => Below.heap_setCell _ _ _ _ (by omega))
theorem strs_from {w : World} {base : Nat} {v : Value} {n : Nat} {C : Nat → ByteArray} (h : w.ownsRow base 9 1 v n (strCells C n)) : StrsFrom w base v n C := by
  have h8 := h
  obtain ⟨hl, ⟨rfl, h2⟩ | ⟨b, cap, cur, rfl, q1, q2, q3, q4, _⟩⟩ := h
  · subst h2
    exact ⟨none, 0, rfl, Nat.le_refl _, Nat.zero_le _, fun _ => rfl, fun h => absurd h (Nat.lt_irrefl _)⟩
  · refine ⟨_, cap, rfl, q3, q4, (fun h => nomatch h), fun h0 => ⟨b, 0, rfl, (Array.getElem?_eq_some_iff.1 q2).1, q1, fun i hi => ?_⟩⟩
    rw [Nat.zero_add, h8.cellAt _ (by omega), strCells_at C n _ hi]

/-- rows of one's own: a row of lists, each apart from it -/
def RowsOwn (w : World) (base : Nat) (v : Value) (m : Nat) (R : Nat → Row) : Prop :=
  ∃ us : List Value, w.ownsRow base 94 1 v m us ∧ ∀ i, i < m → ∃ u, us[i]? = some u ∧ ItsApart w base v.ownBlock u (R i).len (R i).at_
theorem RowsOwn.nil (w : World) (base : Nat) (R : Nat → Row) : RowsOwn w base (.slice none 0 0) 0 R := ⟨[], World.ownsRow_nil _ _ _ _, fun i hi => by omega⟩
theorem RowsOwn.shape {w : World} {base : Nat} {v : Value} {m : Nat} {R : Nat → Row} (h : RowsOwn w base v m R) : ∃ a cap, v = .slice a m cap := by
  obtain ⟨us, ⟨_, ⟨rfl, rfl⟩ | ⟨g, cap, cur, rfl, _⟩⟩, _⟩ := h
  · exact ⟨none, 0, rfl⟩
  · exact ⟨_, cap, rfl⟩
theorem RowsOwn.is {w : World} {base : Nat} {v : Value} {m : Nat} {R : Nat → Row} (h : RowsOwn w base v m R) : RowsIs w v m R := by
  obtain ⟨us, h1, h2⟩ := h
  have h8 := h1
  obtain ⟨hl, ⟨rfl, h3⟩ | ⟨b, cap, cur, rfl, q1, q2, q3, q4, _⟩⟩ := h1
  · subst h3
    exact ⟨none, 0, rfl, Nat.le_refl _, Nat.zero_le _, fun _ => rfl, fun h => absurd h (Nat.lt_irrefl _)⟩
  · refine ⟨_, cap, rfl, q3, q4, (fun h => nomatch h), fun h0 => ⟨b, 0, rfl, (Array.getElem?_eq_some_iff.1 q2).1, fun i hi => ?_⟩⟩
    obtain ⟨u, k1, k2⟩ := h2 i hi
    exact ⟨u, by rw [Nat.zero_add, h8.cellAt _ (by omega), k1], k2.is⟩
/-- what leaves blocks from the base on alone leaves them alone -/
theorem RowsOwn.keep {w w' : World} {base : Nat} {v : Value} {m : Nat} {R : Nat → Row} (h : RowsOwn w base v m R) (hs : w.heap.size ≤ w'.heap.size) (hb : ∀ b, base ≤ b → b < w.heap.size → w'.heap[b]? = w.heap[b]?) : RowsOwn w' base v m R := by
  obtain ⟨us, ⟨h1, h2⟩, h3⟩ := h
  refine ⟨us, ⟨h1, ?_⟩, fun i hi => ?_⟩
  · rcases h2 with h2 | ⟨g, cap, cur, hv, hg, hh, r⟩
    · exact .inl h2
    · exact .inr ⟨g, cap, cur, hv, hg, by rw [hb g hg (Array.getElem?_eq_some_iff.1 hh).1]; exact hh, r⟩
  · obtain ⟨u, k1, k2⟩ := h3 i hi
    exact ⟨u, k1, k2.keep hs (fun b q1 q2 q3 => ⟨hb b q1 q2, q3⟩)⟩
theorem RowsOwn.below {w w' : World} {base : Nat} {v : Value} {m : Nat} {R : Nat → Row} (h : RowsOwn w base v m R) (hb : Below w.heap.size w w') : RowsOwn w' base v m R := h.keep hb.size (fun b _ hb1 => hb.block b hb1)
theorem RowsOwn.alloc {w : World} {base : Nat} {v : Value} {m : Nat} {R : Nat → Row} (h : RowsOwn w base v m R) (o : Obj) : RowsOwn (w.alloc o) base v m R := h.below ((Below.refl _ _).alloc (Nat.le_refl _) o)
theorem RowsOwn.heap {w w' : World} {base : Nat} {v : Value} {m : Nat} {R : Nat → Row} (h : RowsOwn w base v m R) (e : w'.heap = w.heap) : RowsOwn w' base v m R := h.keep (by rw [e]; exact Nat.le_refl _) (fun b _ _ => by rw [e])
theorem RowsOwn.drew {w : World} {base : Nat} {v : Value} {m : Nat} {R : Nat → Row} (h : RowsOwn w base v m R) : RowsOwn w.drew base v m R := h.heap rfl
theorem RowsOwn.setCell {w : World} {base : Nat} {v : Value} {m : Nat} {R : Nat → Row} (h : RowsOwn w base v m R) {a : Addr} (ha : a.block < base) (u : Value) : RowsOwn (w.setCell a u) base v m R :=
  h.keep (by simp) (fun b hb _ => Below.heap_setCell _ _ _ _ (by omega))
theorem RowsOwn.congr {w : World} {base : Nat} {v : Value} {m : Nat} {R S : Nat → Row} (h : RowsOwn w base v m R) (e : ∀ i, i < m → R i = S i) : RowsOwn w base v m S := by
  obtain ⟨us, h1, h2⟩ := h
  refine ⟨us, h1, fun i hi => ?_⟩
  rw [← e i hi]
  exact h2 i hi
theorem RowsOwn.lt {w : World} {base : Nat} {v : Value} {m : Nat} {R : Nat → Row} (h : RowsOwn w base v m R) : ∀ k, v.ownBlock = some k → base ≤ k ∧ k < w.heap.size := by
  obtain ⟨us, h1, _⟩ := h
  exact h1.lt
theorem infoItems : (Tryz.prog.info? 94).map (fun i => (i.zero, i.size, i.bytes)) = some (some (.slice none 0 0), 1, 24) := by kernel_rfl
theorem infoItem : (Tryz.prog.info? 67).map (fun i => (i.zero, i.size, i.bytes)) = some (some (.agg #[.int .i64 0, .int .i64 0, .string ByteArray.empty]), 3, 32) := by kernel_rfl
theorem infoStr : (Tryz.prog.info? 9).map (fun i => (i.zero, i.size, i.bytes)) = some (some (.string ByteArray.empty), 1, 16) := by kernel_rfl

theorem rows_behind {w0 w w' : World} {base : Nat} {v : Value} {m : Nat} {R : Nat → Row} (hb : Below w.heap.size w w') (e : w.heap = w0.heap) (h : RowsOwn w0 base v m R) : RowsOwn w' base v m R := (h.heap e).below hb
end Go.Proofs.YtkcejelmohameaaGreatDoor
