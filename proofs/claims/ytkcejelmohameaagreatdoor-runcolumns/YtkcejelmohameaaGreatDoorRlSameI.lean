/-
  CONTRACT of the document's sameItems.
-/
import Derived.Test.YtkcejelmohameaaGreatDoorRlMem
import Derived.Test.YtkcejelmohameaaGreatDoorRlFault
import Derived.Deep.QuietTactic
import Derived.BigQuiet
import Derived.Test.YtkcejelmohameaaGreatDoorCkMap
import Derived.WalkKit
import Derived.WalkSpells
import Derived.WalkLawsBesides
import Derived.Outline
import Derived.Lib.Builder
import Derived.Maps.OwnSet
import Derived.DeepKeys5
set_option linter.unusedVariables false
namespace Go.Proofs.YtkcejelmohameaaGreatDoor
set_option maxRecDepth 100000
open Go.RowKit

theorem drawn_keep {w wr : World} {b o q : Nat} (h : wr = w.drewN q) : wr.cell? ⟨b, o, none⟩ = w.cell? ⟨b, o, none⟩ := by rw [h]; simp
set_option maxHeartbeats 800000 in
theorem sameTexts_some (b off cap b' off' cap' n : Nat) (C : Nat → ByteArray) (w : World) (hm : n ≤ maxLen) (hc : n ≤ cap) (hc' : n ≤ cap') (hE : StrsAt w b off n C) (hE' : StrsAt w b' off' n C) :
    Calls Tryz.prog 18 #[.slice (some ⟨b, off, none⟩) n cap, .slice (some ⟨b', off', none⟩) n cap'] w fun e w' => e = .returned (.bool true) ∧ ∃ q, w' = w.drewN q := by
  have HE : Hid (StrsAt w b off n C) := hE
  have HE' : Hid (StrsAt w b' off' n C) := hE'
  unfold maxLen at hm
  clear hE hE'
  go_enter Tryz.func18, Tryz.ntmps18
  go_wp2
  go_loopw [5] (fun i wr => ∃ k q : Nat, k ≤ n ∧ i = .int .i64 k ∧ wr = w.drewN q) (fun i _ => n - (intOf i).toNat)
  case atStart => exact ⟨0, 0, Nat.zero_le _, rfl, rfl⟩
  case round =>
    obtain ⟨k, q, hk, rfl, hwr⟩ := hrel
    have HW : Hid (wr = w.drewN q) := hwr
    by_cases hlt : k < n
    · have e1 := (drawn_keep (b := b) (o := off + k) hwr).trans (HE.out k hlt)
      have e2 := (drawn_keep (b := b') (o := off' + k) hwr).trans (HE'.out k hlt)
      have hki : (k : Int) < (n : Int) := by omega
      clear hwr
      go_wp2
      go_quiet (fail)
      go_wp2
      go_roundw
      case rel => exact ⟨k + 1, _, by omega, by go_num, by rw [HW.out, World.drewN_drewN]⟩
      case measure => simp [intOf]; omega
    · clear hwr
      go_wp2
      go_ret
      exact ⟨rfl, q, HW.out⟩
set_option maxHeartbeats 400000 in
theorem sameTexts_zero (a a' : Option Addr) (cap cap' : Nat) (w : World) :
    Calls Tryz.prog 18 #[.slice a 0 cap, .slice a' 0 cap'] w fun e w' => e = .returned (.bool true) ∧ ∃ q, w' = w.drewN q := by
  go_enter Tryz.func18, Tryz.ntmps18
  go_wp2
  go_loop [5] (fun i => i = .int .i64 0) (fun _ => 0)
  case atStart => rfl
  case round =>
    subst hrel
    go_wp2
    go_ret
    exact ⟨rfl, 0, rfl⟩
theorem sameTexts_is (u v : Value) (n : Nat) (C : Nat → ByteArray) (w : World) (hu : StrsIs w u n C) (hv : StrsIs w v n C) :
    Calls Tryz.prog 18 #[u, v] w fun e w' => e = .returned (.bool true) ∧ ∃ q, w' = w.drewN q := by
  obtain ⟨a, cap, rfl, h1, h2, _, h3⟩ := hu
  obtain ⟨a', cap', rfl, h1', h2', _, h3'⟩ := hv
  rcases Nat.eq_zero_or_pos n with hz | hz
  · subst hz
    exact sameTexts_zero a a' cap cap' w
  · obtain ⟨b, off, rfl, h4, h5⟩ := h3 hz
    obtain ⟨b', off', rfl, h4', h5'⟩ := h3' hz
    exact sameTexts_some b off cap b' off' cap' n C w (Nat.le_trans h1 h2) h1 h1' h5 h5'
/-- two relations were boxed -/
theorem box22 {w wr : World} {c q c' q' : Value} {T T' : TypeId} (h : Below ((w.alloc (.cells #[c, q] T)).alloc (.cells #[c', q'] T')).heap.size ((w.alloc (.cells #[c, q] T)).alloc (.cells #[c', q'] T')) wr) :
    wr.cell? ⟨w.heap.size, 0, none⟩ = some c ∧ wr.cell? ⟨w.heap.size, 1, none⟩ = some q ∧ wr.cell? ⟨w.heap.size + 1, 0, none⟩ = some c' ∧ wr.cell? ⟨w.heap.size + 1, 1, none⟩ = some q' ∧ w.heap.size + 1 < wr.heap.size := by
  have hs := h.size
  simp at hs
  refine ⟨(h.cell (p := ⟨w.heap.size, 0, none⟩) (by simp <;> omega)).trans ?_, (h.cell (p := ⟨w.heap.size, 1, none⟩) (by simp <;> omega)).trans ?_, (h.cell (p := ⟨w.heap.size + 1, 0, none⟩) (by simp)).trans ?_, (h.cell (p := ⟨w.heap.size + 1, 1, none⟩) (by simp)).trans ?_, by omega⟩ <;> simp
theorem below_two {w : World} (o o' : Obj) : Below w.heap.size w ((w.alloc o).alloc o') := ((Below.refl _ _).alloc (Nat.le_refl _) _).alloc (by simp) _
/-- a call of a Go function, as one step of a region that draws -/
theorem wp_call {P : Program} {o : Oper} {a : Act} {w : World} {K : Act → World → Prop} {Q : Exit → Act → World → Prop} (f : FuncId) (args : Array Value) (hrun : (execOp a.eval o).run P w = .ok (.enter f args) w)
    (Post : Value → World → Prop) (hc : Calls P f args w fun e w' => ∃ v, e = .returned v ∧ Post v w') (h : ∀ v w', Post v w' → K (a.put o.dst v) w') : o.wp P a w K Q := by
  unfold Oper.wp
  rw [hrun, Oper.upon_enter]
  refine hc.mono fun e w'' hh => ?_
  obtain ⟨v, rfl, hp⟩ := hh
  exact h v w'' hp
theorem step_call {P : Program} {ops : Array Oper} {o : Oper} {a : Act} {w : World} {K : Act → World → Prop} {Q : Exit → Act → World → Prop} {Z : Prop} (hgd : o.guard = none) (f : FuncId) (args : Array Value) (hrun : (execOp a.eval o).run P w = .ok (.enter f args) w)
    (Post : Value → World → Prop) (hc : Calls P f args w fun e w' => ∃ v, e = .returned v ∧ Post v w') (h : ∀ v w', Post v w' → K (a.put o.dst v) w') : if Region.wanted o (yielded ops a.tmps) = true then Oper.wp P o a w K Q else Z :=
  step_of hgd (wp_call f args hrun Post hc h)
end Go.Proofs.YtkcejelmohameaaGreatDoor
set_option linter.unusedVariables false
namespace Go.Proofs.YtkcejelmohameaaGreatDoor
set_option maxRecDepth 100000
open Go.RowKit Go.Deep Go.ChangeShapes Go.WideShapes

/-- the list lies behind B, not at T; each row behind T -/
def RowsTwo (w : World) (B T : Nat) (v : Value) (m : Nat) (R : Nat → Row) : Prop :=
  ∃ us : List Value, w.ownsRow B 94 1 v m us ∧ v.ownBlock ≠ some T ∧ ∀ i, i < m → ∃ u, us[i]? = some u ∧ ItsApart w (T + 1) v.ownBlock u (R i).len (R i).at_
theorem RowsTwo.shape {w : World} {B T : Nat} {v : Value} {m : Nat} {R : Nat → Row} (h : RowsTwo w B T v m R) : ∃ a cap, v = .slice a m cap := by
  obtain ⟨us, ⟨_, ⟨rfl, rfl⟩ | ⟨g, cap, cur, rfl, _⟩⟩, _⟩ := h
  · exact ⟨none, 0, rfl⟩
  · exact ⟨_, cap, rfl⟩
theorem RowsTwo.is {w : World} {B T : Nat} {v : Value} {m : Nat} {R : Nat → Row} (h : RowsTwo w B T v m R) : RowsIs w v m R := by
  obtain ⟨us, h1, _, h2⟩ := h
  have h8 := h1
  obtain ⟨hl, ⟨rfl, h3⟩ | ⟨b, cap, cur, rfl, q1, q2, q3, q4, _⟩⟩ := h1
  · subst h3
    exact ⟨none, 0, rfl, Nat.le_refl _, Nat.zero_le _, fun _ => rfl, fun h => absurd h (Nat.lt_irrefl _)⟩
  · refine ⟨_, cap, rfl, q3, q4, (fun h => nomatch h), fun h0 => ⟨b, 0, rfl, (Array.getElem?_eq_some_iff.1 q2).1, fun i hi => ?_⟩⟩
    obtain ⟨u, k1, k2⟩ := h2 i hi
    exact ⟨u, by rw [Nat.zero_add, h8.cellAt _ (by omega), k1], k2.is⟩
/-- no row as yet -/
theorem RowsTwo.start {w : World} {B T : Nat} {v : Value} {R : Nat → Row} (h : RowsOwn w B v 0 R) (hT : w.heap.size ≤ T) : RowsTwo w B T v 0 R := by
  obtain ⟨us, h1, _⟩ := h
  exact ⟨us, h1, fun e => by have := (h1.lt T e).2; omega, fun i hi => by omega⟩
theorem RowsTwo.keep {w w' : World} {B T : Nat} {v : Value} {m : Nat} {R : Nat → Row} (h : RowsTwo w B T v m R) (hs : w.heap.size ≤ w'.heap.size) (hb : ∀ b, b ≠ T → B ≤ b → b < w.heap.size → w'.heap[b]? = w.heap[b]?) (hBT : B ≤ T) : RowsTwo w' B T v m R := by
  obtain ⟨us, ⟨h1, h2⟩, ht, h3⟩ := h
  refine ⟨us, ⟨h1, ?_⟩, ht, fun i hi => ?_⟩
  · rcases h2 with h2 | ⟨g, cap, cur, hv, hg, hh, r⟩
    · exact .inl h2
    · exact .inr ⟨g, cap, cur, hv, hg, by rw [hb g (fun e => ht (by rw [hv, e]; rfl)) hg (Array.getElem?_eq_some_iff.1 hh).1]; exact hh, r⟩
  · obtain ⟨u, k1, k2⟩ := h3 i hi
    exact ⟨u, k1, k2.keep hs (fun b q1 q2 q3 => ⟨hb b (by omega) (by omega) q2, q3⟩)⟩
theorem RowsTwo.below {w w' : World} {B T : Nat} {v : Value} {m : Nat} {R : Nat → Row} (h : RowsTwo w B T v m R) (hb : Below w.heap.size w w') (hBT : B ≤ T) : RowsTwo w' B T v m R := h.keep hb.size (fun b _ _ hb1 => hb.block b hb1) hBT
theorem RowsTwo.alloc {w : World} {B T : Nat} {v : Value} {m : Nat} {R : Nat → Row} (h : RowsTwo w B T v m R) (hBT : B ≤ T) (o : Obj) : RowsTwo (w.alloc o) B T v m R := h.below ((Below.refl _ _).alloc (Nat.le_refl _) o) hBT
theorem RowsTwo.heap {w w' : World} {B T : Nat} {v : Value} {m : Nat} {R : Nat → Row} (h : RowsTwo w B T v m R) (e : w'.heap = w.heap) (hBT : B ≤ T) : RowsTwo w' B T v m R := h.keep (by rw [e]; exact Nat.le_refl _) (fun b _ _ _ => by rw [e]) hBT
/-- a store where it is kept, or ahead of all -/
theorem RowsTwo.setCell {w : World} {B T : Nat} {v : Value} {m : Nat} {R : Nat → Row} (h : RowsTwo w B T v m R) (hBT : B ≤ T) {a : Addr} (ha : a.block = T ∨ a.block < B) (u : Value) : RowsTwo (w.setCell a u) B T v m R :=
  h.keep (by simp) (fun b h1 h2 _ => Below.heap_setCell _ _ _ _ (by omega)) hBT
theorem RowsTwo.lt {w : World} {B T : Nat} {v : Value} {m : Nat} {R : Nat → Row} (h : RowsTwo w B T v m R) : ∀ k, v.ownBlock = some k → B ≤ k ∧ k < w.heap.size ∧ k ≠ T := by
  obtain ⟨us, h1, h2, _⟩ := h
  exact fun k hk => ⟨(h1.lt k hk).1, (h1.lt k hk).2, fun e => h2 (by rw [hk, e])⟩
/-- a row more -/
theorem wp_push_two {o : Oper} {a : Act} {w : World} {K : Act → World → Prop} {Q : Exit → Act → World → Prop} (s x : Operand)
    (ho : o.op = .call { callee := .builtin .append, args := #[s, x], argTypes := #[38, 38] })
    (B T m : Nat) (v : Value) (R : Nat → Row) (hs : a.eval s = v) (hv : RowsTwo w B T v m R) (hBT : B ≤ T) (hT : T < w.heap.size)
    (ad : Addr) (c : Nat) (u : Value) (hx : a.eval x = .slice (some ad) 1 c) (hc : w.cell? ad = some u) (hu : ItsApart w (T + 1) v.ownBlock u (R m).len (R m).at_) (hb : (m + 1) * 24 ≤ 140737488355328)
    (h : ∀ v' w', RowsTwo w' B T v' (m + 1) R → (∃ a' c', v' = .slice a' (m + 1) c') → w.grownBy w' v.ownBlock → (v'.ownBlock = v.ownBlock ∨ v'.ownBlock = some w.heap.size) → K (a.put o.dst v') w') : o.wp Tryz.prog a w K Q := by
  obtain ⟨i0, hi0, hz0, hz1, hz2⟩ := info_parts infoItems
  obtain ⟨us, h1, ht, h2⟩ := hv
  have huo : u.oneCell' = true := by
    obtain ⟨_, _, rfl, _⟩ := hu
    rfl
  have hl := h1.1
  obtain ⟨v', w', hr, k1, k2, k3, k4⟩ := run_append_own_at (P := Tryz.prog) w B 38 o.type 94 i0 _ 1 24 Tryz.underlying38 hi0 hz0 hz1 hz2 rfl (by decide) v m us h1 ad 1 c [u] rfl (fun j x hj => by
    match j, hj with
    | 0, hj =>
      simp only [List.getElem?_cons_zero, Option.some.injEq] at hj
      subst hj
      simpa [Addr.add] using hc) (fun x hx => by simp at hx; rw [hx]; exact huo) (by unfold maxLen; omega) hb (by omega)
  unfold Oper.wp execOp
  simp only [ho, resolve, invoke, builtin, Sem.run_bind, Sem.run_pure, Result.andThen_ok, List.map_toArray, List.map_cons, List.map_nil, hs, hx, hr]
  have hkeep : ∀ {u : Value} {n : Nat} {X : Nat → It}, ItsApart w (T + 1) v.ownBlock u n X → ItsApart w' (T + 1) v'.ownBlock u n X := fun hh => hh.keep k2.size (fun b q1 q2 q3 => ⟨k2.block b q2 (fun e => q3 e.symm), fun e => by
    rcases k4 with k4 | k4
    · rw [k4] at e; exact q3 e
    · rw [k4] at e; simp at e; omega⟩)
  refine h v' w' ⟨us ++ [u], k1, ?_, fun i hi => ?_⟩ ?_ k2 k4
  · rcases k4 with k4 | k4
    · rw [k4]; exact ht
    · rw [k4]; intro e; simp at e; omega
  · by_cases e : i = m
    · subst e
      exact ⟨u, by rw [List.getElem?_append_right (by omega)]; simp [show i - us.length = 0 by omega], hkeep hu⟩
    · obtain ⟨x, q1, q2⟩ := h2 i (by omega)
      exact ⟨x, by rw [List.getElem?_append_left (by omega)]; exact q1, hkeep q2⟩
  · obtain ⟨_, ⟨rfl, h0⟩ | ⟨b, cap, cur, rfl, _⟩⟩ := k1
    · omega
    · exact ⟨_, _, rfl⟩
theorem step_push_two {ops : Array Oper} {o : Oper} {a : Act} {w : World} {K : Act → World → Prop} {Q : Exit → Act → World → Prop} {Z : Prop} (hgd : o.guard = none) (s x : Operand)
    (ho : o.op = .call { callee := .builtin .append, args := #[s, x], argTypes := #[38, 38] })
    (B T m : Nat) (v : Value) (R : Nat → Row) (hs : a.eval s = v) (hv : RowsTwo w B T v m R) (hBT : B ≤ T) (hT : T < w.heap.size)
    (ad : Addr) (c : Nat) (u : Value) (hx : a.eval x = .slice (some ad) 1 c) (hc : w.cell? ad = some u) (hu : ItsApart w (T + 1) v.ownBlock u (R m).len (R m).at_) (hb : (m + 1) * 24 ≤ 140737488355328)
    (h : ∀ v' w', RowsTwo w' B T v' (m + 1) R → (∃ a' c', v' = .slice a' (m + 1) c') → w.grownBy w' v.ownBlock → (v'.ownBlock = v.ownBlock ∨ v'.ownBlock = some w.heap.size) → K (a.put o.dst v') w') : if Region.wanted o (yielded ops a.tmps) = true then Oper.wp Tryz.prog o a w K Q else Z :=
  step_of hgd (wp_push_two s x ho B T m v R hs hv hBT hT ad c u hx hc hu hb h)
/-- a row was made, and is to be put behind the others -/
theorem made_facts {wr w5 W : World} {B T k n : Nat} {rv v5 : Value} {R : Nat → Row} {X : Nat → It} (hi : ItsApart w5 W.heap.size none v5 n X) (hb : Below W.heap.size W w5) (h : Below wr.heap.size wr W) (hrow : RowsTwo wr B T rv k R) (hBT : B ≤ T) (hT : T < wr.heap.size) :
    ItsApart w5 (T + 1) rv.ownBlock v5 n X ∧ Below wr.heap.size wr w5 ∧ RowsTwo w5 B T rv k R := by
  have hbw : Below wr.heap.size wr w5 := h.trans (hb.mono h.size)
  exact ⟨hi.weaken (by have := h.size; omega) (fun q hq => Nat.lt_of_lt_of_le (hrow.lt q hq).2.1 h.size), hbw, hrow.below hbw hBT⟩
/-- .. and was put there: where it is kept, and all ahead, reads as before -/
theorem put_facts {wr w6 W : World} {B T k : Nat} {rv : Value} {R : Nat → Row} (hg : W.grownBy w6 rv.ownBlock) (e : Below wr.heap.size wr W) (hrow : RowsTwo wr B T rv k R) (hBT : B ≤ T) (hT : T < wr.heap.size) :
    w6.heap[T]? = wr.heap[T]? ∧ wr.heap.size ≤ w6.heap.size ∧ Below B wr w6 := by
  have hk : ∀ b, b < wr.heap.size → (b < B ∨ b = T) → w6.heap[b]? = wr.heap[b]? := fun b h1 h2 => (hg.block b (Nat.lt_of_lt_of_le h1 e.size) (fun q => by have := hrow.lt b q.symm; omega)).trans (e.block b h1)
  exact ⟨hk T hT (.inr rfl), Nat.le_trans e.size hg.size, ⟨hg.os.trans e.os, hg.tape.trans e.tape, hg.output.trans e.output, Nat.le_trans e.size hg.size, fun b hb => hk b (by omega) (.inl hb)⟩⟩
/-- texts from B on, ahead of T, apart from a block -/
def StrsKept (w : World) (B T : Nat) (g : Option Nat) (v : Value) (n : Nat) (C : Nat → ByteArray) : Prop :=
  ∃ a cap, v = .slice a n cap ∧ n ≤ cap ∧ cap ≤ maxLen ∧ (a = none → cap = 0) ∧ (0 < n → ∃ b off, a = some ⟨b, off, none⟩ ∧ b < w.heap.size ∧ B ≤ b ∧ b < T ∧ g ≠ some b ∧ StrsAt w b off n C)
theorem StrsKept.is {w : World} {B T : Nat} {g : Option Nat} {v : Value} {n : Nat} {C : Nat → ByteArray} (h : StrsKept w B T g v n C) : StrsIs w v n C := by
  obtain ⟨a, cap, h1, h2, h3, hn, h4⟩ := h
  refine ⟨a, cap, h1, h2, h3, hn, fun h0 => ?_⟩
  obtain ⟨b, off, h5, h6, _, _, _, h7⟩ := h4 h0
  exact ⟨b, off, h5, h6, h7⟩
theorem StrsKept.keep {w w' : World} {B T : Nat} {g g' : Option Nat} {v : Value} {n : Nat} {C : Nat → ByteArray} (h : StrsKept w B T g v n C) (hs : w.heap.size ≤ w'.heap.size) (hb : ∀ b, B ≤ b → b < T → b < w.heap.size → g ≠ some b → w'.heap[b]? = w.heap[b]? ∧ g' ≠ some b) : StrsKept w' B T g' v n C := by
  obtain ⟨a, cap, h1, h2, h3, hn, h4⟩ := h
  refine ⟨a, cap, h1, h2, h3, hn, fun h0 => ?_⟩
  obtain ⟨b, off, h5, h6, h7, h8, h9, h10⟩ := h4 h0
  obtain ⟨k1, k2⟩ := hb b h7 h8 h6 h9
  exact ⟨b, off, h5, by omega, h7, h8, k2, fun i hi => (World.cell?_of_block (a := ⟨b, off + i, none⟩) k1).trans (h10 i hi)⟩
theorem StrsKept.of {w : World} {base B T : Nat} {g : Option Nat} {v : Value} {n : Nat} {C : Nat → ByteArray} (h : StrsFrom w base v n C) (hB : B ≤ base) (hT : w.heap.size ≤ T) (hg : ∀ k, g = some k → k < base ∨ w.heap.size ≤ k) : StrsKept w B T g v n C := by
  obtain ⟨a, cap, h1, h2, h3, hn, h4⟩ := h
  refine ⟨a, cap, h1, h2, h3, hn, fun h0 => ?_⟩
  obtain ⟨b, off, h5, h6, h7, h8⟩ := h4 h0
  exact ⟨b, off, h5, h6, by omega, by omega, fun e => by have := hg b e; omega, h8⟩
theorem StrsKept.below {w w' : World} {B T : Nat} {g : Option Nat} {v : Value} {n : Nat} {C : Nat → ByteArray} (h : StrsKept w B T g v n C) (hb : Below w.heap.size w w') : StrsKept w' B T g v n C := h.keep hb.size (fun b _ _ hb1 hg => ⟨hb.block b hb1, hg⟩)
theorem StrsKept.setCell {w : World} {B T : Nat} {g : Option Nat} {v : Value} {n : Nat} {C : Nat → ByteArray} (h : StrsKept w B T g v n C) {a : Addr} (ha : a.block = T ∨ a.block < B) (u : Value) : StrsKept (w.setCell a u) B T g v n C :=
  h.keep (by simp) (fun b h1 h2 _ hg => ⟨Below.heap_setCell _ _ _ _ (by omega), hg⟩)
theorem StrsKept.mono {w : World} {B B' T T' : Nat} {g : Option Nat} {v : Value} {n : Nat} {C : Nat → ByteArray} (h : StrsKept w B T g v n C) (hB : B' ≤ B) (hT : T ≤ T') : StrsKept w B' T' g v n C := by
  obtain ⟨a, cap, h1, h2, h3, hn, h4⟩ := h
  refine ⟨a, cap, h1, h2, h3, hn, fun h0 => ?_⟩
  obtain ⟨b, off, h5, h6, h7, h8, h9, h10⟩ := h4 h0
  exact ⟨b, off, h5, h6, by omega, by omega, h9, h10⟩
theorem kept_push {w6 W w7 : World} {B T n : Nat} {rv v' c : Value} {C : Nat → ByteArray} (h : StrsKept w6 B T rv.ownBlock c n C) (hg : W.grownBy w7 rv.ownBlock) (hat : v'.ownBlock = rv.ownBlock ∨ v'.ownBlock = some W.heap.size) (e : Below w6.heap.size w6 W) : StrsKept w7 B T v'.ownBlock c n C :=
  h.keep (Nat.le_trans e.size hg.size) (fun b _ _ hb hne => ⟨(hg.block b (Nat.lt_of_lt_of_le hb e.size) (fun q => hne q.symm)).trans (e.block b hb), fun q => by
    rcases hat with k | k
    · rw [k] at q; exact hne q
    · rw [k] at q
      have := e.size
      simp at q
      omega⟩)
theorem alloc_below {w6 W w7 : World} {row : Option Nat} (hg : W.grownBy w7 row) {o : Obj} (e : W.heap = (w6.alloc o).heap) (e1 : W.os = w6.os) (e2 : W.tape = w6.tape) (e3 : W.output = w6.output) : Below w6.heap.size w6 W :=
  below_heap (w := w6.alloc o) ((Below.refl _ _).alloc (Nat.le_refl _) _) e e1 e2 e3
end Go.Proofs.YtkcejelmohameaaGreatDoor
set_option linter.unusedVariables false
namespace Go.Proofs.YtkcejelmohameaaGreatDoor
set_option maxRecDepth 100000
open Go.RowKit Go.WideShapes

/-- a row of texts -/
def TxtsL (w : World) (v : Value) (L : List ByteArray) : Prop :=
  ∃ b off cap, v = .slice (some ⟨b, off, none⟩) L.length cap ∧ L.length ≤ cap ∧ cap ≤ maxLen ∧ b < w.heap.size ∧ ∀ i (h : i < L.length), w.cell? ⟨b, off + i, none⟩ = some (.string L[i])
theorem TxtsL.keep {w w' : World} {v : Value} {L : List ByteArray} (h : TxtsL w v L) (hs : w.heap.size ≤ w'.heap.size) (hb : ∀ n c b off, v = .slice (some ⟨b, off, none⟩) n c → w'.heap[b]? = w.heap[b]?) : TxtsL w' v L := by
  obtain ⟨b, off, cap, h1, h2, h3, h4, h5⟩ := h
  exact ⟨b, off, cap, h1, h2, h3, by omega, fun i hi => by rw [← h5 i hi]; unfold World.cell?; rw [hb _ _ _ _ h1]⟩
end Go.Proofs.YtkcejelmohameaaGreatDoor
set_option linter.unusedVariables false
namespace Go.Proofs.YtkcejelmohameaaGreatDoor
set_option maxRecDepth 100000
open Go.RowKit Go.WideShapes

/-- the value of a key -/
def keyV (X : Nat → It) : Value := .agg (itCells X 8).toArray
theorem typesFewQ : Nat.ble (Tryz.prog.types.size + 2) 10000 = true := by kernel_rfl
theorem typesKey : Nat.ble (165 + 1) Tryz.prog.types.size = true := by kernel_rfl
theorem keyLaw : Go.Maps.Keyed Tryz.prog 165 := Go.Maps.Keyed.of_law (deep_law_gate (by kernel_rfl) (Nat.le_of_ble_eq_true typesFewQ) (Nat.le_of_ble_eq_true typesKey) (by kernel_rfl) (by kernel_rfl))
/-- what an item must be, to be a key -/
def fitIQ (x : It) : Prop := (Lit.int .i64 x.kind).wf = true ∧ (Lit.int .i64 x.n).wf = true ∧ x.s.size ≤ maxLen
theorem keyV_cells (X : Nat → It) (i : Nat) (hi : i < 8) : ((itCells X 8).drop (i * 3)).take 3 = [.int .i64 (X i).kind, .int .i64 (X i).n, .string (X i).s] := by
  apply List.ext_getElem?
  intro j
  rw [List.getElem?_take]
  by_cases hj : j < 3
  · rw [if_pos hj, List.getElem?_drop, itCells_at _ _ _ (by omega), show (i * 3 + j) / 3 = i by omega, show (i * 3 + j) % 3 = j by omega]
    match j, hj with
    | 0, _ => rfl
    | 1, _ => rfl
    | 2, _ => rfl
  · rw [if_neg hj, List.getElem?_eq_none (by simp; omega)]
theorem item_litsQ (d : Nat) (x : It) (h : fitIQ x) : Tryz.prog.keyLits (d + 2) 67 [.int .i64 x.kind, .int .i64 x.n, .string x.s] = some [.int .i64 x.kind, .int .i64 x.n, .string x.s.data.toList] := by
  obtain ⟨h1, h2, h3⟩ := h
  simp [Program.keyLits, Tryz.underlying67, Tryz.underlying3, Tryz.underlying9, cellsItem, cells3, cells9, h1, h2, h3]
theorem mapM_some {α β : Type} (f : α → Option β) (g : α → β) : ∀ l : List α, (∀ a ∈ l, f a = some (g a)) → l.mapM f = some (l.map g)
  | [], _ => rfl
  | a :: r, h => by
    rw [List.mapM_cons, h a (by simp), mapM_some f g r (fun b hb => h b (by simp [hb]))]
    rfl
theorem cellsKey : Tryz.prog.cellsOf 165 = 24 := by kernel_rfl
theorem keyV_lits (d : Nat) (X : Nat → It) (h : ∀ i, i < 8 → fitIQ (X i)) : ∃ ls, Tryz.prog.keyLits (d + 3) 165 (itCells X 8) = some ls := by
  refine ⟨((List.range 8).map fun i => [Lit.int .i64 (X i).kind, Lit.int .i64 (X i).n, Lit.string (X i).s.data.toList]).flatten, ?_⟩
  obtain ⟨e, he⟩ : ∃ e, e = d + 2 := ⟨_, rfl⟩
  rw [show d + 3 = e + 1 by omega]
  simp only [Program.keyLits, Tryz.underlying165, cellsKey, cellsItem, itCells_len]
  rw [if_pos trivial, mapM_some _ (fun i => [Lit.int .i64 (X i).kind, Lit.int .i64 (X i).n, Lit.string (X i).s.data.toList])]
  · rfl
  · intro i hi
    have hi' := List.mem_range.1 hi
    rw [keyV_cells X i hi', he, item_litsQ d (X i) (h i hi')]
theorem keyV_key (X : Nat → It) (h : ∀ i, i < 8 → fitIQ (X i)) : ∃ l, keyOf Tryz.prog 165 (keyV X) = some l := by
  obtain ⟨d, hd⟩ : ∃ d, Tryz.prog.types.size + 1 = d + 3 := ⟨Tryz.prog.types.size - 2, by
    have := Nat.le_of_ble_eq_true typesKey
    omega⟩
  obtain ⟨ls, hls⟩ := keyV_lits d X h
  refine ⟨.string (keyBytes ls), ?_⟩
  have h1 : Tryz.prog.keyType 165 = true := by kernel_rfl
  have h2 : (keyV X).formed Tryz.prog 165 = true := by
    simp [keyV, Value.formed, Tryz.underlying165, cellsKey, itCells_len]
  have h3 : (keyV X).cells.toList = itCells X 8 := by simp [keyV, Value.cells]
  simp only [keyOf, Tryz.underlying165, h1, h2, h3, hd, hls]
  rfl
theorem keyV_inj {X Y : Nat → It} (h : keyV X = keyV Y) : ∀ i, i < 8 → X i = Y i := by
  intro i hi
  have h1 : itCells X 8 = itCells Y 8 := by
    have := Value.agg.inj h
    simpa using congrArg Array.toList this
  have h2 := keyV_cells X i hi
  rw [h1, keyV_cells Y i hi] at h2
  simp only [List.cons.injEq, Value.int.injEq, Value.string.injEq, true_and, and_true] at h2
  obtain ⟨a, b, c⟩ := h2
  cases hx : X i
  cases hy : Y i
  rw [hx] at a b c
  rw [hy] at a b c
  simp at a b c
  rw [a, b, c]
/-- a map as a set of keys -/
def SetIs (w : World) (b n : Nat) (T : Value → Prop) : Prop :=
  ∃ D : DataW Unit, w.ownsMap Tryz.prog 165 (unitElem (H := Unit)) b n D ∧ ∀ v l, keyOf Tryz.prog 165 v = some l → (Go.Maps.has D l = true ↔ T v)
theorem zeroU (w : World) : (zeroValue 163).run Tryz.prog w = .ok (.agg #[]) w := by kernel_rfl
theorem SetIs.made (w : World) : SetIs (w.alloc (.map #[] 0)) w.heap.size 0 (fun _ => False) :=
  ⟨.map [], World.ownsMap_made _ _ _ _, fun v l _ => ⟨fun h => (nomatch h), fun h => False.elim h⟩⟩
theorem SetIs.look {w : World} {b n : Nat} {T : Value → Prop} (h : SetIs w b n T) {v : Value} {l : Lit} (hk : keyOf Tryz.prog 165 v = some l) :
    ∃ r : Bool, (Instr.lookup 162 (.map (some b)) v true).run Tryz.prog w = .ok (.tuple #[.agg #[], .bool r]) w ∧ (r = true ↔ T v) := by
  obtain ⟨D, h1, h2⟩ := h
  obtain ⟨u, ps, h3, h4⟩ := h1.look_ok keyLaw Tryz.underlying162 (zeroU w) unitElem_mk hk
  obtain ⟨rfl, _⟩ := unitElem_inv h4
  exact ⟨_, h3, h2 v l hk⟩
theorem SetIs.put {w : World} {b n : Nat} {T : Value → Prop} (h : SetIs w b n T) (hn : n < maxLen) {v : Value} {l : Lit} (hk : keyOf Tryz.prog 165 v = some l) :
    ∃ w', (Instr.mapUpdate 162 (.map (some b)) v (.agg #[])).run Tryz.prog w = .ok () w' ∧ SetIs w' b (n + 1) (fun u => T u ∨ u = v) ∧ w.mapTurned w' b := by
  obtain ⟨D, h1, h2⟩ := h
  obtain ⟨w', h3, h4, h5⟩ := h1.store keyLaw Tryz.underlying162 hn hk unitElem_mk
  refine ⟨w', h3, ⟨_, h4, fun u lu hu => ?_⟩, h5⟩
  by_cases e : lu = l
  · subst e
    rw [Go.Maps.has_put_same h1.isMap (keyLaw.key hk)]
    exact ⟨fun _ => .inr (keyLaw.inj hu hk), fun _ => rfl⟩
  · rw [Go.Maps.has_put_other e, h2 u lu hu]
    refine ⟨.inl, fun h => h.elim id (fun h => ?_)⟩
    rw [h, hk] at hu
    exact absurd (Option.some.inj hu).symm e
theorem turned_block {w w' : World} {b : Nat} (h : w.mapTurned w' b) : w'.heap.size = w.heap.size ∧ (∀ c, c ≠ b → w'.heap[c]? = w.heap[c]?) ∧ w'.os = w.os ∧ w'.tape = w.tape ∧ w'.output = w.output := by
  have hg := h.grown
  obtain ⟨es, clock, es', clock', h1, h2⟩ := h
  have hlt : b < w.heap.size := (Array.getElem?_eq_some_iff.1 h1).1
  refine ⟨?_, fun c hc => ?_, hg.os, hg.tape, hg.output⟩
  · rw [h2]; simp [ChangeMaps.setBlock]
  · by_cases e : c < w.heap.size
    · exact hg.block c e (fun h => hc (Option.some.inj h))
    · have hs : w'.heap.size = w.heap.size := by rw [h2]; simp [ChangeMaps.setBlock]
      rw [Array.getElem?_eq_none (by omega), Array.getElem?_eq_none (by omega)]
theorem SetIs.keep {w w' : World} {b n : Nat} {T : Value → Prop} (h : SetIs w b n T) (hb : w'.heap[b]? = w.heap[b]?) : SetIs w' b n T := by
  obtain ⟨D, ⟨es, clock, h1, h2⟩, h3⟩ := h
  exact ⟨D, ⟨es, clock, hb.trans h1, h2⟩, h3⟩
theorem SetIs.lt {w : World} {b n : Nat} {T : Value → Prop} (h : SetIs w b n T) : b < w.heap.size := by
  obtain ⟨D, h1, _⟩ := h
  exact h1.lt
end Go.Proofs.YtkcejelmohameaaGreatDoor
set_option linter.unusedVariables false
namespace Go.Proofs.YtkcejelmohameaaGreatDoor
set_option maxRecDepth 100000
open Go.RowKit Go.WideShapes

/-- are two items the same? -/
def itBQ (x y : It) : Bool := x.kind == y.kind && (x.n == y.n && x.s.toList == y.s.toList)
theorem itB_iffQ {x y : It} : itBQ x y = true ↔ x = y := by
  unfold itBQ
  simp only [Bool.and_eq_true, beq_iff_eq]
  constructor
  · rintro ⟨h1, h2, h3⟩
    cases x
    cases y
    simp only at h1 h2 h3
    rw [h1, h2, (Lib.bytes_beq_iff _ _).1 (beq_iff_eq.2 h3)]
  · rintro rfl
    exact ⟨rfl, rfl, rfl⟩
/-- are two rows of items the same? -/
def sameB (X Y : Nat → It) (n : Nat) : Bool := (List.range n).all fun i => itBQ (X i) (Y i)
theorem sameB_iff {X Y : Nat → It} {n : Nat} : sameB X Y n = true ↔ ∀ i, i < n → X i = Y i := by
  unfold sameB
  rw [List.all_eq_true]
  exact ⟨fun h i hi => itB_iffQ.1 (h i (List.mem_range.2 hi)), fun h i hi => itB_iffQ.2 (h i (List.mem_range.1 hi))⟩
end Go.Proofs.YtkcejelmohameaaGreatDoor
