/-
  CONTRACTS of package run at a plan of two ops, a table and a function of its two columns: its evaluation: each row.
-/
import Derived.Test.YtmoeipdchapodaaGreatDoorRuColA
import Derived.Deep.QuietTactic
import Derived.Deep.Cut
import Derived.BigQuiet
import Derived.Deep.RegionLaw
import Derived.Laws.EntriesVeiled
set_option linter.unusedVariables false
namespace Go.Proofs.YtmoeipdchapodaaGreatDoor
set_option maxRecDepth 100000
open Go.RowKit Go.WideShapes

theorem blk6 {w : World} {b : Nat} {x y z t u v : Value} {T : TypeId} (h : w.heap[b]? = some (.cells #[x, y, z, t, u, v] T)) : w.cell? ⟨b, 0, none⟩ = some x ∧ w.cell? ⟨b, 1, none⟩ = some y ∧ w.cell? ⟨b, 2, none⟩ = some z ∧ w.cell? ⟨b, 3, none⟩ = some t ∧ w.cell? ⟨b, 4, none⟩ = some u ∧ w.cell? ⟨b, 5, none⟩ = some v ∧ w.frozen? ⟨b, 0, none⟩ = false ∧ w.frozen? ⟨b, 1, none⟩ = false ∧ w.frozen? ⟨b, 2, none⟩ = false ∧ w.frozen? ⟨b, 3, none⟩ = false ∧ w.frozen? ⟨b, 4, none⟩ = false ∧ w.frozen? ⟨b, 5, none⟩ = false ∧ b < w.heap.size :=
  ⟨by rw [Lib.cell_of_heap h]; rfl, by rw [Lib.cell_of_heap h]; rfl, by rw [Lib.cell_of_heap h]; rfl, by rw [Lib.cell_of_heap h]; rfl, by rw [Lib.cell_of_heap h]; rfl, by rw [Lib.cell_of_heap h]; rfl, Lib.frozen_of_heap h _, Lib.frozen_of_heap h _, Lib.frozen_of_heap h _, Lib.frozen_of_heap h _, Lib.frozen_of_heap h _, Lib.frozen_of_heap h _, (Array.getElem?_eq_some_iff.1 h).1⟩
/-- two items in a row -/
structure TwoAt (w : World) (b o : Nat) (x y : It) : Prop where
  x0 : w.cell? ⟨b, o, none⟩ = some (.int .i64 x.kind)
  x1 : w.cell? ⟨b, o + 1, none⟩ = some (.int .i64 x.n)
  x2 : w.cell? ⟨b, o + 2, none⟩ = some (.string x.s)
  y0 : w.cell? ⟨b, o + 3, none⟩ = some (.int .i64 y.kind)
  y1 : w.cell? ⟨b, o + 4, none⟩ = some (.int .i64 y.n)
  y2 : w.cell? ⟨b, o + 5, none⟩ = some (.string y.s)
  lt : b < w.heap.size
theorem TwoAt.below {w w' : World} {b o : Nat} {x y : It} (h : TwoAt w b o x y) (hb : Below w.heap.size w w') : TwoAt w' b o x y :=
  have e := fun o => hb.cell (p := ⟨b, o, none⟩) h.lt
  ⟨(e _).trans h.x0, (e _).trans h.x1, (e _).trans h.x2, (e _).trans h.y0, (e _).trans h.y1, (e _).trans h.y2, Nat.lt_of_lt_of_le h.lt hb.size⟩
set_option maxHeartbeats 6400000 in
theorem each_is (ca : Option Addr) (ck qb rb ro rk nb : Nat) (p1 p2 p3 : Value) (x y : It) (E : Int) (Post : World → Prop) (w : World) (hc : StrsIs w (.slice ca 2 ck) 2 C2) (hq : w.heap[qb]? = some (.cells #[.slice (some ⟨rb, ro, none⟩) 2 rk] 33)) (hr : TwoAt w rb ro x y) (hrk : 2 ≤ rk) (hrm : rk ≤ maxLen)
    (hnb : nb < w.heap.size) (c0 : w.cell? ⟨nb, 0, none⟩ = some (.string ⟨#[112, 111, 115]⟩)) (c1 : w.cell? ⟨nb, 1, none⟩ = some (.string ⟨#[105, 116, 101, 109]⟩))
    (hlook : ∀ W ib, Below w.heap.size w W → W.heap[ib]? = some (.cells #[.int .i64 x.kind, .int .i64 x.n, .string x.s, .int .i64 y.kind, .int .i64 y.n, .string y.s] 24) → Calls Tryz.prog 124 #[.slice (some ⟨rb, ro, none⟩) 2 rk, .slice (some ⟨ib, 0, none⟩) 2 2, p1, p2, p3] W fun e w' => e = .returned (.int .i64 E) ∧ Post w') :
    Calls Tryz.prog 123 #[.agg #[.slice ca 2 ck, .slice (some ⟨qb, 0, none⟩) 1 1], .func (.func 124) #[] #[p1, p2, p3], .slice (some ⟨nb, 0, none⟩) 2 3] w fun e w' => e = .returned (.int .i64 E) ∧ Post w' := by
  have CP : Hid (∀ W, Below w.heap.size w W → Calls Tryz.prog 24 #[.slice ca 2 ck, .slice (some ⟨nb, 0, none⟩) 2 3] W fun e w' => e = .returned (.tuple #[.slice (some ⟨W.heap.size, 0, none⟩) 2 2, .int .i64 0]) ∧ w'.heap[W.heap.size]? = some (.cells #[.int .i64 0, .int .i64 1] 3) ∧ Below W.heap.size W w') := fun W hW =>
    places_is _ 2 C2 nb 3 W (hc.below hW) col_pos col_item (by omega) (by unfold maxLen; omega) (Nat.lt_of_lt_of_le hnb hW.size) ((hW.cell (p := ⟨nb, 0, none⟩) hnb).trans c0) ((hW.cell (p := ⟨nb, 1, none⟩) hnb).trans c1)
  have CL : Hid (∀ W ib, Below w.heap.size w W → W.heap[ib]? = some (.cells #[.int .i64 x.kind, .int .i64 x.n, .string x.s, .int .i64 y.kind, .int .i64 y.n, .string y.s] 24) → Calls Tryz.prog 124 #[.slice (some ⟨rb, ro, none⟩) 2 rk, .slice (some ⟨ib, 0, none⟩) 2 2, p1, p2, p3] W fun e w' => e = .returned (.int .i64 E) ∧ Post w') := hlook
  have HQ : Hid (∀ W, Below w.heap.size w W → W.heap[qb]? = some (.cells #[.slice (some ⟨rb, ro, none⟩) 2 rk] 33)) := fun W hW => (hW.block _ (Array.getElem?_eq_some_iff.1 hq).1).trans hq
  have HR : Hid (∀ W, Below w.heap.size w W → TwoAt W rb ro x y) := fun W hW => hr.below hW
  have hmk := mk_items2
  unfold maxLen at hrm
  clear hc hq hr hnb c0 c1 hlook
  by_cases hE : E = 0
  · subst hE
    go_enter Tryz.func123, Tryz.ntmps123
    go_wp2_with (go_at_call 24; refine (CP.out _ ?_).mono ?_; (· (focus (repeat (first | exact Below.refl _ _ | exact Hid.out (by assumption) | refine Below.setCell ?_ (by first | omega | (simp <;> omega)) _ | refine Below.alloc ?_ (by first | omega | (simp <;> omega)) _)))); rintro e w1 ⟨rfl, hi1, hb1⟩; have HB1 : Hid (Below w.heap.size w w1) := Below.trans (by (focus (repeat (first | exact Below.refl _ _ | exact Hid.out (by assumption) | refine Below.setCell ?_ (by first | omega | (simp <;> omega)) _ | refine Below.alloc ?_ (by first | omega | (simp <;> omega)) _)))) (hb1.mono (by first | omega | (simp <;> omega))); have HX1 : Hid (w1.heap[w.heap.size]? = some (.cells #[.slice ca 2 ck, .slice (some ⟨qb, 0, none⟩) 1 1] 36)) := (hb1.block _ (by first | omega | (simp <;> omega))).trans (alloc_newN rfl); have HN1 : Hid (w1.heap[w.heap.size + 1]? = some (.cells #[.int .i64 0, .int .i64 1] 3)) := (by have k := hi1; simp at k; exact k); obtain ⟨z0, z1, _, _, z4⟩ := blk2 HX1.out; clear hb1 hi1 CP)
    obtain ⟨W1, hW1⟩ : ∃ W, W = w1.alloc (.cells #[.int .i64 0, .int .i64 0, .string ⟨#[]⟩, .int .i64 0, .int .i64 0, .string ⟨#[]⟩] 24) := ⟨_, rfl⟩
    have HB2 : Hid (Below w.heap.size w W1) := by rw [hW1]; exact HB1.out.alloc HB1.out.size _
    have HN2 : Hid (W1.heap[w.heap.size + 1]? = some (.cells #[.int .i64 0, .int .i64 1] 3)) := by rw [hW1]; exact alloc_old HN1.out
    have HI2 : Hid (W1.heap[w1.heap.size]? = some (.cells #[.int .i64 0, .int .i64 0, .string ⟨#[]⟩, .int .i64 0, .int .i64 0, .string ⟨#[]⟩] 24)) := by rw [hW1]; exact alloc_newN rfl
    have hne : w.heap.size + 1 < w1.heap.size := (Array.getElem?_eq_some_iff.1 HN1.out).1
    rw [← hW1]
    clear hW1 HX1 HN1 HB1 z0 z1 z4
    obtain ⟨g0, _, g1⟩ := blk1 (HQ.out W1 HB2.out)
    obtain ⟨n0, n1, _, _, n4⟩ := blk2 HN2.out
    obtain ⟨e0, e1, e2, e3, e4, e5, f0, f1, f2, f3, f4, f5, e6⟩ := blk6 HI2.out
    obtain ⟨x0, x1, x2, y0, y1, y2, rlt⟩ := HR.out W1 HB2.out
    refine LoopN.wp 2 (LoopN.next ?_)
    go_wp2
    refine LoopN.wp 3 (LoopN.next ?_)
    go_wp2
    obtain ⟨W2, hW2⟩ : ∃ W, W = ((W1.setCell ⟨w1.heap.size, 0, none⟩ (.int .i64 x.kind)).setCell ⟨w1.heap.size, 1, none⟩ (.int .i64 x.n)).setCell ⟨w1.heap.size, 2, none⟩ (.string x.s) := ⟨_, rfl⟩
    have HB3 : Hid (Below w.heap.size w W2) := by rw [hW2]; exact ((HB2.out.setCell (by first | omega | (simp <;> omega)) _).setCell (by first | omega | (simp <;> omega)) _).setCell (by first | omega | (simp <;> omega)) _
    have HN3 : Hid (W2.heap[w.heap.size + 1]? = some (.cells #[.int .i64 0, .int .i64 1] 3)) := by rw [hW2]; exact set_other (set_other (set_other HN2.out (by omega)) (by omega)) (by omega)
    have HI3 : Hid (W2.heap[w1.heap.size]? = some (.cells #[.int .i64 x.kind, .int .i64 x.n, .string x.s, .int .i64 0, .int .i64 0, .string ⟨#[]⟩] 24)) := by rw [hW2]; exact set_same (set_same (set_same HI2.out 0 _) 1 _) 2 _
    rw [← hW2]
    clear hW2 HB2 HN2 HI2 g0 g1 n0 n1 n4 e0 e1 e2 e3 e4 e5 f0 f1 f2 f3 f4 f5 e6 x0 x1 x2 y0 y1 y2 rlt
    obtain ⟨g0, _, g1⟩ := blk1 (HQ.out W2 HB3.out)
    obtain ⟨n0, n1, _, _, n4⟩ := blk2 HN3.out
    obtain ⟨e0, e1, e2, e3, e4, e5, f0, f1, f2, f3, f4, f5, e6⟩ := blk6 HI3.out
    obtain ⟨x0, x1, x2, y0, y1, y2, rlt⟩ := HR.out W2 HB3.out
    refine LoopN.next ?_
    go_wp2
    obtain ⟨W3, hW3⟩ : ∃ W, W = ((W2.setCell ⟨w1.heap.size, 3, none⟩ (.int .i64 y.kind)).setCell ⟨w1.heap.size, 4, none⟩ (.int .i64 y.n)).setCell ⟨w1.heap.size, 5, none⟩ (.string y.s) := ⟨_, rfl⟩
    have HB4 : Hid (Below w.heap.size w W3) := by rw [hW3]; exact ((HB3.out.setCell (by first | omega | (simp <;> omega)) _).setCell (by first | omega | (simp <;> omega)) _).setCell (by first | omega | (simp <;> omega)) _
    have HI4 : Hid (W3.heap[w1.heap.size]? = some (.cells #[.int .i64 x.kind, .int .i64 x.n, .string x.s, .int .i64 y.kind, .int .i64 y.n, .string y.s] 24)) := by rw [hW3]; exact set_same (set_same (set_same HI3.out 3 _) 4 _) 5 _
    rw [← hW3]
    clear hW3 HB3 HN3 HI3 g0 g1 n0 n1 n4 e0 e1 e2 e3 e4 e5 f0 f1 f2 f3 f4 f5 e6 x0 x1 x2 y0 y1 y2 rlt
    refine LoopN.next ?_
    go_wp2_with (go_at_call 124; refine (CL.out _ _ HB4.out HI4.out).mono ?_; rintro e w9 ⟨rfl, hp9⟩; have HP9 : Hid (Post w9) := hp9; clear hp9)
    refine LoopN.next ?_
    go_wp2
    go_ret
    exact ⟨rfl, HP9.out⟩
  · have hE1 : (E == 0) = false := by simpa using hE
    clear hE
    go_enter Tryz.func123, Tryz.ntmps123
    go_wp2_with (go_at_call 24; refine (CP.out _ ?_).mono ?_; (· (focus (repeat (first | exact Below.refl _ _ | exact Hid.out (by assumption) | refine Below.setCell ?_ (by first | omega | (simp <;> omega)) _ | refine Below.alloc ?_ (by first | omega | (simp <;> omega)) _)))); rintro e w1 ⟨rfl, hi1, hb1⟩; have HB1 : Hid (Below w.heap.size w w1) := Below.trans (by (focus (repeat (first | exact Below.refl _ _ | exact Hid.out (by assumption) | refine Below.setCell ?_ (by first | omega | (simp <;> omega)) _ | refine Below.alloc ?_ (by first | omega | (simp <;> omega)) _)))) (hb1.mono (by first | omega | (simp <;> omega))); have HX1 : Hid (w1.heap[w.heap.size]? = some (.cells #[.slice ca 2 ck, .slice (some ⟨qb, 0, none⟩) 1 1] 36)) := (hb1.block _ (by first | omega | (simp <;> omega))).trans (alloc_newN rfl); have HN1 : Hid (w1.heap[w.heap.size + 1]? = some (.cells #[.int .i64 0, .int .i64 1] 3)) := (by have k := hi1; simp at k; exact k); obtain ⟨z0, z1, _, _, z4⟩ := blk2 HX1.out; clear hb1 hi1 CP)
    obtain ⟨W1, hW1⟩ : ∃ W, W = w1.alloc (.cells #[.int .i64 0, .int .i64 0, .string ⟨#[]⟩, .int .i64 0, .int .i64 0, .string ⟨#[]⟩] 24) := ⟨_, rfl⟩
    have HB2 : Hid (Below w.heap.size w W1) := by rw [hW1]; exact HB1.out.alloc HB1.out.size _
    have HN2 : Hid (W1.heap[w.heap.size + 1]? = some (.cells #[.int .i64 0, .int .i64 1] 3)) := by rw [hW1]; exact alloc_old HN1.out
    have HI2 : Hid (W1.heap[w1.heap.size]? = some (.cells #[.int .i64 0, .int .i64 0, .string ⟨#[]⟩, .int .i64 0, .int .i64 0, .string ⟨#[]⟩] 24)) := by rw [hW1]; exact alloc_newN rfl
    have hne : w.heap.size + 1 < w1.heap.size := (Array.getElem?_eq_some_iff.1 HN1.out).1
    rw [← hW1]
    clear hW1 HX1 HN1 HB1 z0 z1 z4
    obtain ⟨g0, _, g1⟩ := blk1 (HQ.out W1 HB2.out)
    obtain ⟨n0, n1, _, _, n4⟩ := blk2 HN2.out
    obtain ⟨e0, e1, e2, e3, e4, e5, f0, f1, f2, f3, f4, f5, e6⟩ := blk6 HI2.out
    obtain ⟨x0, x1, x2, y0, y1, y2, rlt⟩ := HR.out W1 HB2.out
    refine LoopN.wp 2 (LoopN.next ?_)
    go_wp2
    refine LoopN.wp 3 (LoopN.next ?_)
    go_wp2
    obtain ⟨W2, hW2⟩ : ∃ W, W = ((W1.setCell ⟨w1.heap.size, 0, none⟩ (.int .i64 x.kind)).setCell ⟨w1.heap.size, 1, none⟩ (.int .i64 x.n)).setCell ⟨w1.heap.size, 2, none⟩ (.string x.s) := ⟨_, rfl⟩
    have HB3 : Hid (Below w.heap.size w W2) := by rw [hW2]; exact ((HB2.out.setCell (by first | omega | (simp <;> omega)) _).setCell (by first | omega | (simp <;> omega)) _).setCell (by first | omega | (simp <;> omega)) _
    have HN3 : Hid (W2.heap[w.heap.size + 1]? = some (.cells #[.int .i64 0, .int .i64 1] 3)) := by rw [hW2]; exact set_other (set_other (set_other HN2.out (by omega)) (by omega)) (by omega)
    have HI3 : Hid (W2.heap[w1.heap.size]? = some (.cells #[.int .i64 x.kind, .int .i64 x.n, .string x.s, .int .i64 0, .int .i64 0, .string ⟨#[]⟩] 24)) := by rw [hW2]; exact set_same (set_same (set_same HI2.out 0 _) 1 _) 2 _
    rw [← hW2]
    clear hW2 HB2 HN2 HI2 g0 g1 n0 n1 n4 e0 e1 e2 e3 e4 e5 f0 f1 f2 f3 f4 f5 e6 x0 x1 x2 y0 y1 y2 rlt
    obtain ⟨g0, _, g1⟩ := blk1 (HQ.out W2 HB3.out)
    obtain ⟨n0, n1, _, _, n4⟩ := blk2 HN3.out
    obtain ⟨e0, e1, e2, e3, e4, e5, f0, f1, f2, f3, f4, f5, e6⟩ := blk6 HI3.out
    obtain ⟨x0, x1, x2, y0, y1, y2, rlt⟩ := HR.out W2 HB3.out
    refine LoopN.next ?_
    go_wp2
    obtain ⟨W3, hW3⟩ : ∃ W, W = ((W2.setCell ⟨w1.heap.size, 3, none⟩ (.int .i64 y.kind)).setCell ⟨w1.heap.size, 4, none⟩ (.int .i64 y.n)).setCell ⟨w1.heap.size, 5, none⟩ (.string y.s) := ⟨_, rfl⟩
    have HB4 : Hid (Below w.heap.size w W3) := by rw [hW3]; exact ((HB3.out.setCell (by first | omega | (simp <;> omega)) _).setCell (by first | omega | (simp <;> omega)) _).setCell (by first | omega | (simp <;> omega)) _
    have HI4 : Hid (W3.heap[w1.heap.size]? = some (.cells #[.int .i64 x.kind, .int .i64 x.n, .string x.s, .int .i64 y.kind, .int .i64 y.n, .string y.s] 24)) := by rw [hW3]; exact set_same (set_same (set_same HI3.out 3 _) 4 _) 5 _
    rw [← hW3]
    clear hW3 HB3 HN3 HI3 g0 g1 n0 n1 n4 e0 e1 e2 e3 e4 e5 f0 f1 f2 f3 f4 f5 e6 x0 x1 x2 y0 y1 y2 rlt
    refine LoopN.next ?_
    go_wp2_with (go_at_call 124; refine (CL.out _ _ HB4.out HI4.out).mono ?_; rintro e w9 ⟨rfl, hp9⟩; have HP9 : Hid (Post w9) := hp9; clear hp9)
    go_ret
    exact ⟨rfl, HP9.out⟩
end Go.Proofs.YtmoeipdchapodaaGreatDoor
