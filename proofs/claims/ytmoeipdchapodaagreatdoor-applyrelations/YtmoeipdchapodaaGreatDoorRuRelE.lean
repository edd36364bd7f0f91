/-
  CONTRACTS: what the six relations tell of a number and a number, of a number and a text (pleacherkeep.value).
-/
import Derived.Test.YtmoeipdchapodaaGreatDoorRuRelB
import Derived.Test.YtmoeipdchapodaaGreatDoorRgStep
import Derived.Deep.RegionHeld3
import Derived.Test.YtmoeipdchapodaaGreatDoorRuLawB
set_option linter.unusedVariables false
namespace Go.Proofs.YtmoeipdchapodaaGreatDoor
set_option maxRecDepth 100000
open Go.RowKit Go.WideShapes

set_option maxHeartbeats 12800000 in
theorem comp_like (u : Bool) (g : FuncId) (p : Int → Bool) (x y x' y' : It) (fp : Value) (ib b : Nat) (w : World) (hx : ¬ x.kind = 1) (hy : ¬ y.kind = 1) (hk : x'.kind = y'.kind) (hg : SaysOk g p) (hrun : ∀ (args : Array Value) (W : World), Sem.run Tryz.prog (callFunc g args) W = .ok (.enter g args) W)
    (hib : w.heap[ib]? = some (.cells #[.int .i64 x.kind, .int .i64 x.n, .string x.s, .int .i64 y.kind, .int .i64 y.n, .string y.s] 24)) (hb0 : w.heap[b]? = some (.cells #[.bool u] 4)) (hb1 : w.heap[b + 1]? = some (.cells #[.func (.func g) #[] #[]] 96))
    (hax : ∀ W, Below w.heap.size w W → Calls Tryz.prog 103 #[.agg #[.int .i64 x.kind, .int .i64 x.n, .string x.s], .agg #[.int .i64 y.kind, .int .i64 y.n, .string y.s]] W fun e w' => e = .returned (.agg #[.int .i64 x'.kind, .int .i64 x'.n, .string x'.s]) ∧ Below W.heap.size W w') (hay : ∀ W, Below w.heap.size w W → Calls Tryz.prog 103 #[.agg #[.int .i64 y.kind, .int .i64 y.n, .string y.s], .agg #[.int .i64 x.kind, .int .i64 x.n, .string x.s]] W fun e w' => e = .returned (.agg #[.int .i64 y'.kind, .int .i64 y'.n, .string y'.s]) ∧ Below W.heap.size W w') :
    Calls Tryz.prog 102 #[fp, .slice (some ⟨ib, 0, none⟩) 2 2, .pointer (some ⟨b, 0, none⟩), .pointer (some ⟨b + 1, 0, none⟩)] w fun e w' => e = .returned (.tuple #[.agg #[.int .i64 (boolI (p (cmpI x'.kind x'.n x'.s y'.kind y'.n y'.s))).kind, .int .i64 (boolI (p (cmpI x'.kind x'.n x'.s y'.kind y'.n y'.s))).n, .string (boolI (p (cmpI x'.kind x'.n x'.s y'.kind y'.n y'.s))).s], .bool true]) ∧ Below w.heap.size w w' := by
  have CD : Hid (∀ W k n s, ¬ k = 1 → Calls Tryz.prog 32 #[fp, .agg #[.int .i64 k, .int .i64 n, .string s]] W fun e w' => e = .returned (.tuple #[.agg #[.int .i64 k, .int .i64 n, .string s], .bool true]) ∧ Below W.heap.size W w') := fun W k n s h => data_is fp k n s W h
  have CX := hidR hax
  have CY := hidR hay
  have CG := hidR hg
  have HI := hidR hib
  have H0 := hidR hb0
  have H1 := hidR hb1
  obtain ⟨i0, i1, i2, i3, i4, i5, _, _, _, _, _, _, iz⟩ := blk6 hib
  clear hax hay hg hib hb0 hb1
  go_enter Tryz.func102, Tryz.ntmps102
  go_upto_region 5 with (first
    | (go_at_call 32; refine (CD.out _ _ _ _ hx).mono ?_; rintro e w1 ⟨rfl, hd1⟩; have HB1 : Hid (Below w.heap.size w w1) := Below.trans (by (focus (repeat (first | exact Below.refl _ _ | exact Hid.out (by assumption) | refine Below.setCell ?_ (by first | omega | (simp <;> omega)) _ | refine Below.alloc ?_ (by first | omega | (simp <;> omega)) _)))) (hd1.mono (by first | omega | (simp <;> omega))); have HZ1 : Hid (w1.heap[w.heap.size]? = some (.cells #[.int .i64 0, .int .i64 0, .string ⟨#[]⟩] 24)) := (hd1.block _ (by first | omega | (simp <;> omega))).trans (alloc_newN rfl); obtain ⟨_, _, _, j3, j4, j5, _, _, _, _, _, _, jz⟩ := blk6 ((HB1.out.block _ iz).trans HI.out); have hz1 := HB1.out.size; have hy1 : w.heap.size < w1.heap.size := (Array.getElem?_eq_some_iff.1 HZ1.out).1; clear hd1 hx)
    | (go_at_call 32; refine (CD.out _ _ _ _ hy).mono ?_; rintro e w2 ⟨rfl, hd2⟩; have HB2 : Hid (Below w.heap.size w w2) := Below.trans (by (focus (repeat (first | exact Below.refl _ _ | exact Hid.out (by assumption) | refine Below.setCell ?_ (by first | omega | (simp <;> omega)) _ | refine Below.alloc ?_ (by first | omega | (simp <;> omega)) _)))) (hd2.mono (by first | omega | (simp <;> omega))); have HZ2 : Hid (w2.heap[w.heap.size]? = some (.cells #[.int .i64 0, .int .i64 0, .string ⟨#[]⟩] 24)) := (hd2.block _ (by first | omega | (simp <;> omega))).trans (alloc_old HZ1.out); have HX2 : Hid (w2.heap[w1.heap.size]? = some (.cells #[.int .i64 x.kind, .int .i64 x.n, .string x.s] 24)) := (hd2.block _ (by first | omega | (simp <;> omega))).trans (alloc_newN rfl); have hz2 := HB2.out.size; have hy2 : w1.heap.size < w2.heap.size := (Array.getElem?_eq_some_iff.1 HX2.out).1; clear hd2 hy))
  obtain ⟨W3, hW3⟩ : ∃ W, W = w2.alloc (.cells #[.int .i64 y.kind, .int .i64 y.n, .string y.s] 24) := ⟨_, rfl⟩
  have HB3 : Hid (Below w.heap.size w W3) := by rw [hW3]; exact HB2.out.alloc HB2.out.size _
  have HZ3 : Hid (W3.heap[w.heap.size]? = some (.cells #[.int .i64 0, .int .i64 0, .string ⟨#[]⟩] 24)) := by rw [hW3]; exact alloc_old HZ2.out
  have HX3 : Hid (W3.heap[w1.heap.size]? = some (.cells #[.int .i64 x.kind, .int .i64 x.n, .string x.s] 24)) := by rw [hW3]; exact alloc_old HX2.out
  have HY3 : Hid (W3.heap[w2.heap.size]? = some (.cells #[.int .i64 y.kind, .int .i64 y.n, .string y.s] 24)) := by rw [hW3]; exact alloc_newN rfl
  rw [← hW3]
  clear hW3 HB1 HZ1 HB2 HZ2 HX2 j3 j4 j5 jz i0 i1 i2 i3 i4 i5
  generalize w1.heap.size = T8 at *
  generalize w2.heap.size = T10 at *
  refine wp_region_slots (by kernel_rfl) (fun j v _ => match j with | 0 => v = (.agg #[.int .i64 x.kind, .int .i64 x.n, .string x.s]) | 1 => v = (.agg #[.int .i64 y.kind, .int .i64 y.n, .string y.s]) | 2 => v = (.agg #[.int .i64 x'.kind, .int .i64 x'.n, .string x'.s]) | 3 => v = (.agg #[.int .i64 y.kind, .int .i64 y.n, .string y.s]) | 4 => v = (.agg #[.int .i64 x.kind, .int .i64 x.n, .string x.s]) | 5 => v = (.agg #[.int .i64 y'.kind, .int .i64 y'.n, .string y'.s]) | _ => True)
    (fun l _ W => Below w.heap.size w W ∧ W.heap[w.heap.size]? = some (.cells #[.int .i64 0, .int .i64 0, .string ⟨#[]⟩] 24) ∧ W.heap[T8]? = some (if l.getD 6 false = true then (.cells #[.int .i64 x'.kind, .int .i64 x'.n, .string x'.s] 24) else (.cells #[.int .i64 x.kind, .int .i64 x.n, .string x.s] 24)) ∧ W.heap[T10]? = some (if l.getD 7 false = true then (.cells #[.int .i64 y'.kind, .int .i64 y'.n, .string y'.s] 24) else (.cells #[.int .i64 y.kind, .int .i64 y.n, .string y.s] 24)))
    (by kernel_rfl) (by kernel_rfl) ⟨HB3.out.trans (drew_belowE _ _), HZ3.out, HX3.out, HY3.out⟩ ?_ ?_
  · intro l a W i o hsz h ho hl haf
    obtain ⟨g1, g2, g3, g4⟩ := h.more
    have hi : i < 8 := (Array.getElem?_eq_some_iff.1 ho).1
    obtain rfl | rfl | rfl | rfl | rfl | rfl | rfl | rfl : i = 0 ∨ i = 1 ∨ i = 2 ∨ i = 3 ∨ i = 4 ∨ i = 5 ∨ i = 6 ∨ i = 7 := by omega
    all_goals (obtain rfl := Option.some.inj ho; rw [if_pos (want_none rfl)])
    · have n6 := h.later 6 0 _ ⟨0, .phase⟩ rfl (by simp) rfl rfl hl
      have e8 := h.given 8 _ rfl (by kernel_rfl)
      rw [n6, if_neg (by decide)] at g3
      obtain ⟨c0, c1, c2, _⟩ := blk3 g3
      refine wp_val (v := .agg #[.int .i64 x.kind, .int .i64 x.n, .string x.s]) (w' := W) ?_ ⟨_, rfl, rfl, fun _ _ h => h, g1, g2, ?_, ?_⟩
      · unfold execOp
        simp [e8, go_sem, c0, c1, c2]
      · rw [set_other_get (by decide), n6]; exact g3
      · rw [set_other_get (by decide)]; exact g4
    · have n6 := h.later 7 1 _ ⟨1, .phase⟩ rfl (by simp) rfl rfl hl
      have e8 := h.given 10 _ rfl (by kernel_rfl)
      rw [n6, if_neg (by decide)] at g4
      obtain ⟨c0, c1, c2, _⟩ := blk3 g4
      refine wp_val (v := .agg #[.int .i64 y.kind, .int .i64 y.n, .string y.s]) (w' := W) ?_ ⟨_, rfl, rfl, fun _ _ h => h, g1, g2, ?_, ?_⟩
      · unfold execOp
        simp [e8, go_sem, c0, c1, c2]
      · rw [set_other_get (by decide)]; exact g3
      · rw [set_other_get (by decide), n6]; exact g4
    · obtain ⟨u1, e1, d1⟩ := h.new 0 _ 35 rfl rfl (haf ⟨0, .data⟩ (by simp) rfl)
      obtain ⟨u2, e2, d2⟩ := h.new 1 _ 36 rfl rfl (haf ⟨1, .data⟩ (by simp) rfl)
      have d1' : u1 = (.agg #[.int .i64 x.kind, .int .i64 x.n, .string x.s]) := d1
      have d2' : u2 = (.agg #[.int .i64 y.kind, .int .i64 y.n, .string y.s]) := d2
      subst d1' d2'
      refine wp_enter (f := 103) (args := #[.agg #[.int .i64 x.kind, .int .i64 x.n, .string x.s], .agg #[.int .i64 y.kind, .int .i64 y.n, .string y.s]]) (w' := W) ?_ ((CX.out W g1).mono ?_)
      · unfold execOp
        simp [e1, e2, go_sem]
      · rintro e W' ⟨rfl, hb⟩
        refine ⟨_, rfl, _, rfl, rfl, fun _ _ h => h, g1.trans (hb.mono g1.size), blk_below hb (Array.getElem?_eq_some_iff.1 g2).1 g2, ?_, ?_⟩
        · rw [set_other_get (by decide)]; exact blk_below hb (Array.getElem?_eq_some_iff.1 g3).1 g3
        · rw [set_other_get (by decide)]; exact blk_below hb (Array.getElem?_eq_some_iff.1 g4).1 g4
    · have n6 := h.later 7 3 _ ⟨3, .phase⟩ rfl (by simp) rfl rfl hl
      have e8 := h.given 10 _ rfl (by kernel_rfl)
      rw [n6, if_neg (by decide)] at g4
      obtain ⟨c0, c1, c2, _⟩ := blk3 g4
      refine wp_val (v := .agg #[.int .i64 y.kind, .int .i64 y.n, .string y.s]) (w' := W) ?_ ⟨_, rfl, rfl, fun _ _ h => h, g1, g2, ?_, ?_⟩
      · unfold execOp
        simp [e8, go_sem, c0, c1, c2]
      · rw [set_other_get (by decide)]; exact g3
      · rw [set_other_get (by decide), n6]; exact g4
    · have n6 := h.later 6 4 _ ⟨4, .phase⟩ rfl (by simp) rfl rfl hl
      have e8 := h.given 8 _ rfl (by kernel_rfl)
      rw [n6, if_neg (by decide)] at g3
      obtain ⟨c0, c1, c2, _⟩ := blk3 g3
      refine wp_val (v := .agg #[.int .i64 x.kind, .int .i64 x.n, .string x.s]) (w' := W) ?_ ⟨_, rfl, rfl, fun _ _ h => h, g1, g2, ?_, ?_⟩
      · unfold execOp
        simp [e8, go_sem, c0, c1, c2]
      · rw [set_other_get (by decide), n6]; exact g3
      · rw [set_other_get (by decide)]; exact g4
    · obtain ⟨u1, e1, d1⟩ := h.new 3 _ 38 rfl rfl (haf ⟨3, .data⟩ (by simp) rfl)
      obtain ⟨u2, e2, d2⟩ := h.new 4 _ 39 rfl rfl (haf ⟨4, .data⟩ (by simp) rfl)
      have d1' : u1 = (.agg #[.int .i64 y.kind, .int .i64 y.n, .string y.s]) := d1
      have d2' : u2 = (.agg #[.int .i64 x.kind, .int .i64 x.n, .string x.s]) := d2
      subst d1' d2'
      refine wp_enter (f := 103) (args := #[.agg #[.int .i64 y.kind, .int .i64 y.n, .string y.s], .agg #[.int .i64 x.kind, .int .i64 x.n, .string x.s]]) (w' := W) ?_ ((CY.out W g1).mono ?_)
      · unfold execOp
        simp [e1, e2, go_sem]
      · rintro e W' ⟨rfl, hb⟩
        refine ⟨_, rfl, _, rfl, rfl, fun _ _ h => h, g1.trans (hb.mono g1.size), blk_below hb (Array.getElem?_eq_some_iff.1 g2).1 g2, ?_, ?_⟩
        · rw [set_other_get (by decide)]; exact blk_below hb (Array.getElem?_eq_some_iff.1 g3).1 g3
        · rw [set_other_get (by decide)]; exact blk_below hb (Array.getElem?_eq_some_iff.1 g4).1 g4
    · obtain ⟨u1, e1, d1⟩ := h.new 2 _ 37 rfl rfl (haf ⟨2, .data⟩ (by simp) rfl)
      have d1' : u1 = (.agg #[.int .i64 x'.kind, .int .i64 x'.n, .string x'.s]) := d1
      subst d1'
      have e8 := h.given 8 _ rfl (by kernel_rfl)
      have n6 : l.getD 6 false = false := by rw [Array.getD_eq_getD_getElem?] at hl ⊢; cases hx : l[6]? with | none => rfl | some bb => rw [hx] at hl; exact hl
      rw [n6, if_neg (by decide)] at g3
      obtain ⟨c0, c1, c2, k0, k1, k2, _⟩ := blk3 g3
      refine wp_skip (w' := ((W.setCell ⟨T8, 0, none⟩ (.int .i64 x'.kind)).setCell ⟨T8, 1, none⟩ (.int .i64 x'.n)).setCell ⟨T8, 2, none⟩ (.string x'.s)) ?_ ⟨_, rfl, trivial, fun _ _ h => h, ((g1.setCell (by simp only []; omega) _).setCell (by simp only []; omega) _).setCell (by simp only []; omega) _, set_other (set_other (set_other g2 (by omega)) (by omega)) (by omega), ?_, ?_⟩
      · unfold execOp
        simp [e1, e8, go_sem, c0, c1, c2, k0, k1, k2]
      · rw [set_this_get hsz (by decide), if_pos rfl]; exact set_same (set_same (set_same g3 0 _) 1 _) 2 _
      · rw [set_other_get (by decide)]; exact set_other (set_other (set_other g4 (by omega)) (by omega)) (by omega)
    · obtain ⟨u1, e1, d1⟩ := h.new 5 _ 40 rfl rfl (haf ⟨5, .data⟩ (by simp) rfl)
      have d1' : u1 = (.agg #[.int .i64 y'.kind, .int .i64 y'.n, .string y'.s]) := d1
      subst d1'
      have e8 := h.given 10 _ rfl (by kernel_rfl)
      have n6 : l.getD 7 false = false := by rw [Array.getD_eq_getD_getElem?] at hl ⊢; cases hx : l[7]? with | none => rfl | some bb => rw [hx] at hl; exact hl
      rw [n6, if_neg (by decide)] at g4
      obtain ⟨c0, c1, c2, k0, k1, k2, _⟩ := blk3 g4
      refine wp_skip (w' := ((W.setCell ⟨T10, 0, none⟩ (.int .i64 y'.kind)).setCell ⟨T10, 1, none⟩ (.int .i64 y'.n)).setCell ⟨T10, 2, none⟩ (.string y'.s)) ?_ ⟨_, rfl, trivial, fun _ _ h => h, ((g1.setCell (by simp only []; omega) _).setCell (by simp only []; omega) _).setCell (by simp only []; omega) _, set_other (set_other (set_other g2 (by omega)) (by omega)) (by omega), ?_, ?_⟩
      · unfold execOp
        simp [e1, e8, go_sem, c0, c1, c2, k0, k1, k2]
      · rw [set_other_get (by decide)]; exact set_other (set_other (set_other g3 (by omega)) (by omega)) (by omega)
      · rw [set_this_get hsz (by decide), if_pos rfl]; exact set_same (set_same (set_same g4 0 _) 1 _) 2 _
  · intro v W hv hs hg
    obtain ⟨g1, g2, g3, g4⟩ := hg
    have d0 : v 0 = (.agg #[.int .i64 x.kind, .int .i64 x.n, .string x.s]) := hv 0 _ 35 rfl rfl
    have d1 : v 1 = (.agg #[.int .i64 y.kind, .int .i64 y.n, .string y.s]) := hv 1 _ 36 rfl rfl
    have d2 : v 2 = (.agg #[.int .i64 x'.kind, .int .i64 x'.n, .string x'.s]) := hv 2 _ 37 rfl rfl
    have d3 : v 3 = (.agg #[.int .i64 y.kind, .int .i64 y.n, .string y.s]) := hv 3 _ 38 rfl rfl
    have d4 : v 4 = (.agg #[.int .i64 x.kind, .int .i64 x.n, .string x.s]) := hv 4 _ 39 rfl rfl
    have d5 : v 5 = (.agg #[.int .i64 y'.kind, .int .i64 y'.n, .string y'.s]) := hv 5 _ 40 rfl rfl
    have k3 : W.heap[T8]? = some (.cells #[.int .i64 x'.kind, .int .i64 x'.n, .string x'.s] 24) := g3
    have k4 : W.heap[T10]? = some (.cells #[.int .i64 y'.kind, .int .i64 y'.n, .string y'.s] 24) := g4
    simp only [putAll, d0, d1, d2, d3, d4, d5]
    clear hv hs d0 d1 d2 d3 d4 d5 g3 g4
    have HB4 := hidR g1
    have HZ4 := hidR g2
    have HX4 := hidR k3
    have HY4 := hidR k4
    obtain ⟨a0, a1, a2, _, _, _, a3⟩ := blk3 k3
    obtain ⟨b0, b1, b2, _, _, _, b3⟩ := blk3 k4
    clear g1 g2 k3 k4
    go_upto_region 8 with fail
    clear a0 a1 a2 a3 b0 b1 b2 b3 hk
    have CC : Hid (∀ W, Calls Tryz.prog 104 #[.agg #[.int .i64 x'.kind, .int .i64 x'.n, .string x'.s], .agg #[.int .i64 y'.kind, .int .i64 y'.n, .string y'.s]] W fun e w' => e = .returned (.int .i64 (cmpI x'.kind x'.n x'.s y'.kind y'.n y'.s)) ∧ Below W.heap.size W w') := fun W => compare_any _ _ _ _ _ _ W
    have CB : Hid (∀ W, Calls Tryz.prog 53 #[.bool (p (cmpI x'.kind x'.n x'.s y'.kind y'.n y'.s))] W fun e w' => e = .returned (.agg #[.int .i64 (boolI (p (cmpI x'.kind x'.n x'.s y'.kind y'.n y'.s))).kind, .int .i64 (boolI (p (cmpI x'.kind x'.n x'.s y'.kind y'.n y'.s))).n, .string (boolI (p (cmpI x'.kind x'.n x'.s y'.kind y'.n y'.s))).s]) ∧ Below W.heap.size W w') := fun W => boolItem_is _ W
    have hcr := cmp_range x'.kind x'.n x'.s y'.kind y'.n y'.s
    obtain ⟨c, hc⟩ : ∃ c, c = cmpI x'.kind x'.n x'.s y'.kind y'.n y'.s := ⟨_, rfl⟩
    rw [← hc] at CC CB hcr
    have HC := hidR hc
    clear hc
    have CP : Hid (∀ W, Calls Tryz.prog g #[.int .i64 c] W fun e w' => e = .returned (.bool (p c)) ∧ w' = W) := fun W => CG.out W c hcr.1 hcr.2
    obtain ⟨pc, hpc⟩ : ∃ q, q = p c := ⟨_, rfl⟩
    rw [← hpc] at CB CP
    obtain ⟨rr, hrr⟩ : ∃ q, q = boolI pc := ⟨_, rfl⟩
    rw [← hrr] at CB
    have HE0 : Hid (rr = boolI (p (cmpI x'.kind x'.n x'.s y'.kind y'.n y'.s))) := by rw [hrr, hpc, HC.out]; exact rfl
    clear hpc hrr HC
    refine wp_region_slots (by kernel_rfl) (fun j v _ => match j with | 0 => v = .func (.func g) #[] #[] | 1 => v = (.agg #[.int .i64 x'.kind, .int .i64 x'.n, .string x'.s]) | 2 => v = (.agg #[.int .i64 y'.kind, .int .i64 y'.n, .string y'.s]) | 3 => v = .int .i64 c | 4 => v = .bool pc | 5 => v = (.agg #[.int .i64 rr.kind, .int .i64 rr.n, .string rr.s]) | 7 => v = .bool true | _ => True)
      (fun l _ W => Below w.heap.size w W ∧ W.heap[w.heap.size]? = some (if l.getD 6 false = true then (.cells #[.int .i64 rr.kind, .int .i64 rr.n, .string rr.s] 24) else (.cells #[.int .i64 0, .int .i64 0, .string ⟨#[]⟩] 24)) ∧ W.heap[T8]? = some (.cells #[.int .i64 x'.kind, .int .i64 x'.n, .string x'.s] 24) ∧ W.heap[T10]? = some (.cells #[.int .i64 y'.kind, .int .i64 y'.n, .string y'.s] 24))
      (by kernel_rfl) (by kernel_rfl) ⟨HB4.out.trans (drew_belowE _ _), HZ4.out, HX4.out, HY4.out⟩ ?_ ?_
    · intro l a W i o hsz h ho hl haf
      obtain ⟨g1, g2, g3, g4⟩ := h.more
      have hi : i < 8 := (Array.getElem?_eq_some_iff.1 ho).1
      obtain rfl | rfl | rfl | rfl | rfl | rfl | rfl | rfl : i = 0 ∨ i = 1 ∨ i = 2 ∨ i = 3 ∨ i = 4 ∨ i = 5 ∨ i = 6 ∨ i = 7 := by omega
      all_goals (obtain rfl := Option.some.inj ho; rw [if_pos (want_none rfl)])
      · have e8 := h.given 3 _ rfl (by kernel_rfl)
        obtain ⟨c0, _⟩ := blk1 ((g1.block _ (Array.getElem?_eq_some_iff.1 H1.out).1).trans H1.out)
        refine wp_val (v := .func (.func g) #[] #[]) (w' := W) ?_ ⟨_, rfl, rfl, fun _ _ h => h, g1, ?_, g3, g4⟩
        · unfold execOp
          simp [e8, go_sem, c0]
        · rw [set_other_get (by decide)]; exact g2
      · have e8 := h.given 8 _ rfl (by kernel_rfl)
        obtain ⟨c0, c1, c2, _⟩ := blk3 g3
        refine wp_val (v := .agg #[.int .i64 x'.kind, .int .i64 x'.n, .string x'.s]) (w' := W) ?_ ⟨_, rfl, rfl, fun _ _ h => h, g1, ?_, g3, g4⟩
        · unfold execOp
          simp [e8, go_sem, c0, c1, c2]
        · rw [set_other_get (by decide)]; exact g2
      · have e8 := h.given 10 _ rfl (by kernel_rfl)
        obtain ⟨c0, c1, c2, _⟩ := blk3 g4
        refine wp_val (v := .agg #[.int .i64 y'.kind, .int .i64 y'.n, .string y'.s]) (w' := W) ?_ ⟨_, rfl, rfl, fun _ _ h => h, g1, ?_, g3, g4⟩
        · unfold execOp
          simp [e8, go_sem, c0, c1, c2]
        · rw [set_other_get (by decide)]; exact g2
      · obtain ⟨u1, e1, d1⟩ := h.new 1 _ 49 rfl rfl (haf ⟨1, .data⟩ (by simp) rfl)
        obtain ⟨u2, e2, d2⟩ := h.new 2 _ 50 rfl rfl (haf ⟨2, .data⟩ (by simp) rfl)
        have d1' : u1 = (.agg #[.int .i64 x'.kind, .int .i64 x'.n, .string x'.s]) := d1
        have d2' : u2 = (.agg #[.int .i64 y'.kind, .int .i64 y'.n, .string y'.s]) := d2
        subst d1' d2'
        refine wp_enter (f := 104) (args := #[.agg #[.int .i64 x'.kind, .int .i64 x'.n, .string x'.s], .agg #[.int .i64 y'.kind, .int .i64 y'.n, .string y'.s]]) (w' := W) ?_ ((CC.out W).mono ?_)
        · unfold execOp
          simp [e1, e2, go_sem]
        · rintro e W' ⟨rfl, hb⟩
          refine ⟨_, rfl, _, rfl, rfl, fun _ _ h => h, g1.trans (hb.mono g1.size), ?_, blk_below hb (Array.getElem?_eq_some_iff.1 g3).1 g3, blk_below hb (Array.getElem?_eq_some_iff.1 g4).1 g4⟩
          rw [set_other_get (by decide)]; exact blk_below hb (Array.getElem?_eq_some_iff.1 g2).1 g2
      · obtain ⟨u1, e1, d1⟩ := h.new 0 _ 48 rfl rfl (haf ⟨0, .data⟩ (by simp) rfl)
        obtain ⟨u2, e2, d2⟩ := h.new 3 _ 51 rfl rfl (haf ⟨3, .data⟩ (by simp) rfl)
        have d1' : u1 = .func (.func g) #[] #[] := d1
        have d2' : u2 = .int .i64 c := d2
        subst d1' d2'
        refine wp_enter (f := g) (args := #[.int .i64 c]) (w' := W) ?_ ((CP.out W).mono ?_)
        · unfold execOp
          simp [e1, e2, go_sem, hrun]
        · rintro e W' ⟨rfl, rfl⟩
          refine ⟨_, rfl, _, rfl, rfl, fun _ _ h => h, g1, ?_, g3, g4⟩
          rw [set_other_get (by decide)]; exact g2
      · obtain ⟨u1, e1, d1⟩ := h.new 4 _ 52 rfl rfl (haf ⟨4, .data⟩ (by simp) rfl)
        have d1' : u1 = .bool pc := d1
        subst d1'
        refine wp_enter (f := 53) (args := #[.bool pc]) (w' := W) ?_ ((CB.out W).mono ?_)
        · unfold execOp
          simp [e1, go_sem]
        · rintro e W' ⟨rfl, hb⟩
          refine ⟨_, rfl, _, rfl, rfl, fun _ _ h => h, g1.trans (hb.mono g1.size), ?_, blk_below hb (Array.getElem?_eq_some_iff.1 g3).1 g3, blk_below hb (Array.getElem?_eq_some_iff.1 g4).1 g4⟩
          rw [set_other_get (by decide)]; exact blk_below hb (Array.getElem?_eq_some_iff.1 g2).1 g2
      · obtain ⟨u1, e1, d1⟩ := h.new 5 _ 53 rfl rfl (haf ⟨5, .data⟩ (by simp) rfl)
        have d1' : u1 = (.agg #[.int .i64 rr.kind, .int .i64 rr.n, .string rr.s]) := d1
        subst d1'
        have e8 := h.given 6 _ rfl (by kernel_rfl)
        have n6 : l.getD 6 false = false := by rw [Array.getD_eq_getD_getElem?] at hl ⊢; cases hx : l[6]? with | none => rfl | some bb => rw [hx] at hl; exact hl
        rw [n6, if_neg (by decide)] at g2
        obtain ⟨c0, c1, c2, k0, k1, k2, _⟩ := blk3 g2
        refine wp_skip (w' := ((W.setCell ⟨w.heap.size, 0, none⟩ (.int .i64 rr.kind)).setCell ⟨w.heap.size, 1, none⟩ (.int .i64 rr.n)).setCell ⟨w.heap.size, 2, none⟩ (.string rr.s)) ?_ ⟨_, rfl, trivial, fun _ _ h => h, ((g1.setCell (by simp) _).setCell (by simp) _).setCell (by simp) _, ?_, set_other (set_other (set_other g3 (by omega)) (by omega)) (by omega), set_other (set_other (set_other g4 (by omega)) (by omega)) (by omega)⟩
        · unfold execOp
          simp [e1, e8, go_sem, c0, c1, c2, k0, k1, k2]
        · rw [set_this_get hsz (by decide), if_pos rfl]; exact set_same (set_same (set_same g2 0 _) 1 _) 2 _
      · refine wp_val (v := .bool true) (w' := W) ?_ ⟨_, rfl, rfl, fun _ _ h => h, g1, ?_, g3, g4⟩
        · unfold execOp
          simp [go_sem]
        · rw [set_other_get (by decide)]; exact g2
    · intro v W hv hs hg
      obtain ⟨g1, g2, _, _⟩ := hg
      have d7 : v 7 = .bool true := hv 7 _ 7 rfl rfl
      have k2 : W.heap[w.heap.size]? = some (.cells #[.int .i64 rr.kind, .int .i64 rr.n, .string rr.s] 24) := g2
      simp only [putAll, d7]
      obtain ⟨a0, a1, a2, _⟩ := blk3 k2
      have HB5 := hidR g1
      clear hv hs d7 g1 g2 k2
      go_wp2_with fail
      exact bodyPost_ret (v := .tuple #[.agg #[.int .i64 rr.kind, .int .i64 rr.n, .string rr.s], .bool true]) (by simp [results, Tryz.results102, go_sem, a0, a1, a2]) rfl ⟨by rw [HE0.out], HB5.out⟩
end Go.Proofs.YtmoeipdchapodaaGreatDoor
set_option linter.unusedVariables false
namespace Go.Proofs.YtmoeipdchapodaaGreatDoor
set_option maxRecDepth 100000
open Go.RowKit Go.WideShapes

set_option maxHeartbeats 12800000 in
theorem comp_unlike (u : Bool) (g : FuncId) (p : Int → Bool) (x y x' y' : It) (fp : Value) (ib b : Nat) (w : World) (hx : ¬ x.kind = 1) (hy : ¬ y.kind = 1) (hk : ¬ x'.kind = y'.kind) (hg : SaysOk g p) (hrun : ∀ (args : Array Value) (W : World), Sem.run Tryz.prog (callFunc g args) W = .ok (.enter g args) W)
    (hib : w.heap[ib]? = some (.cells #[.int .i64 x.kind, .int .i64 x.n, .string x.s, .int .i64 y.kind, .int .i64 y.n, .string y.s] 24)) (hb0 : w.heap[b]? = some (.cells #[.bool u] 4)) (hb1 : w.heap[b + 1]? = some (.cells #[.func (.func g) #[] #[]] 96))
    (hax : ∀ W, Below w.heap.size w W → Calls Tryz.prog 103 #[.agg #[.int .i64 x.kind, .int .i64 x.n, .string x.s], .agg #[.int .i64 y.kind, .int .i64 y.n, .string y.s]] W fun e w' => e = .returned (.agg #[.int .i64 x'.kind, .int .i64 x'.n, .string x'.s]) ∧ Below W.heap.size W w') (hay : ∀ W, Below w.heap.size w W → Calls Tryz.prog 103 #[.agg #[.int .i64 y.kind, .int .i64 y.n, .string y.s], .agg #[.int .i64 x.kind, .int .i64 x.n, .string x.s]] W fun e w' => e = .returned (.agg #[.int .i64 y'.kind, .int .i64 y'.n, .string y'.s]) ∧ Below W.heap.size W w') :
    Calls Tryz.prog 102 #[fp, .slice (some ⟨ib, 0, none⟩) 2 2, .pointer (some ⟨b, 0, none⟩), .pointer (some ⟨b + 1, 0, none⟩)] w fun e w' => e = .returned (.tuple #[.agg #[.int .i64 (boolI u).kind, .int .i64 (boolI u).n, .string (boolI u).s], .bool true]) ∧ Below w.heap.size w w' := by
  have CD : Hid (∀ W k n s, ¬ k = 1 → Calls Tryz.prog 32 #[fp, .agg #[.int .i64 k, .int .i64 n, .string s]] W fun e w' => e = .returned (.tuple #[.agg #[.int .i64 k, .int .i64 n, .string s], .bool true]) ∧ Below W.heap.size W w') := fun W k n s h => data_is fp k n s W h
  have CX := hidR hax
  have CY := hidR hay
  have CG := hidR hg
  have HI := hidR hib
  have H0 := hidR hb0
  have H1 := hidR hb1
  obtain ⟨i0, i1, i2, i3, i4, i5, _, _, _, _, _, _, iz⟩ := blk6 hib
  clear hax hay hg hib hb0 hb1
  go_enter Tryz.func102, Tryz.ntmps102
  go_upto_region 5 with (first
    | (go_at_call 32; refine (CD.out _ _ _ _ hx).mono ?_; rintro e w1 ⟨rfl, hd1⟩; have HB1 : Hid (Below w.heap.size w w1) := Below.trans (by (focus (repeat (first | exact Below.refl _ _ | exact Hid.out (by assumption) | refine Below.setCell ?_ (by first | omega | (simp <;> omega)) _ | refine Below.alloc ?_ (by first | omega | (simp <;> omega)) _)))) (hd1.mono (by first | omega | (simp <;> omega))); have HZ1 : Hid (w1.heap[w.heap.size]? = some (.cells #[.int .i64 0, .int .i64 0, .string ⟨#[]⟩] 24)) := (hd1.block _ (by first | omega | (simp <;> omega))).trans (alloc_newN rfl); obtain ⟨_, _, _, j3, j4, j5, _, _, _, _, _, _, jz⟩ := blk6 ((HB1.out.block _ iz).trans HI.out); have hz1 := HB1.out.size; have hy1 : w.heap.size < w1.heap.size := (Array.getElem?_eq_some_iff.1 HZ1.out).1; clear hd1 hx)
    | (go_at_call 32; refine (CD.out _ _ _ _ hy).mono ?_; rintro e w2 ⟨rfl, hd2⟩; have HB2 : Hid (Below w.heap.size w w2) := Below.trans (by (focus (repeat (first | exact Below.refl _ _ | exact Hid.out (by assumption) | refine Below.setCell ?_ (by first | omega | (simp <;> omega)) _ | refine Below.alloc ?_ (by first | omega | (simp <;> omega)) _)))) (hd2.mono (by first | omega | (simp <;> omega))); have HZ2 : Hid (w2.heap[w.heap.size]? = some (.cells #[.int .i64 0, .int .i64 0, .string ⟨#[]⟩] 24)) := (hd2.block _ (by first | omega | (simp <;> omega))).trans (alloc_old HZ1.out); have HX2 : Hid (w2.heap[w1.heap.size]? = some (.cells #[.int .i64 x.kind, .int .i64 x.n, .string x.s] 24)) := (hd2.block _ (by first | omega | (simp <;> omega))).trans (alloc_newN rfl); have hz2 := HB2.out.size; have hy2 : w1.heap.size < w2.heap.size := (Array.getElem?_eq_some_iff.1 HX2.out).1; clear hd2 hy))
  obtain ⟨W3, hW3⟩ : ∃ W, W = w2.alloc (.cells #[.int .i64 y.kind, .int .i64 y.n, .string y.s] 24) := ⟨_, rfl⟩
  have HB3 : Hid (Below w.heap.size w W3) := by rw [hW3]; exact HB2.out.alloc HB2.out.size _
  have HZ3 : Hid (W3.heap[w.heap.size]? = some (.cells #[.int .i64 0, .int .i64 0, .string ⟨#[]⟩] 24)) := by rw [hW3]; exact alloc_old HZ2.out
  have HX3 : Hid (W3.heap[w1.heap.size]? = some (.cells #[.int .i64 x.kind, .int .i64 x.n, .string x.s] 24)) := by rw [hW3]; exact alloc_old HX2.out
  have HY3 : Hid (W3.heap[w2.heap.size]? = some (.cells #[.int .i64 y.kind, .int .i64 y.n, .string y.s] 24)) := by rw [hW3]; exact alloc_newN rfl
  rw [← hW3]
  clear hW3 HB1 HZ1 HB2 HZ2 HX2 j3 j4 j5 jz i0 i1 i2 i3 i4 i5
  generalize w1.heap.size = T8 at *
  generalize w2.heap.size = T10 at *
  refine wp_region_slots (by kernel_rfl) (fun j v _ => match j with | 0 => v = (.agg #[.int .i64 x.kind, .int .i64 x.n, .string x.s]) | 1 => v = (.agg #[.int .i64 y.kind, .int .i64 y.n, .string y.s]) | 2 => v = (.agg #[.int .i64 x'.kind, .int .i64 x'.n, .string x'.s]) | 3 => v = (.agg #[.int .i64 y.kind, .int .i64 y.n, .string y.s]) | 4 => v = (.agg #[.int .i64 x.kind, .int .i64 x.n, .string x.s]) | 5 => v = (.agg #[.int .i64 y'.kind, .int .i64 y'.n, .string y'.s]) | _ => True)
    (fun l _ W => Below w.heap.size w W ∧ W.heap[w.heap.size]? = some (.cells #[.int .i64 0, .int .i64 0, .string ⟨#[]⟩] 24) ∧ W.heap[T8]? = some (if l.getD 6 false = true then (.cells #[.int .i64 x'.kind, .int .i64 x'.n, .string x'.s] 24) else (.cells #[.int .i64 x.kind, .int .i64 x.n, .string x.s] 24)) ∧ W.heap[T10]? = some (if l.getD 7 false = true then (.cells #[.int .i64 y'.kind, .int .i64 y'.n, .string y'.s] 24) else (.cells #[.int .i64 y.kind, .int .i64 y.n, .string y.s] 24)))
    (by kernel_rfl) (by kernel_rfl) ⟨HB3.out.trans (drew_belowE _ _), HZ3.out, HX3.out, HY3.out⟩ ?_ ?_
  · intro l a W i o hsz h ho hl haf
    obtain ⟨g1, g2, g3, g4⟩ := h.more
    have hi : i < 8 := (Array.getElem?_eq_some_iff.1 ho).1
    obtain rfl | rfl | rfl | rfl | rfl | rfl | rfl | rfl : i = 0 ∨ i = 1 ∨ i = 2 ∨ i = 3 ∨ i = 4 ∨ i = 5 ∨ i = 6 ∨ i = 7 := by omega
    all_goals (obtain rfl := Option.some.inj ho; rw [if_pos (want_none rfl)])
    · have n6 := h.later 6 0 _ ⟨0, .phase⟩ rfl (by simp) rfl rfl hl
      have e8 := h.given 8 _ rfl (by kernel_rfl)
      rw [n6, if_neg (by decide)] at g3
      obtain ⟨c0, c1, c2, _⟩ := blk3 g3
      refine wp_val (v := .agg #[.int .i64 x.kind, .int .i64 x.n, .string x.s]) (w' := W) ?_ ⟨_, rfl, rfl, fun _ _ h => h, g1, g2, ?_, ?_⟩
      · unfold execOp
        simp [e8, go_sem, c0, c1, c2]
      · rw [set_other_get (by decide), n6]; exact g3
      · rw [set_other_get (by decide)]; exact g4
    · have n6 := h.later 7 1 _ ⟨1, .phase⟩ rfl (by simp) rfl rfl hl
      have e8 := h.given 10 _ rfl (by kernel_rfl)
      rw [n6, if_neg (by decide)] at g4
      obtain ⟨c0, c1, c2, _⟩ := blk3 g4
      refine wp_val (v := .agg #[.int .i64 y.kind, .int .i64 y.n, .string y.s]) (w' := W) ?_ ⟨_, rfl, rfl, fun _ _ h => h, g1, g2, ?_, ?_⟩
      · unfold execOp
        simp [e8, go_sem, c0, c1, c2]
      · rw [set_other_get (by decide)]; exact g3
      · rw [set_other_get (by decide), n6]; exact g4
    · obtain ⟨u1, e1, d1⟩ := h.new 0 _ 35 rfl rfl (haf ⟨0, .data⟩ (by simp) rfl)
      obtain ⟨u2, e2, d2⟩ := h.new 1 _ 36 rfl rfl (haf ⟨1, .data⟩ (by simp) rfl)
      have d1' : u1 = (.agg #[.int .i64 x.kind, .int .i64 x.n, .string x.s]) := d1
      have d2' : u2 = (.agg #[.int .i64 y.kind, .int .i64 y.n, .string y.s]) := d2
      subst d1' d2'
      refine wp_enter (f := 103) (args := #[.agg #[.int .i64 x.kind, .int .i64 x.n, .string x.s], .agg #[.int .i64 y.kind, .int .i64 y.n, .string y.s]]) (w' := W) ?_ ((CX.out W g1).mono ?_)
      · unfold execOp
        simp [e1, e2, go_sem]
      · rintro e W' ⟨rfl, hb⟩
        refine ⟨_, rfl, _, rfl, rfl, fun _ _ h => h, g1.trans (hb.mono g1.size), blk_below hb (Array.getElem?_eq_some_iff.1 g2).1 g2, ?_, ?_⟩
        · rw [set_other_get (by decide)]; exact blk_below hb (Array.getElem?_eq_some_iff.1 g3).1 g3
        · rw [set_other_get (by decide)]; exact blk_below hb (Array.getElem?_eq_some_iff.1 g4).1 g4
    · have n6 := h.later 7 3 _ ⟨3, .phase⟩ rfl (by simp) rfl rfl hl
      have e8 := h.given 10 _ rfl (by kernel_rfl)
      rw [n6, if_neg (by decide)] at g4
      obtain ⟨c0, c1, c2, _⟩ := blk3 g4
      refine wp_val (v := .agg #[.int .i64 y.kind, .int .i64 y.n, .string y.s]) (w' := W) ?_ ⟨_, rfl, rfl, fun _ _ h => h, g1, g2, ?_, ?_⟩
      · unfold execOp
        simp [e8, go_sem, c0, c1, c2]
      · rw [set_other_get (by decide)]; exact g3
      · rw [set_other_get (by decide), n6]; exact g4
    · have n6 := h.later 6 4 _ ⟨4, .phase⟩ rfl (by simp) rfl rfl hl
      have e8 := h.given 8 _ rfl (by kernel_rfl)
      rw [n6, if_neg (by decide)] at g3
      obtain ⟨c0, c1, c2, _⟩ := blk3 g3
      refine wp_val (v := .agg #[.int .i64 x.kind, .int .i64 x.n, .string x.s]) (w' := W) ?_ ⟨_, rfl, rfl, fun _ _ h => h, g1, g2, ?_, ?_⟩
      · unfold execOp
        simp [e8, go_sem, c0, c1, c2]
      · rw [set_other_get (by decide), n6]; exact g3
      · rw [set_other_get (by decide)]; exact g4
    · obtain ⟨u1, e1, d1⟩ := h.new 3 _ 38 rfl rfl (haf ⟨3, .data⟩ (by simp) rfl)
      obtain ⟨u2, e2, d2⟩ := h.new 4 _ 39 rfl rfl (haf ⟨4, .data⟩ (by simp) rfl)
      have d1' : u1 = (.agg #[.int .i64 y.kind, .int .i64 y.n, .string y.s]) := d1
      have d2' : u2 = (.agg #[.int .i64 x.kind, .int .i64 x.n, .string x.s]) := d2
      subst d1' d2'
      refine wp_enter (f := 103) (args := #[.agg #[.int .i64 y.kind, .int .i64 y.n, .string y.s], .agg #[.int .i64 x.kind, .int .i64 x.n, .string x.s]]) (w' := W) ?_ ((CY.out W g1).mono ?_)
      · unfold execOp
        simp [e1, e2, go_sem]
      · rintro e W' ⟨rfl, hb⟩
        refine ⟨_, rfl, _, rfl, rfl, fun _ _ h => h, g1.trans (hb.mono g1.size), blk_below hb (Array.getElem?_eq_some_iff.1 g2).1 g2, ?_, ?_⟩
        · rw [set_other_get (by decide)]; exact blk_below hb (Array.getElem?_eq_some_iff.1 g3).1 g3
        · rw [set_other_get (by decide)]; exact blk_below hb (Array.getElem?_eq_some_iff.1 g4).1 g4
    · obtain ⟨u1, e1, d1⟩ := h.new 2 _ 37 rfl rfl (haf ⟨2, .data⟩ (by simp) rfl)
      have d1' : u1 = (.agg #[.int .i64 x'.kind, .int .i64 x'.n, .string x'.s]) := d1
      subst d1'
      have e8 := h.given 8 _ rfl (by kernel_rfl)
      have n6 : l.getD 6 false = false := by rw [Array.getD_eq_getD_getElem?] at hl ⊢; cases hx : l[6]? with | none => rfl | some bb => rw [hx] at hl; exact hl
      rw [n6, if_neg (by decide)] at g3
      obtain ⟨c0, c1, c2, k0, k1, k2, _⟩ := blk3 g3
      refine wp_skip (w' := ((W.setCell ⟨T8, 0, none⟩ (.int .i64 x'.kind)).setCell ⟨T8, 1, none⟩ (.int .i64 x'.n)).setCell ⟨T8, 2, none⟩ (.string x'.s)) ?_ ⟨_, rfl, trivial, fun _ _ h => h, ((g1.setCell (by simp only []; omega) _).setCell (by simp only []; omega) _).setCell (by simp only []; omega) _, set_other (set_other (set_other g2 (by omega)) (by omega)) (by omega), ?_, ?_⟩
      · unfold execOp
        simp [e1, e8, go_sem, c0, c1, c2, k0, k1, k2]
      · rw [set_this_get hsz (by decide), if_pos rfl]; exact set_same (set_same (set_same g3 0 _) 1 _) 2 _
      · rw [set_other_get (by decide)]; exact set_other (set_other (set_other g4 (by omega)) (by omega)) (by omega)
    · obtain ⟨u1, e1, d1⟩ := h.new 5 _ 40 rfl rfl (haf ⟨5, .data⟩ (by simp) rfl)
      have d1' : u1 = (.agg #[.int .i64 y'.kind, .int .i64 y'.n, .string y'.s]) := d1
      subst d1'
      have e8 := h.given 10 _ rfl (by kernel_rfl)
      have n6 : l.getD 7 false = false := by rw [Array.getD_eq_getD_getElem?] at hl ⊢; cases hx : l[7]? with | none => rfl | some bb => rw [hx] at hl; exact hl
      rw [n6, if_neg (by decide)] at g4
      obtain ⟨c0, c1, c2, k0, k1, k2, _⟩ := blk3 g4
      refine wp_skip (w' := ((W.setCell ⟨T10, 0, none⟩ (.int .i64 y'.kind)).setCell ⟨T10, 1, none⟩ (.int .i64 y'.n)).setCell ⟨T10, 2, none⟩ (.string y'.s)) ?_ ⟨_, rfl, trivial, fun _ _ h => h, ((g1.setCell (by simp only []; omega) _).setCell (by simp only []; omega) _).setCell (by simp only []; omega) _, set_other (set_other (set_other g2 (by omega)) (by omega)) (by omega), ?_, ?_⟩
      · unfold execOp
        simp [e1, e8, go_sem, c0, c1, c2, k0, k1, k2]
      · rw [set_other_get (by decide)]; exact set_other (set_other (set_other g3 (by omega)) (by omega)) (by omega)
      · rw [set_this_get hsz (by decide), if_pos rfl]; exact set_same (set_same (set_same g4 0 _) 1 _) 2 _
  · intro v W hv hs hg
    obtain ⟨g1, g2, g3, g4⟩ := hg
    have d0 : v 0 = (.agg #[.int .i64 x.kind, .int .i64 x.n, .string x.s]) := hv 0 _ 35 rfl rfl
    have d1 : v 1 = (.agg #[.int .i64 y.kind, .int .i64 y.n, .string y.s]) := hv 1 _ 36 rfl rfl
    have d2 : v 2 = (.agg #[.int .i64 x'.kind, .int .i64 x'.n, .string x'.s]) := hv 2 _ 37 rfl rfl
    have d3 : v 3 = (.agg #[.int .i64 y.kind, .int .i64 y.n, .string y.s]) := hv 3 _ 38 rfl rfl
    have d4 : v 4 = (.agg #[.int .i64 x.kind, .int .i64 x.n, .string x.s]) := hv 4 _ 39 rfl rfl
    have d5 : v 5 = (.agg #[.int .i64 y'.kind, .int .i64 y'.n, .string y'.s]) := hv 5 _ 40 rfl rfl
    have k3 : W.heap[T8]? = some (.cells #[.int .i64 x'.kind, .int .i64 x'.n, .string x'.s] 24) := g3
    have k4 : W.heap[T10]? = some (.cells #[.int .i64 y'.kind, .int .i64 y'.n, .string y'.s] 24) := g4
    simp only [putAll, d0, d1, d2, d3, d4, d5]
    clear hv hs d0 d1 d2 d3 d4 d5 g3 g4
    have HB4 := hidR g1
    have HZ4 := hidR g2
    have HX4 := hidR k3
    have HY4 := hidR k4
    obtain ⟨a0, a1, a2, _, _, _, a3⟩ := blk3 k3
    obtain ⟨b0, b1, b2, _, _, _, b3⟩ := blk3 k4
    clear g1 g2 k3 k4
    have hk1 : (x'.kind == y'.kind) = false := by simpa using hk
    have CB : Hid (∀ W, Calls Tryz.prog 53 #[.bool u] W fun e w' => e = .returned (.agg #[.int .i64 (boolI u).kind, .int .i64 (boolI u).n, .string (boolI u).s]) ∧ Below W.heap.size W w') := fun W => boolItem_is _ W
    obtain ⟨rr, hrr⟩ : ∃ q, q = boolI u := ⟨_, rfl⟩
    rw [← hrr] at CB
    have HE0 := hidR hrr
    clear hrr hk
    obtain ⟨m0, _, m1⟩ := blk1 ((HB4.out.block _ (Array.getElem?_eq_some_iff.1 H0.out).1).trans H0.out)
    have hz4 := HB4.out.size
    have hy4 : w.heap.size < W.heap.size := (Array.getElem?_eq_some_iff.1 HZ4.out).1
    go_wp2_with (go_at_call 53; refine (CB.out _).mono ?_; rintro e w5 ⟨rfl, hb5⟩; have HB5 : Hid (Below w.heap.size w w5) := HB4.out.trans (hb5.mono hz4); have HZ5 := hidR (blk_below hb5 hy4 HZ4.out); obtain ⟨q0, q1, q2, q3, q4, q5, q6⟩ := blk3 HZ5.out; clear hb5)
    refine bodyPost_ret (v := .tuple #[.agg #[.int .i64 rr.kind, .int .i64 rr.n, .string rr.s], .bool true]) (by simp [results, Tryz.results102, go_sem, q0, q1, q2]) rfl ⟨by rw [HE0.out], ?_⟩
    (focus (repeat (first | exact Below.refl _ _ | exact Hid.out (by assumption) | refine Below.setCell ?_ (by first | omega | (simp <;> omega)) _ | refine Below.alloc ?_ (by first | omega | (simp <;> omega)) _)))
end Go.Proofs.YtmoeipdchapodaaGreatDoor
set_option linter.unusedVariables false
namespace Go.Proofs.YtmoeipdchapodaaGreatDoor
set_option maxRecDepth 100000
open Go.RowKit Go.WideShapes

def opT : Nat → ByteArray
  | 0 => ⟨#[60]⟩
  | 1 => ⟨#[61]⟩
  | 2 => ⟨#[62]⟩
  | 3 => ⟨#[60, 61]⟩
  | 4 => ⟨#[62, 61]⟩
  | _ => ⟨#[33, 61]⟩
def bt (c : Int) : Nat → Bool
  | 0 => decide (c < 0)
  | 1 => c == 0
  | 2 => decide (0 < c)
  | 3 => decide (c ≤ 0)
  | 4 => decide (0 ≤ c)
  | _ => !(c == 0)
def btU : Nat → Bool
  | 0 => false
  | 1 => false
  | 2 => false
  | 3 => false
  | 4 => false
  | _ => true
def eRel : Nat → FnE
  | 0 => ⟨⟨#[60]⟩, 2, 102, [(.bool false, 4), (.func (.func 61) #[] #[], 96)]⟩
  | 1 => ⟨⟨#[61]⟩, 2, 102, [(.bool false, 4), (.func (.func 59) #[] #[], 96)]⟩
  | 2 => ⟨⟨#[62]⟩, 2, 102, [(.bool false, 4), (.func (.func 63) #[] #[], 96)]⟩
  | 3 => ⟨⟨#[60, 61]⟩, 2, 102, [(.bool false, 4), (.func (.func 62) #[] #[], 96)]⟩
  | 4 => ⟨⟨#[62, 61]⟩, 2, 102, [(.bool false, 4), (.func (.func 64) #[] #[], 96)]⟩
  | _ => ⟨⟨#[33, 61]⟩, 2, 102, [(.bool true, 4), (.func (.func 60) #[] #[], 96)]⟩
theorem okRel {k : Nat} (hk : k < 6) : FnOk (opT k) (eRel k) := by
  obtain rfl | rfl | rfl | rfl | rfl | rfl : k = 0 ∨ k = 1 ∨ k = 2 ∨ k = 3 ∨ k = 4 ∨ k = 5 := by omega
  · exact ⟨List.mem_of_getElem? (i := 11) (by kernel_rfl), rfl, rfl⟩
  · exact ⟨List.mem_of_getElem? (i := 13) (by kernel_rfl), rfl, rfl⟩
  · exact ⟨List.mem_of_getElem? (i := 9) (by kernel_rfl), rfl, rfl⟩
  · exact ⟨List.mem_of_getElem? (i := 10) (by kernel_rfl), rfl, rfl⟩
  · exact ⟨List.mem_of_getElem? (i := 8) (by kernel_rfl), rfl, rfl⟩
  · exact ⟨List.mem_of_getElem? (i := 12) (by kernel_rfl), rfl, rfl⟩
theorem enters_rel {k : Nat} (args : Array Value) (W : World) : Sem.run Tryz.prog (callFunc (eRel k).f args) W = .ok (.enter (eRel k).f args) W := by
  match k with
  | 0 => rfl
  | 1 => rfl
  | 2 => rfl
  | 3 => rfl
  | 4 => rfl
  | _ + 5 => rfl
theorem val_like {k : Nat} (hk : k < 6) {w : World} {x y x' y' : It} (hx : ¬ x.kind = 1) (hy : ¬ y.kind = 1) (hkk : x'.kind = y'.kind)
    (hax : ∀ W, Below w.heap.size w W → Calls Tryz.prog 103 #[.agg #[.int .i64 x.kind, .int .i64 x.n, .string x.s], .agg #[.int .i64 y.kind, .int .i64 y.n, .string y.s]] W fun e w' => e = .returned (.agg #[.int .i64 x'.kind, .int .i64 x'.n, .string x'.s]) ∧ Below W.heap.size W w') (hay : ∀ W, Below w.heap.size w W → Calls Tryz.prog 103 #[.agg #[.int .i64 y.kind, .int .i64 y.n, .string y.s], .agg #[.int .i64 x.kind, .int .i64 x.n, .string x.s]] W fun e w' => e = .returned (.agg #[.int .i64 y'.kind, .int .i64 y'.n, .string y'.s]) ∧ Below W.heap.size W w') : ValOk w (eRel k) x y (boolI (bt (cmpI x'.kind x'.n x'.s y'.kind y'.n y'.s) k)) true := by
  obtain rfl | rfl | rfl | rfl | rfl | rfl : k = 0 ∨ k = 1 ∨ k = 2 ∨ k = 3 ∨ k = 4 ∨ k = 5 := by omega
  · intro ob W ib b hW hc hib
    exact comp_like false 61 _ x y x' y' _ ib b W hx hy hkk says_11 (fun _ _ => rfl) hib (hc 0 (by decide)) (hc 1 (by decide)) (fun W' hW' => hax W' (hW.trans (hW'.mono hW.size))) (fun W' hW' => hay W' (hW.trans (hW'.mono hW.size)))
  · intro ob W ib b hW hc hib
    exact comp_like false 59 _ x y x' y' _ ib b W hx hy hkk says_9 (fun _ _ => rfl) hib (hc 0 (by decide)) (hc 1 (by decide)) (fun W' hW' => hax W' (hW.trans (hW'.mono hW.size))) (fun W' hW' => hay W' (hW.trans (hW'.mono hW.size)))
  · intro ob W ib b hW hc hib
    exact comp_like false 63 _ x y x' y' _ ib b W hx hy hkk says_13 (fun _ _ => rfl) hib (hc 0 (by decide)) (hc 1 (by decide)) (fun W' hW' => hax W' (hW.trans (hW'.mono hW.size))) (fun W' hW' => hay W' (hW.trans (hW'.mono hW.size)))
  · intro ob W ib b hW hc hib
    exact comp_like false 62 _ x y x' y' _ ib b W hx hy hkk says_12 (fun _ _ => rfl) hib (hc 0 (by decide)) (hc 1 (by decide)) (fun W' hW' => hax W' (hW.trans (hW'.mono hW.size))) (fun W' hW' => hay W' (hW.trans (hW'.mono hW.size)))
  · intro ob W ib b hW hc hib
    exact comp_like false 64 _ x y x' y' _ ib b W hx hy hkk says_14 (fun _ _ => rfl) hib (hc 0 (by decide)) (hc 1 (by decide)) (fun W' hW' => hax W' (hW.trans (hW'.mono hW.size))) (fun W' hW' => hay W' (hW.trans (hW'.mono hW.size)))
  · intro ob W ib b hW hc hib
    exact comp_like true 60 _ x y x' y' _ ib b W hx hy hkk says_10 (fun _ _ => rfl) hib (hc 0 (by decide)) (hc 1 (by decide)) (fun W' hW' => hax W' (hW.trans (hW'.mono hW.size))) (fun W' hW' => hay W' (hW.trans (hW'.mono hW.size)))
theorem val_unlike {k : Nat} (hk : k < 6) {w : World} {x y x' y' : It} (hx : ¬ x.kind = 1) (hy : ¬ y.kind = 1) (hkk : ¬ x'.kind = y'.kind)
    (hax : ∀ W, Below w.heap.size w W → Calls Tryz.prog 103 #[.agg #[.int .i64 x.kind, .int .i64 x.n, .string x.s], .agg #[.int .i64 y.kind, .int .i64 y.n, .string y.s]] W fun e w' => e = .returned (.agg #[.int .i64 x'.kind, .int .i64 x'.n, .string x'.s]) ∧ Below W.heap.size W w') (hay : ∀ W, Below w.heap.size w W → Calls Tryz.prog 103 #[.agg #[.int .i64 y.kind, .int .i64 y.n, .string y.s], .agg #[.int .i64 x.kind, .int .i64 x.n, .string x.s]] W fun e w' => e = .returned (.agg #[.int .i64 y'.kind, .int .i64 y'.n, .string y'.s]) ∧ Below W.heap.size W w') : ValOk w (eRel k) x y (boolI (btU k)) true := by
  obtain rfl | rfl | rfl | rfl | rfl | rfl : k = 0 ∨ k = 1 ∨ k = 2 ∨ k = 3 ∨ k = 4 ∨ k = 5 := by omega
  · intro ob W ib b hW hc hib
    exact comp_unlike false 61 _ x y x' y' _ ib b W hx hy hkk says_11 (fun _ _ => rfl) hib (hc 0 (by decide)) (hc 1 (by decide)) (fun W' hW' => hax W' (hW.trans (hW'.mono hW.size))) (fun W' hW' => hay W' (hW.trans (hW'.mono hW.size)))
  · intro ob W ib b hW hc hib
    exact comp_unlike false 59 _ x y x' y' _ ib b W hx hy hkk says_9 (fun _ _ => rfl) hib (hc 0 (by decide)) (hc 1 (by decide)) (fun W' hW' => hax W' (hW.trans (hW'.mono hW.size))) (fun W' hW' => hay W' (hW.trans (hW'.mono hW.size)))
  · intro ob W ib b hW hc hib
    exact comp_unlike false 63 _ x y x' y' _ ib b W hx hy hkk says_13 (fun _ _ => rfl) hib (hc 0 (by decide)) (hc 1 (by decide)) (fun W' hW' => hax W' (hW.trans (hW'.mono hW.size))) (fun W' hW' => hay W' (hW.trans (hW'.mono hW.size)))
  · intro ob W ib b hW hc hib
    exact comp_unlike false 62 _ x y x' y' _ ib b W hx hy hkk says_12 (fun _ _ => rfl) hib (hc 0 (by decide)) (hc 1 (by decide)) (fun W' hW' => hax W' (hW.trans (hW'.mono hW.size))) (fun W' hW' => hay W' (hW.trans (hW'.mono hW.size)))
  · intro ob W ib b hW hc hib
    exact comp_unlike false 64 _ x y x' y' _ ib b W hx hy hkk says_14 (fun _ _ => rfl) hib (hc 0 (by decide)) (hc 1 (by decide)) (fun W' hW' => hax W' (hW.trans (hW'.mono hW.size))) (fun W' hW' => hay W' (hW.trans (hW'.mono hW.size)))
  · intro ob W ib b hW hc hib
    exact comp_unlike true 60 _ x y x' y' _ ib b W hx hy hkk says_10 (fun _ _ => rfl) hib (hc 0 (by decide)) (hc 1 (by decide)) (fun W' hW' => hax W' (hW.trans (hW'.mono hW.size))) (fun W' hW' => hay W' (hW.trans (hW'.mono hW.size)))
theorem may_bool (b : Bool) : mayI (boolI b) = true := by cases b <;> decide +kernel
theorem bool_size (b : Bool) : (boolI b).s.size ≤ maxLen := show (⟨#[]⟩ : ByteArray).size ≤ maxLen by decide
theorem may_txt {s : ByteArray} (h : textF s = 0) : mayI (txtI s) = true := by
  have e : mayI (txtI s) = decide ((0 : Int) = 0 ∧ textF s = 0) := rfl
  rw [e]
  exact decide_eq_true ⟨rfl, h⟩
theorem txt_kind (s : ByteArray) : ¬ (txtI s).kind = 1 := show ¬ (3 : Int) = 1 by decide
def oneT : ByteArray := ⟨#[111, 110, 101]⟩
/-- the order of two numbers -/
def ordN (a b : Int) : Int := if a < b then -1 else if b < a then 1 else 0
theorem ordN_is (a b : Int) : cmpI (numI a).kind (numI a).n (numI a).s (numI b).kind (numI b).n (numI b).s = ordN a b := by
  show (if (2 : Int) < 2 then (-1 : Int) else if (2 : Int) < 2 then 1 else if a < b then -1 else if b < a then 1 else 0) = _
  rw [if_neg (by decide), if_neg (by decide)]
  rfl
theorem rel_num {w : World} (hw : RelEnv w) {a b : Int} (ha : -4 ≤ a ∧ a ≤ 4) (hb : -4 ≤ b ∧ b ≤ 4) {k : Nat} (hk : k < 6) : Answers w (opT k) (numI a) (numI b) (boolI (bt (ordN a b) k)) 0 := by
  have v := val_like hk (w := w) (x := numI a) (y := numI b) (x' := numI a) (y' := numI b) (num_kind _) (num_kind _) rfl (fun W _ => other_same 2 a ⟨#[]⟩ 2 b ⟨#[]⟩ W (by decide)) (fun W _ => other_same 2 b ⟨#[]⟩ 2 a ⟨#[]⟩ W (by decide))
  rw [ordN_is] at v
  exact answers_good hw.run (okRel hk) (num_kind _) (num_kind _) (tab_num (by omega) (by omega)) enters_rel (bool_size _) (may_bool _) v
theorem tab_txt {a : Int} {s : ByteArray} (ha : -4 ≤ a ∧ a ≤ 4) (hs : textF s = 0) : tabF (numI a) (txtI s) = 0 := by
  unfold tabF
  rw [if_pos ⟨may_num (by omega), may_txt hs⟩]
theorem rel_txt {w : World} (hw : RelEnv w) {a b : Int} (ha : -4 ≤ a ∧ a ≤ 4) (hb : -4 ≤ b ∧ b ≤ 4) {k : Nat} (hk : k < 6) : Answers w (opT k) (numI a) (txtI (numT b)) (boolI (bt (ordN a b) k)) 0 := by
  have v := val_like hk (w := w) (x := numI a) (y := txtI (numT b)) (x' := numI a) (y' := numI b) (num_kind _) (txt_kind _) rfl (fun W _ => other_same 2 a ⟨#[]⟩ 3 0 (numT b) W (by decide)) (fun W hW => other_num b hb a ⟨#[]⟩ W (hw.below hW))
  rw [ordN_is] at v
  exact answers_good hw.run (okRel hk) (num_kind _) (txt_kind _) (tab_txt ha (numT_back hb).2.2) enters_rel (bool_size _) (may_bool _) v
theorem rel_one {w : World} (hw : RelEnv w) {a : Int} (ha : -4 ≤ a ∧ a ≤ 4) {k : Nat} (hk : k < 6) : Answers w (opT k) (numI a) (txtI oneT) (boolI (btU k)) 0 := by
  have v := val_unlike hk (w := w) (x := numI a) (y := txtI oneT) (x' := numI a) (y' := txtI oneT) (num_kind _) (txt_kind _) (show ¬ (2 : Int) = 3 by decide) (fun W _ => other_same 2 a ⟨#[]⟩ 3 0 oneT W (by decide)) (fun W hW => other_one a ⟨#[]⟩ W (hw.below hW))
  exact answers_good hw.run (okRel hk) (num_kind _) (txt_kind _) (tab_txt ha (by decide +kernel)) enters_rel (bool_size _) (may_bool _) v
theorem op_size {k : Nat} (hk : k < 6) : (opT k).size ≤ 2 := by
  obtain rfl | rfl | rfl | rfl | rfl | rfl : k = 0 ∨ k = 1 ∨ k = 2 ∨ k = 3 ∨ k = 4 ∨ k = 5 := by omega
  all_goals decide
/-- how many are true of the first ones, and which -/
def nY (c : Int) : Nat → Int
  | 0 => 0
  | k + 1 => nY c k + (if bt c k then 1 else 0)
def sY (c : Int) : Nat → ByteArray
  | 0 => ⟨#[]⟩
  | k + 1 => if bt c k then sY c k ++ opT k else sY c k
theorem nY_le (c : Int) : ∀ k : Nat, 0 ≤ nY c k ∧ nY c k ≤ k
  | 0 => ⟨Int.le_refl _, Int.le_refl _⟩
  | k + 1 => by
    have := nY_le c k
    unfold nY
    split <;> omega
theorem sY_le (c : Int) : ∀ k, k ≤ 6 → (sY c k).size ≤ 2 * k
  | 0, _ => (show (⟨#[]⟩ : ByteArray).size ≤ 0 by decide)
  | k + 1, h => by
    have := sY_le c k (by omega)
    have h2 := op_size (k := k) (by omega)
    unfold sY
    split
    · rw [ByteArray.size_append]; omega
    · omega
theorem ord_three (a b : Int) : ordN a b = -1 ∨ ordN a b = 0 ∨ ordN a b = 1 := by
  unfold ordN
  split
  · exact .inl rfl
  · split
    · exact .inr (.inr rfl)
    · exact .inr (.inl rfl)
theorem three_said {c : Int} (h : c = -1 ∨ c = 0 ∨ c = 1) : nY c 6 = 3 ∧ (sY c 6 = ⟨#[60, 60, 61, 33, 61]⟩ ∨ sY c 6 = ⟨#[61, 60, 61, 62, 61]⟩ ∨ sY c 6 = ⟨#[62, 62, 61, 33, 61]⟩) := by
  rcases h with rfl | rfl | rfl <;> decide +kernel
end Go.Proofs.YtmoeipdchapodaaGreatDoor
