/-
  CONTRACTS of package core: sorted: a ForIn, a Where, and an OrderBy.
-/
import Derived.Test.YtkhlfdnlpimojaaDoorLcJ
set_option linter.unusedVariables false
namespace Go.Proofs.YtkhlfdnlpimojaaDoor
set_option maxRecDepth 100000
open Go.RowKit Go.WideShapes Go.Shelf
attribute [local go_sem] Oper.semAt_some

theorem bk12f {w : World} {b : Nat} {x0 x1 x2 x3 x4 x5 x6 x7 x8 x9 x10 x11 : Value} {T : TypeId} (h : w.heap[b]? = some (.cells #[x0, x1, x2, x3, x4, x5, x6, x7, x8, x9, x10, x11] T)) : w.cell? ⟨b, 0, none⟩ = some x0 ∧ w.cell? ⟨b, 1, none⟩ = some x1 ∧ w.cell? ⟨b, 2, none⟩ = some x2 ∧ w.cell? ⟨b, 3, none⟩ = some x3 ∧ w.cell? ⟨b, 4, none⟩ = some x4 ∧ w.cell? ⟨b, 5, none⟩ = some x5 ∧ w.cell? ⟨b, 6, none⟩ = some x6 ∧ w.cell? ⟨b, 7, none⟩ = some x7 ∧ w.cell? ⟨b, 8, none⟩ = some x8 ∧ w.cell? ⟨b, 9, none⟩ = some x9 ∧ w.cell? ⟨b, 10, none⟩ = some x10 ∧ w.cell? ⟨b, 11, none⟩ = some x11 ∧ (∀ o, w.frozen? ⟨b, o, none⟩ = false) :=
  ⟨by rw [Lib.cell_of_heap h]; rfl, by rw [Lib.cell_of_heap h]; rfl, by rw [Lib.cell_of_heap h]; rfl, by rw [Lib.cell_of_heap h]; rfl, by rw [Lib.cell_of_heap h]; rfl, by rw [Lib.cell_of_heap h]; rfl, by rw [Lib.cell_of_heap h]; rfl, by rw [Lib.cell_of_heap h]; rfl, by rw [Lib.cell_of_heap h]; rfl, by rw [Lib.cell_of_heap h]; rfl, by rw [Lib.cell_of_heap h]; rfl, by rw [Lib.cell_of_heap h]; rfl, fun o => Lib.frozen_of_heap h _⟩
theorem cellq {w w' : World} {b o : Nat} (e : w'.heap[b]? = w.heap[b]?) : w'.cell? ⟨b, o, none⟩ = w.cell? ⟨b, o, none⟩ := by simp only [World.cell?, e]
/-- what sorted answers: the expression, and where its arguments lie -/
def SrT (lb : Nat) (m1 m2 m3 : Value) (p : Nat) (cf cw co : CV) (nmf atf : ByteArray) (k2 : Int) (i2 : It) (nm2 at2 : ByteArray) (g2 ax2 tk2 : Int) (tn2 : ByteArray) (aa2 : Option Addr) (am2 ac2 : Nat) (w : World) (e : Ending) (w' : World) : Prop :=
  ∃ n13 n12 n100 : Nat, e = .returned (.agg #[.int .i64 6, .int .i64 0, .int .i64 0, .string ⟨#[]⟩, .string nmf, .string atf, .int .i64 0, .int .i64 0, .int .i64 0, .string ⟨#[]⟩, .slice (some ⟨n13, 0, none⟩) 3 3]) ∧ Kp lb m1 m2 m3 (p + 4) w w' ∧ w.heap.size ≤ n13 ∧ w'.heap[n13]? = some (.cells #[.int .i64 (cf.k), .int .i64 (cf.it.kind), .int .i64 (cf.it.n), .string cf.it.s, .string cf.nm, .string cf.at_, .int .i64 (cf.n), .int .i64 (cf.ax), .int .i64 (cf.tk), .string cf.tn, .slice cf.aa cf.am cf.ac, .int .i64 (co.k), .int .i64 (co.it.kind), .int .i64 (co.it.n), .string co.it.s, .string co.nm, .string co.at_, .int .i64 (co.n), .int .i64 (co.ax), .int .i64 (co.tk), .string co.tn, .slice co.aa co.am co.ac, .int .i64 7, .int .i64 0, .int .i64 0, .string ⟨#[]⟩, .string ⟨#[]⟩, .string ⟨#[]⟩, .int .i64 0, .int .i64 0, .int .i64 0, .string ⟨#[]⟩, .slice (some ⟨n12, 0, none⟩) 3 3] 39) ∧ w.heap.size ≤ n12 ∧ w'.heap[n12]? = some (.cells #[.int .i64 8, .int .i64 0, .int .i64 0, .string ⟨#[]⟩, .string ⟨#[98, 111, 111, 108, 101, 97, 110]⟩, .string ⟨#[]⟩, .int .i64 0, .int .i64 0, .int .i64 0, .string ⟨#[]⟩, .slice (some ⟨n100, 0, none⟩) 1 1, .int .i64 (k2), .int .i64 (i2.kind), .int .i64 (i2.n), .string i2.s, .string nm2, .string at2, .int .i64 (g2), .int .i64 (ax2), .int .i64 (tk2), .string tn2, .slice aa2 am2 ac2, .int .i64 3, .int .i64 0, .int .i64 0, .string ⟨#[]⟩, .string ⟨#[]⟩, .string ⟨#[]⟩, .int .i64 0, .int .i64 0, .int .i64 0, .string ⟨#[]⟩, .slice none 0 0] 39) ∧ w.heap.size ≤ n100 ∧ w'.heap[n100]? = some (.cells #[.int .i64 (cw.k), .int .i64 (cw.it.kind), .int .i64 (cw.it.n), .string cw.it.s, .string cw.nm, .string cw.at_, .int .i64 (cw.n), .int .i64 (cw.ax), .int .i64 (cw.tk), .string cw.tn, .slice cw.aa cw.am cw.ac] 39)
set_option maxHeartbeats 6400000 in
theorem sorted_three (lb : Nat) (m1 m2 m3 : Value) (p : Nat) (cf cw co : CV) (b cap : Nat) (k2 : Int) (i2 : It) (nm2 at2 : ByteArray) (g2 ax2 tk2 : Int) (tn2 : ByteArray) (aa2 : Option Addr) (am2 ac2 : Nat) (w : World) (hl : w.heap[lb]? = some (.cells #[m1, m2, m3, .int .i64 (p : Int), .int .i64 0] 49)) (hp : p + 4 ≤ 700) (hcap : 2 ≤ cap)
    (hcf : CvAt w b 0 cf) (hcw : CvAt w b 12 cw) (hb : b < w.heap.size) (hbl : b ≠ lb) (hkf : w.cell? ⟨cf.pb, cf.po, none⟩ = some (.int .i64 1)) (hkfb : cf.pb < w.heap.size) (hkfl : cf.pb ≠ lb) (hkw : w.cell? ⟨cw.pb, cw.po, none⟩ = some (.int .i64 3)) (hkwb : cw.pb < w.heap.size) (hkwl : cw.pb ≠ lb)
    (nmf atf : ByteArray) (hnm : w.cell? ⟨cf.pb, cf.po + 1, none⟩ = some (.string nmf)) (hat : w.cell? ⟨cf.pb, cf.po + 2, none⟩ = some (.string atf)) (hnf : nmf.size ≤ 4000) (haf : atf.size ≤ 4000) (hdo : w.cell? ⟨co.pb, co.po + 3, none⟩ = some (.bool false)) (hkob : co.pb < w.heap.size) :
    Calls Tryd.prog 42 #[.pointer (some ⟨lb, 0, none⟩), .slice (some ⟨b, 0, none⟩) 2 cap, .agg #[.pointer (some ⟨co.pb, co.po, none⟩), .int .i64 (co.k), .int .i64 (co.it.kind), .int .i64 (co.it.n), .string co.it.s, .string co.nm, .string co.at_, .int .i64 (co.n), .int .i64 (co.ax), .int .i64 (co.tk), .string co.tn, .slice co.aa co.am co.ac], .agg #[.int .i64 (k2), .int .i64 (i2.kind), .int .i64 (i2.n), .string i2.s, .string nm2, .string at2, .int .i64 (g2), .int .i64 (ax2), .int .i64 (tk2), .string tn2, .slice aa2 am2 ac2]] w fun e w' => SrT lb m1 m2 m3 p cf cw co nmf atf k2 i2 nm2 at2 g2 ax2 tk2 tn2 aa2 am2 ac2 w e w' := by
  have HL := hidC hl
  have HF := hidC hcf
  have HW := hidC hcw
  have KF := hidC hkf
  have KW := hidC hkw
  have NF := hidC hnm
  have AF := hidC hat
  have DO := hidC hdo
  have l6 : lb < w.heap.size := (Array.getElem?_eq_some_iff.1 hl).1
  have CI : Hid (∀ W, Below w.heap.size w W → Calls Tryd.prog 62 #[.slice (some ⟨b, 0, none⟩) 2 cap, .func (.func 63) #[] #[]] W fun e w' => e = .returned (.int .i64 0) ∧ Below W.heap.size W w') := fun W hW => indexFor_is cf b 0 2 cap W (hcf.block (hW.block b hb)) (by decide) (by decide) ((hW.cell (p := ⟨cf.pb, cf.po, none⟩) hkfb).trans hkf) (Nat.lt_of_lt_of_le hkfb hW.size)
  clear hl hcf hcw hkf hkw hnm hat hdo
  refine (callsIn_wide (n := 3)).1 ?_
  refine callsIn_of_wp_marks Tryd.func42 rfl trivial ?_ rfl
  simp only [Tryd.ntmps42, List.size_toArray, List.length_cons, List.length_nil, Nat.reduceAdd, Nat.reduceSub, Array.replicate_succ, Array.replicate_zero, List.push_toArray, List.append_toArray, List.nil_append, List.cons_append]
  gi_wp2_with (refine ⟨trivial, ?_⟩; gi_at_call 62; refine (callsIn_wide.2 (CI.out _ ?_)).mono ?_; (· exact ((((Below.refl _ w).alloc (Nat.le_refl _) _).alloc (by simp) _).alloc (by simp; omega) _).alloc (by simp; omega) _); rintro e w1 ⟨rfl, hb1⟩)
  have HB1 : Hid (Below w.heap.size w w1) := Below.trans (((((Below.refl _ w).alloc (Nat.le_refl _) _).alloc (by simp) _).alloc (by simp; omega) _).alloc (by simp; omega) _) (hb1.mono (by simp; omega))
  have HA1 : Hid (w1.heap[w.heap.size]? = some (.cells #[.pointer (some ⟨lb, 0, none⟩)] 57)) := blC hb1 (by simp; omega) (aOld (aOld (aOld (aNew rfl))))
  have HC1 : Hid (w1.heap[w.heap.size + 1]? = some (.cells #[.pointer (some ⟨co.pb, co.po, none⟩), .int .i64 (co.k), .int .i64 (co.it.kind), .int .i64 (co.it.n), .string co.it.s, .string co.nm, .string co.at_, .int .i64 (co.n), .int .i64 (co.ax), .int .i64 (co.tk), .string co.tn, .slice co.aa co.am co.ac] 82)) := blC hb1 (by simp) (aOld (aOld (aNew (by simp))))
  have HY1 : Hid (w1.heap[w.heap.size + 2]? = some (.cells #[.int .i64 (k2), .int .i64 (i2.kind), .int .i64 (i2.n), .string i2.s, .string nm2, .string at2, .int .i64 (g2), .int .i64 (ax2), .int .i64 (tk2), .string tn2, .slice aa2 am2 ac2] 39)) := blC hb1 (by simp) (aOld (aNew (by simp)))
  have HR1 : Hid (w1.heap[w.heap.size + 3]? = some (.cells #[.int .i64 0, .int .i64 0, .int .i64 0, .string ⟨#[]⟩, .string ⟨#[]⟩, .string ⟨#[]⟩, .int .i64 0, .int .i64 0, .int .i64 0, .string ⟨#[]⟩, .slice none 0 0] 39)) := blC hb1 (by simp) (aNew (by simp))
  have HL1 : Hid (w1.heap[lb]? = some (.cells #[m1, m2, m3, .int .i64 (p : Int), .int .i64 0] 49)) := blC HB1.out l6 HL.out
  have hz4 : w.heap.size + 4 ≤ w1.heap.size := by have := hb1.size; simp at this; omega
  obtain ⟨W1, rfl⟩ : ∃ W, W = w1 := ⟨_, rfl⟩
  clear hb1
  replace HF := hidC (HF.out.block (HB1.out.block b hb))
  replace HW := hidC (HW.out.block (HB1.out.block b hb))
  obtain ⟨ob, hob⟩ : ∃ o, W1.heap[b]? = some o := ⟨_, Array.getElem?_eq_getElem (Nat.lt_of_lt_of_le hb HB1.out.size)⟩
  have HOB := hidC hob
  have hz1 := HB1.out.size
  have hcap1 : ¬ cap = 1 := by omega
  clear hob
  refine wpIn_wide.2 ?_
  refine wp_region_slots (by kernel_rfl) (fun j v W => (match j with | 0 => v = (.slice (some ⟨b, 0, none⟩) 2 cap) | 1 => v = (.int .i64 0) | 2 => v = (.pointer (some ⟨b, 0, none⟩)) | 3 => v = (.agg #[.pointer (some ⟨cf.pb, cf.po, none⟩), .int .i64 (cf.k), .int .i64 (cf.it.kind), .int .i64 (cf.it.n), .string cf.it.s, .string cf.nm, .string cf.at_, .int .i64 (cf.n), .int .i64 (cf.ax), .int .i64 (cf.tk), .string cf.tn, .slice cf.aa cf.am cf.ac]) | 4 => v = (.slice (some ⟨b, 0, none⟩) 2 cap) | 5 => v = (.int .i64 0) | 6 => v = (.int .i64 1) | 7 => v = (.slice (some ⟨b, 12, none⟩) (1) (cap - 1)) | 10 => v = (.slice (some ⟨b, 12, none⟩) (1) (cap - 1)) | _ => True)) (fun l a W => Below W1.heap.size W1 W ∧ W1.heap.size ≤ W.heap.size ∧ W.heap[b]? = some (ob) ∧ (l.getD 8 false = true → ∃ T8, a.tmps[10]? = some (.pointer (some ⟨T8, 0, none⟩)) ∧ W1.heap.size ≤ T8 ∧ W.heap[T8]? = some (if l.getD 9 false = true then (.cells #[.pointer (some ⟨cf.pb, cf.po, none⟩), .int .i64 (cf.k), .int .i64 (cf.it.kind), .int .i64 (cf.it.n), .string cf.it.s, .string cf.nm, .string cf.at_, .int .i64 (cf.n), .int .i64 (cf.ax), .int .i64 (cf.tk), .string cf.tn, .slice cf.aa cf.am cf.ac] 82) else (.cells #[.pointer none, .int .i64 0, .int .i64 0, .int .i64 0, .string ⟨#[]⟩, .string ⟨#[]⟩, .string ⟨#[]⟩, .int .i64 0, .int .i64 0, .int .i64 0, .string ⟨#[]⟩, .slice none 0 0] 82)))) (by kernel_rfl) (by kernel_rfl) ⟨(Below.refl _ _).trans ⟨rfl, rfl, rfl, Nat.le_refl _, fun _ _ => rfl⟩, Nat.le_refl _, HOB.out, fun e7 => by rw [Array.getD_eq_getD_getElem?, Array.getElem?_replicate] at e7; split at e7 <;> cases e7⟩ ?_ ?_
  · intro l a W i o hsz h ho hl haf
    obtain ⟨g1, g0, b0, q8⟩ := h.more
    have gz : W1.heap.size ≤ W.heap.size := Nat.le_trans (by first | exact Nat.le_refl _ | omega) g0
    have hi : i < 11 := (Array.getElem?_eq_some_iff.1 ho).1
    obtain rfl | rfl | rfl | rfl | rfl | rfl | rfl | rfl | rfl | rfl | rfl : i = 0 ∨ i = 1 ∨ i = 2 ∨ i = 3 ∨ i = 4 ∨ i = 5 ∨ i = 6 ∨ i = 7 ∨ i = 8 ∨ i = 9 ∨ i = 10 := by omega
    all_goals (obtain rfl := Option.some.inj ho; rw [if_pos (want_none rfl)])
    · have e1 := h.given 1 _ rfl (by kernel_rfl)
      refine wp_val (v := .slice (some ⟨b, 0, none⟩) 2 cap) (w' := W) ?_ ⟨_, rfl, rfl, fun _ _ h => h, g1, g0, b0, (fun e7 => by rw [set_other_get (by decide)] at e7; obtain ⟨T, t1, t2, t3⟩ := q8 e7; exact ⟨T, (put_other (by decide)).trans t1, t2, by simp only [set_other_get (show 0 ≠ 9 by decide)]; exact t3⟩)⟩
      unfold execOp
      simp [e1, go_sem]
    · have e9 := h.given 9 _ rfl (by kernel_rfl)
      refine wp_val (v := .int .i64 0) (w' := W) ?_ ⟨_, rfl, rfl, fun _ _ h => h, g1, g0, b0, (fun e7 => by rw [set_other_get (by decide)] at e7; obtain ⟨T, t1, t2, t3⟩ := q8 e7; exact ⟨T, (put_other (by decide)).trans t1, t2, by simp only [set_other_get (show 1 ≠ 9 by decide)]; exact t3⟩)⟩
      unfold execOp
      simp [e9, go_sem]
    · obtain ⟨u18, e18, x18⟩ := h.new 0 _ 18 rfl rfl (haf ⟨0, .data⟩ (by simp) rfl)
      have y18 : u18 = (.slice (some ⟨b, 0, none⟩) 2 cap) := x18
      subst y18
      obtain ⟨u19, e19, x19⟩ := h.new 1 _ 19 rfl rfl (haf ⟨1, .data⟩ (by simp) rfl)
      have y19 : u19 = (.int .i64 0) := x19
      subst y19
      refine wp_val (v := .pointer (some ⟨b, 0, none⟩)) (w' := W) ?_ ⟨_, rfl, rfl, fun _ _ h => h, g1, g0, b0, (fun e7 => by rw [set_other_get (by decide)] at e7; obtain ⟨T, t1, t2, t3⟩ := q8 e7; exact ⟨T, (put_other (by decide)).trans t1, t2, by simp only [set_other_get (show 2 ≠ 9 by decide)]; exact t3⟩)⟩
      unfold execOp
      simp [e18, e19, go_sem]
    · obtain ⟨u20, e20, x20⟩ := h.new 2 _ 20 rfl rfl (haf ⟨2, .data⟩ (by simp) rfl)
      have y20 : u20 = (.pointer (some ⟨b, 0, none⟩)) := x20
      subst y20
      have c_ := b0
      obtain ⟨c0, c1, c2, c3, c4, c5, c6, c7, c8, c9, c10, c11⟩ := HF.out.block (c_.trans HOB.out.symm)
      refine wp_val (v := .agg #[.pointer (some ⟨cf.pb, cf.po, none⟩), .int .i64 (cf.k), .int .i64 (cf.it.kind), .int .i64 (cf.it.n), .string cf.it.s, .string cf.nm, .string cf.at_, .int .i64 (cf.n), .int .i64 (cf.ax), .int .i64 (cf.tk), .string cf.tn, .slice cf.aa cf.am cf.ac]) (w' := W) ?_ ⟨_, rfl, rfl, fun _ _ h => h, g1, g0, b0, (fun e7 => by rw [set_other_get (by decide)] at e7; obtain ⟨T, t1, t2, t3⟩ := q8 e7; exact ⟨T, (put_other (by decide)).trans t1, t2, by simp only [set_other_get (show 3 ≠ 9 by decide)]; exact t3⟩)⟩
      unfold execOp
      simp [e20, c0, c1, c2, c3, c4, c5, c6, c7, c8, c9, c10, c11, go_sem]
    · have e1 := h.given 1 _ rfl (by kernel_rfl)
      refine wp_val (v := .slice (some ⟨b, 0, none⟩) 2 cap) (w' := W) ?_ ⟨_, rfl, rfl, fun _ _ h => h, g1, g0, b0, (fun e7 => by rw [set_other_get (by decide)] at e7; obtain ⟨T, t1, t2, t3⟩ := q8 e7; exact ⟨T, (put_other (by decide)).trans t1, t2, by simp only [set_other_get (show 4 ≠ 9 by decide)]; exact t3⟩)⟩
      unfold execOp
      simp [e1, go_sem]
    · have e9 := h.given 9 _ rfl (by kernel_rfl)
      refine wp_val (v := .int .i64 0) (w' := W) ?_ ⟨_, rfl, rfl, fun _ _ h => h, g1, g0, b0, (fun e7 => by rw [set_other_get (by decide)] at e7; obtain ⟨T, t1, t2, t3⟩ := q8 e7; exact ⟨T, (put_other (by decide)).trans t1, t2, by simp only [set_other_get (show 5 ≠ 9 by decide)]; exact t3⟩)⟩
      unfold execOp
      simp [e9, go_sem]
    · obtain ⟨u23, e23, x23⟩ := h.new 5 _ 23 rfl rfl (haf ⟨5, .data⟩ (by simp) rfl)
      have y23 : u23 = (.int .i64 0) := x23
      subst y23
      refine wp_val (v := .int .i64 1) (w' := W) ?_ ⟨_, rfl, rfl, fun _ _ h => h, g1, g0, b0, (fun e7 => by rw [set_other_get (by decide)] at e7; obtain ⟨T, t1, t2, t3⟩ := q8 e7; exact ⟨T, (put_other (by decide)).trans t1, t2, by simp only [set_other_get (show 6 ≠ 9 by decide)]; exact t3⟩)⟩
      unfold execOp
      simp [e23, go_sem] <;> rfl
    · obtain ⟨u22, e22, x22⟩ := h.new 4 _ 22 rfl rfl (haf ⟨4, .data⟩ (by simp) rfl)
      have y22 : u22 = (.slice (some ⟨b, 0, none⟩) 2 cap) := x22
      subst y22
      obtain ⟨u24, e24, x24⟩ := h.new 6 _ 24 rfl rfl (haf ⟨6, .data⟩ (by simp) rfl)
      have y24 : u24 = (.int .i64 1) := x24
      subst y24
      refine wp_val (v := .slice (some ⟨b, 12, none⟩) (1) (cap - 1)) (w' := W) ?_ ⟨_, rfl, rfl, fun _ _ h => h, g1, g0, b0, (fun e7 => by rw [set_other_get (by decide)] at e7; obtain ⟨T, t1, t2, t3⟩ := q8 e7; exact ⟨T, (put_other (by decide)).trans t1, t2, by simp only [set_other_get (show 7 ≠ 9 by decide)]; exact t3⟩)⟩
      unfold execOp
      simp [e22, e24, go_sem, hcap1]
    · have m9 := h.later 9 8 _ ⟨8, .phase⟩ rfl (by simp) rfl rfl hl
      refine wp_val (v := .pointer (some ⟨W.heap.size, 0, none⟩)) (w' := W.alloc (.cells #[.pointer none, .int .i64 0, .int .i64 0, .int .i64 0, .string ⟨#[]⟩, .string ⟨#[]⟩, .string ⟨#[]⟩, .int .i64 0, .int .i64 0, .int .i64 0, .string ⟨#[]⟩, .slice none 0 0] 82)) ?_ ⟨_, rfl, trivial, fun _ _ h => h, g1.alloc gz _, by simp; omega, aOld b0, (fun _ => ⟨W.heap.size, put_this (by rw [h.size]; exact (by decide : (10 : Nat) < 83)), g0, by rw [if_neg (show ¬ (l.setIfInBounds 8 true).getD 9 false = true by rw [set_other_get (by decide), m9]; decide)]; exact aNew rfl⟩)⟩
      unfold execOp
      simp [go_sem]
    · obtain ⟨T8, t1_8, t2_8, t3_8⟩ := q8 (haf ⟨8, .phase⟩ (by simp) rfl)
      obtain ⟨u21, e21, x21⟩ := h.new 3 _ 21 rfl rfl (haf ⟨3, .phase⟩ (by simp) rfl)
      have y21 : u21 = (.agg #[.pointer (some ⟨cf.pb, cf.po, none⟩), .int .i64 (cf.k), .int .i64 (cf.it.kind), .int .i64 (cf.it.n), .string cf.it.s, .string cf.nm, .string cf.at_, .int .i64 (cf.n), .int .i64 (cf.ax), .int .i64 (cf.tk), .string cf.tn, .slice cf.aa cf.am cf.ac]) := x21
      subst y21
      have m9 : l.getD 9 false = false := by rw [Array.getD_eq_getD_getElem?] at hl ⊢; cases hx : l[9]? with | none => rfl | some bb => rw [hx] at hl; exact hl
      have c_ := t3_8
      rw [if_neg (show ¬ l.getD 9 false = true by rw [m9]; decide)] at c_
      obtain ⟨z0, z1, z2, z3, z4, z5, z6, z7, z8, z9, z10, z11, zf⟩ := bk12f c_
      obtain ⟨W', hW'⟩ : ∃ V, V = ((((((((((((W).setCell ⟨T8, 0, none⟩ (.pointer (some ⟨cf.pb, cf.po, none⟩))).setCell ⟨T8, 1, none⟩ (.int .i64 (cf.k))).setCell ⟨T8, 2, none⟩ (.int .i64 (cf.it.kind))).setCell ⟨T8, 3, none⟩ (.int .i64 (cf.it.n))).setCell ⟨T8, 4, none⟩ (.string cf.it.s)).setCell ⟨T8, 5, none⟩ (.string cf.nm)).setCell ⟨T8, 6, none⟩ (.string cf.at_)).setCell ⟨T8, 7, none⟩ (.int .i64 (cf.n))).setCell ⟨T8, 8, none⟩ (.int .i64 (cf.ax))).setCell ⟨T8, 9, none⟩ (.int .i64 (cf.tk))).setCell ⟨T8, 10, none⟩ (.string cf.tn)).setCell ⟨T8, 11, none⟩ (.slice cf.aa cf.am cf.ac) := ⟨_, rfl⟩
      have hP : W' = putL W (T8) 0 [.pointer (some ⟨cf.pb, cf.po, none⟩), .int .i64 (cf.k), .int .i64 (cf.it.kind), .int .i64 (cf.it.n), .string cf.it.s, .string cf.nm, .string cf.at_, .int .i64 (cf.n), .int .i64 (cf.ax), .int .i64 (cf.tk), .string cf.tn, .slice cf.aa cf.am cf.ac] := hW'
      refine wp_skip (w' := W') ?_ ⟨undef, rfl, trivial, fun _ _ h => h, (by rw [hP]; exact putL_below (by omega) _ _ _ g1), Nat.le_trans g0 (by rw [hP]; exact (putL_below (B := 0) (w0 := W) (Nat.zero_le _) _ _ _ (Below.refl _ _)).size), (by rw [hP]; exact (putL_other (by omega) _ _ _).trans (b0)), (fun _ => ⟨T8, t1_8, t2_8, by rw [if_pos (set_this_get (i := 9) (n := 11) hsz (by decide))]; exact (by rw [hP]; exact putL_same c_ _ rfl)⟩)⟩
      rw [hW']
      clear hP hW'
      unfold execOp
      simp [t1_8, e21, z0, z1, z2, z3, z4, z5, z6, z7, z8, z9, z10, z11, zf, go_sem]
    · obtain ⟨u25, e25, x25⟩ := h.new 7 _ 25 rfl rfl (haf ⟨7, .phase⟩ (by simp) rfl)
      have y25 : u25 = (.slice (some ⟨b, 12, none⟩) (1) (cap - 1)) := x25
      subst y25
      refine wp_val (v := .slice (some ⟨b, 12, none⟩) (1) (cap - 1)) (w' := W) ?_ ⟨_, rfl, rfl, fun _ _ h => h, g1, g0, b0, (fun e7 => by rw [set_other_get (by decide)] at e7; obtain ⟨T, t1, t2, t3⟩ := q8 e7; exact ⟨T, (put_other (by decide)).trans t1, t2, by simp only [set_other_get (show 10 ≠ 9 by decide)]; exact t3⟩)⟩
      unfold execOp
      simp [e25, go_sem]
  · intro v W2 hv hs hg
    obtain ⟨u1, u0, y0, y8⟩ := hg
    obtain ⟨T, t1, t2, t3⟩ := y8 rfl
    have e8 : v 8 = .pointer (some ⟨T, 0, none⟩) := Option.some.inj ((hs 8 _ 10 rfl rfl).symm.trans t1)
    have e10 : v 10 = .slice (some ⟨b, 12, none⟩) 1 (cap - 1) := hv 10 _ 11 rfl rfl
    have HT : Hid (W2.heap[T]? = some (.cells #[.pointer (some ⟨cf.pb, cf.po, none⟩), .int .i64 (cf.k), .int .i64 (cf.it.kind), .int .i64 (cf.it.n), .string cf.it.s, .string cf.nm, .string cf.at_, .int .i64 (cf.n), .int .i64 (cf.ax), .int .i64 (cf.tk), .string cf.tn, .slice cf.aa cf.am cf.ac] 82)) := t3
    have HB2 := hidC u1
    have HOB2 := hidC y0
    simp only [putAll, Act.put, List.setIfInBounds_toArray, List.set_cons_succ, List.set_cons_zero]
    rw [e8, e10]
    generalize v 0 = v0, v 1 = v1, v 2 = v2, v 3 = v3, v 4 = v4, v 5 = v5, v 6 = v6, v 7 = v7 at *
    have HA2 := hidC (blC u1 (by omega) HA1.out)
    have HC2 := hidC (blC u1 (by omega) HC1.out)
    have HY2 := hidC (blC u1 (by omega) HY1.out)
    have HR2 := hidC (blC u1 (by omega) HR1.out)
    have HL2 := hidC (blC u1 (by omega) HL1.out)
    obtain ⟨o0, o1, o2, o3, o4, o5, o6, o7, o8, o9, o10, o11⟩ := bk12 HC2.out
    clear hv hs t1 t3 e8 e10 y8 u1 y0
    gi_wp2_with (refine ⟨trivial, ?_⟩; gi_at_call 64; refine (callsIn_wide.2 (backward_is _ _ _ _)).mono ?_; rintro e w1 ⟨rfl, rfl⟩)
    obtain ⟨W3, hW3⟩ : ∃ W, W = (W2.alloc (.cells #[.int .i64 (co.k), .int .i64 (co.it.kind), .int .i64 (co.it.n), .string co.it.s, .string co.nm, .string co.at_, .int .i64 (co.n), .int .i64 (co.ax), .int .i64 (co.tk), .string co.tn, .slice co.aa co.am co.ac] 39)).alloc (.cells #[.slice (some ⟨b, 12, none⟩) 1 (cap - 1)] 79) := ⟨_, rfl⟩
    have HKY3 : Hid (W3.heap[W2.heap.size]? = some (.cells #[.int .i64 (co.k), .int .i64 (co.it.kind), .int .i64 (co.it.n), .string co.it.s, .string co.nm, .string co.at_, .int .i64 (co.n), .int .i64 (co.ax), .int .i64 (co.tk), .string co.tn, .slice co.aa co.am co.ac] 39)) := by rw [hW3]; exact aOld (aNew rfl)
    have HS3 : Hid (W3.heap[W2.heap.size + 1]? = some (.cells #[.slice (some ⟨b, 12, none⟩) 1 (cap - 1)] 79)) := by rw [hW3]; exact aNew (by simp)
    have HB3 : Hid (Below W2.heap.size W2 W3) := by rw [hW3]; exact ((Below.refl _ _).alloc (Nat.le_refl _) _).alloc (by simp) _
    have hz3 : W3.heap.size = W2.heap.size + 2 := by rw [hW3]; simp
    have HB03 : Hid (Below w.heap.size w W3) := HB1.out.trans ((HB2.out.mono (by omega)).trans (HB3.out.mono (by omega)))
    have HW3 := hidC (HW.out.block ((HB3.out.block b (by omega)).trans (HOB2.out.trans HOB.out.symm)))
    have KW3 := hidC ((HB03.out.cell (p := ⟨cw.pb, cw.po, none⟩) hkwb).trans KW.out)
    rw [← hW3]
    clear hW3 o0 o1 o2 o3 o4 o5 o6 o7 o8 o9 o10 o11 CI HF HW
    refine wpIn_rangeFunc_ownH rfl (by decide) (gf := 70) (lb := #[.pointer (some ⟨W2.heap.size + 1, 0, none⟩)]) rfl trivial (enters_of Tryd.func70 (by kernel_rfl) rfl) (backward_stops Fence.wide _ trivial rfl (by decide) (W2.heap.size + 1) b 12 1 (cap - 1) (fun _ => cw) (by decide) W3 HS3.out (fun j hj => by obtain rfl : j = 0 := (by omega); exact HW3.out) (by omega)) (fun h k => h.trans k) (two_b (by omega) (by omega)) (Below.refl _ _) (fun _ => rfl)
      (fun _ W => Below W3.heap.size W3 W) (fun _ _ _ => False) (ownFrom_below (Nat.le_refl _) (Nat.le_refl _)) (fun _ _ _ _ _ hs _ _ => hs) (Below.refl _ _)
      (fun x a' W => ∃ T', W3.heap.size ≤ T' ∧ W.heap[T']? = some (.cells #[.pointer (some ⟨cw.pb, cw.po, none⟩), .int .i64 (cw.k), .int .i64 (cw.it.kind), .int .i64 (cw.it.n), .string cw.it.s, .string cw.nm, .string cw.at_, .int .i64 (cw.n), .int .i64 (cw.ax), .int .i64 (cw.tk), .string cw.tn, .slice cw.aa cw.am cw.ac] 82) ∧ a' = { tmps := #[.pointer (some ⟨lb, 0, none⟩), .slice (some ⟨b, 0, none⟩) 2 cap, .agg #[.pointer (some ⟨co.pb, co.po, none⟩), .int .i64 (co.k), .int .i64 (co.it.kind), .int .i64 (co.it.n), .string co.it.s, .string co.nm, .string co.at_, .int .i64 (co.n), .int .i64 (co.ax), .int .i64 (co.tk), .string co.tn, .slice co.aa co.am co.ac], .agg #[.int .i64 (k2), .int .i64 (i2.kind), .int .i64 (i2.n), .string i2.s, .string nm2, .string at2, .int .i64 (g2), .int .i64 (ax2), .int .i64 (tk2), .string tn2, .slice aa2 am2 ac2], .pointer (some ⟨w.heap.size, 0, none⟩), undef, .pointer (some ⟨w.heap.size + 1, 0, none⟩), .pointer (some ⟨w.heap.size + 1 + 1, 0, none⟩), .pointer (some ⟨w.heap.size + 1 + 1 + 1, 0, none⟩), .int .i64 0, .pointer (some ⟨T, 0, none⟩), .slice (some ⟨b, 12, none⟩) 1 (cap - 1), .pointer (some ⟨W2.heap.size, 0, none⟩), undef, .pointer (some ⟨T', 0, none⟩), undef, .slice (some ⟨b, 0, none⟩) 2 cap, .int .i64 0, v0, v1, v2, v3, v4, v5, v6, v7, .pointer (some ⟨w.heap.size + 1, 1, none⟩), .agg #[.int .i64 (co.k), .int .i64 (co.it.kind), .int .i64 (co.it.n), .string co.it.s, .string co.nm, .string co.at_, .int .i64 (co.n), .int .i64 (co.ax), .int .i64 (co.tk), .string co.tn, .slice co.aa co.am co.ac], .slice (some ⟨b, 12, none⟩) 1 (cap - 1), .func (.func 70) #[] #[.pointer (some ⟨W2.heap.size + 1, 0, none⟩)], .int .i64 ((x : Nat) : Int), .agg #[.pointer (some ⟨cw.pb, cw.po, none⟩), .int .i64 (cw.k), .int .i64 (cw.it.kind), .int .i64 (cw.it.n), .string cw.it.s, .string cw.nm, .string cw.at_, .int .i64 (cw.n), .int .i64 (cw.ax), .int .i64 (cw.tk), .string cw.tn, .slice cw.aa cw.am cw.ac], undef, undef, undef, undef, undef, undef, undef, undef, undef, undef, undef, undef, undef, undef, undef, undef, undef, undef, undef, undef, undef, undef, undef, undef, undef, undef, undef, undef, undef, undef, undef, undef, undef, undef, undef, undef, undef, undef, undef, undef, undef, undef, undef, undef, undef, undef, undef, undef, undef, undef, undef], defers := [] })
      (fun x a' _ X Y row hs hg hr => by obtain ⟨T', e1, e2, e3⟩ := hs; exact ⟨T', e1, cells_kept e2 hg hr, e3⟩) ?assign ?body ?done ?stop
    case assign =>
      intro l pre x W K hi hK
      simp only [CV.val]
      gi_wp2
      have hzW := hi.size
      exact hK _ _ ((KeepsOthers.alloc _ _).from _) ⟨Below.heap_alloc _ _ _ (by omega), Below.heap_alloc _ _ _ (by omega)⟩ (hi.alloc hzW _) ⟨W.heap.size, hzW, aNew rfl, rfl⟩
    case body =>
      rintro l pre x a' W4 hl ⟨r, hr⟩ hi ⟨T', hT, hTb, rfl⟩ hlt
      have k4 := (hi.cell (p := ⟨cw.pb, cw.po, none⟩) (show cw.pb < W3.heap.size by omega)).trans KW3.out
      obtain ⟨c0, _, _, _, _, _, _, _, _, _, _, _⟩ := bk12 hTb
      gi_wp2
      exact ⟨KeepsFrom.refl _ _, Two.refl _ _ _, hi⟩
    case done =>
      rintro D ys W5 hD hS hI hK
      gi_wp2
      have hz5 := hI.size
      have hD5 : D < W5.heap.size := (Array.getElem?_eq_some_iff.1 hK).1
      have hTz : T < W2.heap.size := (Array.getElem?_eq_some_iff.1 HT.out).1
      have HM5 : Hid (∀ x, x < W2.heap.size → W5.heap[x]? = W2.heap[x]?) := fun x hx => (hI.block x (by omega)).trans (HB3.out.block x hx)
      have HM0 : Hid (∀ x, x < w.heap.size → W5.heap[x]? = w.heap[x]?) := fun x hx => (HM5.out x (by omega)).trans ((HB2.out.block x (by omega)).trans (HB1.out.block x hx))
      have HA5 := hidC ((HM5.out _ (by omega)).trans HA2.out)
      have HC5 := hidC ((HM5.out _ (by omega)).trans HC2.out)
      have HY5 := hidC ((HM5.out _ (by omega)).trans HY2.out)
      have HR5 := hidC ((HM5.out _ (by omega)).trans HR2.out)
      have HL5 := hidC ((HM5.out _ (by omega)).trans HL2.out)
      have HT5 := hidC ((HM5.out _ hTz).trans HT.out)
      have HK5 := hidC ((hI.block _ (by omega)).trans HKY3.out)
      have HD5 := hidC hK
      have HBB5 : Hid (Below w.heap.size w W5) := HB03.out.trans (hI.mono (by omega))
      obtain ⟨obf, hobf⟩ : ∃ o, W5.heap[cf.pb]? = some o := ⟨_, Array.getElem?_eq_getElem (by omega)⟩
      have HOF := hidC hobf
      have NF5 := hidC ((cellq (o := cf.po + 1) (HM0.out cf.pb hkfb)).trans NF.out)
      have AF5 := hidC ((cellq (o := cf.po + 2) (HM0.out cf.pb hkfb)).trans AF.out)
      have HW5 := hidC (HW3.out.block (hI.block b (by omega)))
      clear hobf hI hK HM5 HA2 HC2 HY2 HR2 HL2 HT HKY3 HB1 HB2 HB3 HW3
      refine wpIn_wide.2 ?_
      refine wp_region_slots (by kernel_rfl) (fun j v W => (match j with | 0 => v = (.pointer (some ⟨T, 0, none⟩)) | 1 => v = (.pointer (some ⟨cf.pb, cf.po, none⟩)) | 2 => v = (.pointer (some ⟨cf.pb, cf.po, none⟩)) | 3 => v = (.pointer (some ⟨cf.pb, cf.po + 1, none⟩)) | 4 => v = (.string nmf) | 5 => v = (.pointer (some ⟨T, 0, none⟩)) | 6 => v = (.pointer (some ⟨cf.pb, cf.po, none⟩)) | 7 => v = (.pointer (some ⟨cf.pb, cf.po, none⟩)) | 8 => v = (.pointer (some ⟨cf.pb, cf.po + 2, none⟩)) | 9 => v = (.string atf) | 10 => v = (.agg #[.int .i64 6, .int .i64 0, .int .i64 0, .string ⟨#[]⟩, .string nmf, .string atf, .int .i64 0, .int .i64 0, .int .i64 0, .string ⟨#[]⟩, .slice none 0 0]) | _ => True)) (fun l a W => Below W5.heap.size W5 W ∧ W5.heap.size ≤ W.heap.size ∧ W.heap[T]? = some (.cells #[.pointer (some ⟨cf.pb, cf.po, none⟩), .int .i64 (cf.k), .int .i64 (cf.it.kind), .int .i64 (cf.it.n), .string cf.it.s, .string cf.nm, .string cf.at_, .int .i64 (cf.n), .int .i64 (cf.ax), .int .i64 (cf.tk), .string cf.tn, .slice cf.aa cf.am cf.ac] 82) ∧ W.heap[cf.pb]? = some (obf) ∧ (l.getD 11 false = true → ∃ T11, a.tmps[15]? = some (.pointer (some ⟨T11, 0, none⟩)) ∧ W5.heap.size ≤ T11 ∧ W.heap[T11]? = some (if l.getD 12 false = true then (.cells #[.int .i64 6, .int .i64 0, .int .i64 0, .string ⟨#[]⟩, .string nmf, .string atf, .int .i64 0, .int .i64 0, .int .i64 0, .string ⟨#[]⟩, .slice none 0 0] 39) else (.cells #[.int .i64 0, .int .i64 0, .int .i64 0, .string ⟨#[]⟩, .string ⟨#[]⟩, .string ⟨#[]⟩, .int .i64 0, .int .i64 0, .int .i64 0, .string ⟨#[]⟩, .slice none 0 0] 39)))) (by kernel_rfl) (by kernel_rfl) ⟨(Below.refl _ _).trans ⟨rfl, rfl, rfl, Nat.le_refl _, fun _ _ => rfl⟩, Nat.le_refl _, HT5.out, HOF.out, fun e7 => by rw [Array.getD_eq_getD_getElem?, Array.getElem?_replicate] at e7; split at e7 <;> cases e7⟩ ?_ ?_
      · intro l a W i o hsz h ho hl haf
        obtain ⟨g1, g0, b0, b1, q11⟩ := h.more
        have gz : W5.heap.size ≤ W.heap.size := Nat.le_trans (by first | exact Nat.le_refl _ | omega) g0
        have hi : i < 13 := (Array.getElem?_eq_some_iff.1 ho).1
        obtain rfl | rfl | rfl | rfl | rfl | rfl | rfl | rfl | rfl | rfl | rfl | rfl | rfl : i = 0 ∨ i = 1 ∨ i = 2 ∨ i = 3 ∨ i = 4 ∨ i = 5 ∨ i = 6 ∨ i = 7 ∨ i = 8 ∨ i = 9 ∨ i = 10 ∨ i = 11 ∨ i = 12 := by omega
        all_goals (obtain rfl := Option.some.inj ho; rw [if_pos (want_none rfl)])
        · have e10 := h.given 10 _ rfl (by kernel_rfl)
          refine wp_val (v := .pointer (some ⟨T, 0, none⟩)) (w' := W) ?_ ⟨_, rfl, rfl, fun _ _ h => h, g1, g0, b0, b1, (fun e7 => by rw [set_other_get (by decide)] at e7; obtain ⟨T, t1, t2, t3⟩ := q11 e7; exact ⟨T, (put_other (by decide)).trans t1, t2, by simp only [set_other_get (show 0 ≠ 12 by decide)]; exact t3⟩)⟩
          unfold execOp
          simp [e10, go_sem]
        · obtain ⟨u50, e50, x50⟩ := h.new 0 _ 50 rfl rfl (haf ⟨0, .data⟩ (by simp) rfl)
          have y50 : u50 = (.pointer (some ⟨T, 0, none⟩)) := x50
          subst y50
          have c_ := b0
          obtain ⟨c0, c1, c2, c3, c4, c5, c6, c7, c8, c9, c10, c11⟩ := bk12 c_
          refine wp_val (v := .pointer (some ⟨cf.pb, cf.po, none⟩)) (w' := W) ?_ ⟨_, rfl, rfl, fun _ _ h => h, g1, g0, b0, b1, (fun e7 => by rw [set_other_get (by decide)] at e7; obtain ⟨T, t1, t2, t3⟩ := q11 e7; exact ⟨T, (put_other (by decide)).trans t1, t2, by simp only [set_other_get (show 1 ≠ 12 by decide)]; exact t3⟩)⟩
          unfold execOp
          simp [e50, c0, go_sem]
        · obtain ⟨u51, e51, x51⟩ := h.new 1 _ 51 rfl rfl (haf ⟨1, .data⟩ (by simp) rfl)
          have y51 : u51 = (.pointer (some ⟨cf.pb, cf.po, none⟩)) := x51
          subst y51
          refine wp_val (v := .pointer (some ⟨cf.pb, cf.po, none⟩)) (w' := W) ?_ ⟨_, rfl, rfl, fun _ _ h => h, g1, g0, b0, b1, (fun e7 => by rw [set_other_get (by decide)] at e7; obtain ⟨T, t1, t2, t3⟩ := q11 e7; exact ⟨T, (put_other (by decide)).trans t1, t2, by simp only [set_other_get (show 2 ≠ 12 by decide)]; exact t3⟩)⟩
          unfold execOp
          simp [e51, go_sem]
        · obtain ⟨u52, e52, x52⟩ := h.new 2 _ 52 rfl rfl (haf ⟨2, .data⟩ (by simp) rfl)
          have y52 : u52 = (.pointer (some ⟨cf.pb, cf.po, none⟩)) := x52
          subst y52
          refine wp_val (v := .pointer (some ⟨cf.pb, cf.po + 1, none⟩)) (w' := W) ?_ ⟨_, rfl, rfl, fun _ _ h => h, g1, g0, b0, b1, (fun e7 => by rw [set_other_get (by decide)] at e7; obtain ⟨T, t1, t2, t3⟩ := q11 e7; exact ⟨T, (put_other (by decide)).trans t1, t2, by simp only [set_other_get (show 3 ≠ 12 by decide)]; exact t3⟩)⟩
          unfold execOp
          simp [e52, go_sem]
        · obtain ⟨u53, e53, x53⟩ := h.new 3 _ 53 rfl rfl (haf ⟨3, .data⟩ (by simp) rfl)
          have y53 : u53 = (.pointer (some ⟨cf.pb, cf.po + 1, none⟩)) := x53
          subst y53
          have c_ := b1
          have c_1 := (cellq (o := cf.po + 1) (c_.trans HOF.out.symm)).trans NF5.out; have c_2 := (cellq (o := cf.po + 2) (c_.trans HOF.out.symm)).trans AF5.out
          refine wp_val (v := .string nmf) (w' := W) ?_ ⟨_, rfl, rfl, fun _ _ h => h, g1, g0, b0, b1, (fun e7 => by rw [set_other_get (by decide)] at e7; obtain ⟨T, t1, t2, t3⟩ := q11 e7; exact ⟨T, (put_other (by decide)).trans t1, t2, by simp only [set_other_get (show 4 ≠ 12 by decide)]; exact t3⟩)⟩
          unfold execOp
          simp [e53, c_1, go_sem]
        · have e10 := h.given 10 _ rfl (by kernel_rfl)
          refine wp_val (v := .pointer (some ⟨T, 0, none⟩)) (w' := W) ?_ ⟨_, rfl, rfl, fun _ _ h => h, g1, g0, b0, b1, (fun e7 => by rw [set_other_get (by decide)] at e7; obtain ⟨T, t1, t2, t3⟩ := q11 e7; exact ⟨T, (put_other (by decide)).trans t1, t2, by simp only [set_other_get (show 5 ≠ 12 by decide)]; exact t3⟩)⟩
          unfold execOp
          simp [e10, go_sem]
        · obtain ⟨u55, e55, x55⟩ := h.new 5 _ 55 rfl rfl (haf ⟨5, .data⟩ (by simp) rfl)
          have y55 : u55 = (.pointer (some ⟨T, 0, none⟩)) := x55
          subst y55
          have c_ := b0
          obtain ⟨c0, c1, c2, c3, c4, c5, c6, c7, c8, c9, c10, c11⟩ := bk12 c_
          refine wp_val (v := .pointer (some ⟨cf.pb, cf.po, none⟩)) (w' := W) ?_ ⟨_, rfl, rfl, fun _ _ h => h, g1, g0, b0, b1, (fun e7 => by rw [set_other_get (by decide)] at e7; obtain ⟨T, t1, t2, t3⟩ := q11 e7; exact ⟨T, (put_other (by decide)).trans t1, t2, by simp only [set_other_get (show 6 ≠ 12 by decide)]; exact t3⟩)⟩
          unfold execOp
          simp [e55, c0, go_sem]
        · obtain ⟨u56, e56, x56⟩ := h.new 6 _ 56 rfl rfl (haf ⟨6, .data⟩ (by simp) rfl)
          have y56 : u56 = (.pointer (some ⟨cf.pb, cf.po, none⟩)) := x56
          subst y56
          refine wp_val (v := .pointer (some ⟨cf.pb, cf.po, none⟩)) (w' := W) ?_ ⟨_, rfl, rfl, fun _ _ h => h, g1, g0, b0, b1, (fun e7 => by rw [set_other_get (by decide)] at e7; obtain ⟨T, t1, t2, t3⟩ := q11 e7; exact ⟨T, (put_other (by decide)).trans t1, t2, by simp only [set_other_get (show 7 ≠ 12 by decide)]; exact t3⟩)⟩
          unfold execOp
          simp [e56, go_sem]
        · obtain ⟨u57, e57, x57⟩ := h.new 7 _ 57 rfl rfl (haf ⟨7, .data⟩ (by simp) rfl)
          have y57 : u57 = (.pointer (some ⟨cf.pb, cf.po, none⟩)) := x57
          subst y57
          refine wp_val (v := .pointer (some ⟨cf.pb, cf.po + 2, none⟩)) (w' := W) ?_ ⟨_, rfl, rfl, fun _ _ h => h, g1, g0, b0, b1, (fun e7 => by rw [set_other_get (by decide)] at e7; obtain ⟨T, t1, t2, t3⟩ := q11 e7; exact ⟨T, (put_other (by decide)).trans t1, t2, by simp only [set_other_get (show 8 ≠ 12 by decide)]; exact t3⟩)⟩
          unfold execOp
          simp [e57, go_sem]
        · obtain ⟨u58, e58, x58⟩ := h.new 8 _ 58 rfl rfl (haf ⟨8, .data⟩ (by simp) rfl)
          have y58 : u58 = (.pointer (some ⟨cf.pb, cf.po + 2, none⟩)) := x58
          subst y58
          have c_ := b1
          have c_1 := (cellq (o := cf.po + 1) (c_.trans HOF.out.symm)).trans NF5.out; have c_2 := (cellq (o := cf.po + 2) (c_.trans HOF.out.symm)).trans AF5.out
          refine wp_val (v := .string atf) (w' := W) ?_ ⟨_, rfl, rfl, fun _ _ h => h, g1, g0, b0, b1, (fun e7 => by rw [set_other_get (by decide)] at e7; obtain ⟨T, t1, t2, t3⟩ := q11 e7; exact ⟨T, (put_other (by decide)).trans t1, t2, by simp only [set_other_get (show 9 ≠ 12 by decide)]; exact t3⟩)⟩
          unfold execOp
          simp [e58, c_2, go_sem]
        · obtain ⟨u54, e54, x54⟩ := h.new 4 _ 54 rfl rfl (haf ⟨4, .data⟩ (by simp) rfl)
          have y54 : u54 = (.string nmf) := x54
          subst y54
          obtain ⟨u59, e59, x59⟩ := h.new 9 _ 59 rfl rfl (haf ⟨9, .data⟩ (by simp) rfl)
          have y59 : u59 = (.string atf) := x59
          subst y59
          refine wp_val (v := .agg #[.int .i64 6, .int .i64 0, .int .i64 0, .string ⟨#[]⟩, .string nmf, .string atf, .int .i64 0, .int .i64 0, .int .i64 0, .string ⟨#[]⟩, .slice none 0 0]) (w' := W) ?_ ⟨_, rfl, rfl, fun _ _ h => h, g1, g0, b0, b1, (fun e7 => by rw [set_other_get (by decide)] at e7; obtain ⟨T, t1, t2, t3⟩ := q11 e7; exact ⟨T, (put_other (by decide)).trans t1, t2, by simp only [set_other_get (show 10 ≠ 12 by decide)]; exact t3⟩)⟩
          unfold execOp
          simp [e54, e59, go_sem]
        · have m12 := h.later 12 11 _ ⟨11, .phase⟩ rfl (by simp) rfl rfl hl
          refine wp_val (v := .pointer (some ⟨W.heap.size, 0, none⟩)) (w' := W.alloc (.cells #[.int .i64 0, .int .i64 0, .int .i64 0, .string ⟨#[]⟩, .string ⟨#[]⟩, .string ⟨#[]⟩, .int .i64 0, .int .i64 0, .int .i64 0, .string ⟨#[]⟩, .slice none 0 0] 39)) ?_ ⟨_, rfl, trivial, fun _ _ h => h, g1.alloc gz _, by simp; omega, aOld b0, aOld b1, (fun _ => ⟨W.heap.size, put_this (by rw [h.size]; exact (by decide : (15 : Nat) < 83)), g0, by rw [if_neg (show ¬ (l.setIfInBounds 11 true).getD 12 false = true by rw [set_other_get (by decide), m12]; decide)]; exact aNew rfl⟩)⟩
          unfold execOp
          simp [go_sem]
        · obtain ⟨T11, t1_11, t2_11, t3_11⟩ := q11 (haf ⟨11, .phase⟩ (by simp) rfl)
          obtain ⟨u60, e60, x60⟩ := h.new 10 _ 60 rfl rfl (haf ⟨10, .phase⟩ (by simp) rfl)
          have y60 : u60 = (.agg #[.int .i64 6, .int .i64 0, .int .i64 0, .string ⟨#[]⟩, .string nmf, .string atf, .int .i64 0, .int .i64 0, .int .i64 0, .string ⟨#[]⟩, .slice none 0 0]) := x60
          subst y60
          have m12 : l.getD 12 false = false := by rw [Array.getD_eq_getD_getElem?] at hl ⊢; cases hx : l[12]? with | none => rfl | some bb => rw [hx] at hl; exact hl
          have c_ := t3_11
          rw [if_neg (show ¬ l.getD 12 false = true by rw [m12]; decide)] at c_
          obtain ⟨z0, z1, z2, z3, z4, z5, z6, z7, z8, z9, z10, zf, _⟩ := bk11 c_
          obtain ⟨W', hW'⟩ : ∃ V, V = (((((((((((W).setCell ⟨T11, 0, none⟩ (.int .i64 6)).setCell ⟨T11, 1, none⟩ (.int .i64 0)).setCell ⟨T11, 2, none⟩ (.int .i64 0)).setCell ⟨T11, 3, none⟩ (.string ⟨#[]⟩)).setCell ⟨T11, 4, none⟩ (.string nmf)).setCell ⟨T11, 5, none⟩ (.string atf)).setCell ⟨T11, 6, none⟩ (.int .i64 0)).setCell ⟨T11, 7, none⟩ (.int .i64 0)).setCell ⟨T11, 8, none⟩ (.int .i64 0)).setCell ⟨T11, 9, none⟩ (.string ⟨#[]⟩)).setCell ⟨T11, 10, none⟩ (.slice none 0 0) := ⟨_, rfl⟩
          have hP : W' = putL W (T11) 0 [.int .i64 6, .int .i64 0, .int .i64 0, .string ⟨#[]⟩, .string nmf, .string atf, .int .i64 0, .int .i64 0, .int .i64 0, .string ⟨#[]⟩, .slice none 0 0] := hW'
          refine wp_skip (w' := W') ?_ ⟨undef, rfl, trivial, fun _ _ h => h, (by rw [hP]; exact putL_below (by omega) _ _ _ g1), Nat.le_trans g0 (by rw [hP]; exact (putL_below (B := 0) (w0 := W) (Nat.zero_le _) _ _ _ (Below.refl _ _)).size), (by rw [hP]; exact (putL_other (by omega) _ _ _).trans (b0)), (by rw [hP]; exact (putL_other (by omega) _ _ _).trans (b1)), (fun _ => ⟨T11, t1_11, t2_11, by rw [if_pos (set_this_get (i := 12) (n := 13) hsz (by decide))]; exact (by rw [hP]; exact putL_same c_ _ rfl)⟩)⟩
          rw [hW']
          clear hP hW'
          unfold execOp
          simp [t1_11, e60, z0, z1, z2, z3, z4, z5, z6, z7, z8, z9, z10, zf, go_sem]
      · intro v W6 hv hs hg
        obtain ⟨u1, u0', yT, yF, y11⟩ := hg
        obtain ⟨X, t1, tX, t3⟩ := y11 rfl
        have e11 : v 11 = .pointer (some ⟨X, 0, none⟩) := Option.some.inj ((hs 11 _ 15 rfl rfl).symm.trans t1)
        have HX6 : Hid (W6.heap[X]? = some (.cells #[.int .i64 6, .int .i64 0, .int .i64 0, .string ⟨#[]⟩, .string nmf, .string atf, .int .i64 0, .int .i64 0, .int .i64 0, .string ⟨#[]⟩, .slice none 0 0] 39)) := t3
        simp only [putAll, Act.put, List.setIfInBounds_toArray, List.set_cons_succ, List.set_cons_zero]
        rw [e11]
        generalize v 0 = x0, v 1 = x1, v 2 = x2, v 3 = x3, v 4 = x4, v 5 = x5, v 6 = x6, v 7 = x7, v 8 = x8, v 9 = x9, v 10 = x10 at *
        have HA6 := hidC (blC u1 (by omega) HA5.out)
        have HC6 := hidC (blC u1 (by omega) HC5.out)
        have HY6 := hidC (blC u1 (by omega) HY5.out)
        have HR6 := hidC (blC u1 (by omega) HR5.out)
        have HL6 := hidC (blC u1 (by omega) HL5.out)
        have HT6 := hidC (blC u1 (by omega) HT5.out)
        have HK6 := hidC (blC u1 (by omega) HK5.out)
        have HD6 := hidC (blC u1 hD5 HD5.out)
        have HW6 := hidC (HW5.out.block (u1.block b (by omega)))
        have HM6 : Hid (∀ x, x < w.heap.size → W6.heap[x]? = w.heap[x]?) := fun x hx => (u1.block x (by omega)).trans (HM0.out x hx)
        have HBB6 : Hid (Below w.heap.size w W6) := HBB5.out.trans (u1.mono (by omega))
        have KW6 := hidC ((cellq (o := cw.po) (HM6.out cw.pb hkwb)).trans KW.out)
        have kd := (cellq (o := co.po + 3) (HM6.out co.pb hkob)).trans DO.out
        obtain ⟨o0, o1, o2, o3, o4, o5, o6, o7, o8, o9, o10, o11⟩ := bk12 HC6.out
        clear hv hs t1 t3 e11 y11 u1 yT yF HA5 HC5 HY5 HR5 HL5 HT5 HK5 HD5 HW5 HM0 HBB5 NF5 AF5 HOF
        gi_wp2
        have HL6c : W6.heap[lb]? = some (.cells #[m1, m2, m3, .int .i64 ((p + 3 * one ((Array.replicate 17 false).getD 12 false) + one ((Array.replicate 17 false).getD 14 false) : Nat) : Int), .int .i64 0] 49) := HL6.out
        have CA : Hid (∀ (W : World) (c : Nat), W.heap[lb]? = some (.cells #[m1, m2, m3, .int .i64 ((c : Nat) : Int), .int .i64 0] 49) → c + 3 ≤ 700 → (∀ x, x < W6.heap.size → x ≠ lb → x ≠ w.heap.size + 1 + 1 + 1 → W.heap[x]? = W6.heap[x]?) → W6.heap.size ≤ W.heap.size → Calls Tryd.prog 43 _ W _) := fun W c h1 h2 h3 h4 => around_where lb m1 m2 m3 c cw b 12 (cap - 1) k2 i2 nm2 at2 g2 ax2 tk2 tn2 aa2 am2 ac2 W h1 h2 (HW6.out.block (h3 b (by omega) hbl (by omega))) (by omega) hbl ((cellq (h3 cw.pb (by omega) hkwl (by omega))).trans KW6.out) (by omega) hkwl
        have CM : Hid (∀ (W : World) (c n13 : Nat), W.heap[lb]? = some (.cells #[m1, m2, m3, .int .i64 ((c : Nat) : Int), .int .i64 0] 49) → c + 1 ≤ 700 → Calls Tryd.prog 45 _ W _) := fun W c n13 h1 h2 => made_is lb m1 m2 m3 c 6 ⟨0, 0, ⟨#[]⟩⟩ nmf atf 0 0 0 ⟨#[]⟩ none 0 0 (some ⟨n13, 0, none⟩) 3 3 W h1 h2 (Nat.zero_le _) hnf haf (Nat.zero_le _)
        have CN : Hid (∀ (W : World) (c n13 : Nat), W.heap[lb]? = some (.cells #[m1, m2, m3, .int .i64 ((c : Nat) : Int), .int .i64 0] 49) → W6.heap.size ≤ W.heap.size → Calls Tryd.prog 43 _ W _) := fun W c n13 h1 h2 => around_none lb m1 m2 m3 c b 0 cap 6 ⟨0, 0, ⟨#[]⟩⟩ nmf atf 0 0 0 ⟨#[]⟩ (some ⟨n13, 0, none⟩) 3 3 W h1 (by omega)
        clear kd o0 o1 o2 o3 o4 o5 o6 o7 o8 o9 o10 o11
        refine wpIn_wide.2 ?_
        refine wp_region_slots (by kernel_rfl) (fun j v W => (match j with | 0 => v = (.pointer (some ⟨lb, 0, none⟩)) | 1 => v = (.slice (some ⟨b, 0, none⟩) 2 cap) | 2 => v = (.int .i64 0) | 3 => v = (.slice (some ⟨b, 0, none⟩) 0 cap) | 4 => v = (.pointer (some ⟨lb, 0, none⟩)) | 5 => v = (.agg #[.int .i64 6, .int .i64 0, .int .i64 0, .string ⟨#[]⟩, .string nmf, .string atf, .int .i64 0, .int .i64 0, .int .i64 0, .string ⟨#[]⟩, .slice none 0 0]) | 6 => v = (.pointer (some ⟨T, 1, none⟩)) | 7 => v = (.agg #[.int .i64 (cf.k), .int .i64 (cf.it.kind), .int .i64 (cf.it.n), .string cf.it.s, .string cf.nm, .string cf.at_, .int .i64 (cf.n), .int .i64 (cf.ax), .int .i64 (cf.tk), .string cf.tn, .slice cf.aa cf.am cf.ac]) | 8 => v = (.agg #[.int .i64 (co.k), .int .i64 (co.it.kind), .int .i64 (co.it.n), .string co.it.s, .string co.nm, .string co.at_, .int .i64 (co.n), .int .i64 (co.ax), .int .i64 (co.tk), .string co.tn, .slice co.aa co.am co.ac]) | 9 => v = (.pointer (some ⟨lb, 0, none⟩)) | 10 => v = (.slice (some ⟨b, 12, none⟩) (1) (cap - 1)) | 11 => v = (.agg #[.int .i64 (k2), .int .i64 (i2.kind), .int .i64 (i2.n), .string i2.s, .string nm2, .string at2, .int .i64 (g2), .int .i64 (ax2), .int .i64 (tk2), .string tn2, .slice aa2 am2 ac2]) | _ => True) ∧ (j = 12 → ∃ n12 n100 : Nat, v = (.agg #[.int .i64 7, .int .i64 0, .int .i64 0, .string ⟨#[]⟩, .string ⟨#[]⟩, .string ⟨#[]⟩, .int .i64 0, .int .i64 0, .int .i64 0, .string ⟨#[]⟩, .slice (some ⟨n12, 0, none⟩) 3 3]) ∧ W6.heap.size ≤ n12 ∧ W.heap[n12]? = some (.cells #[.int .i64 8, .int .i64 0, .int .i64 0, .string ⟨#[]⟩, .string ⟨#[98, 111, 111, 108, 101, 97, 110]⟩, .string ⟨#[]⟩, .int .i64 0, .int .i64 0, .int .i64 0, .string ⟨#[]⟩, .slice (some ⟨n100, 0, none⟩) 1 1, .int .i64 (k2), .int .i64 (i2.kind), .int .i64 (i2.n), .string i2.s, .string nm2, .string at2, .int .i64 (g2), .int .i64 (ax2), .int .i64 (tk2), .string tn2, .slice aa2 am2 ac2, .int .i64 3, .int .i64 0, .int .i64 0, .string ⟨#[]⟩, .string ⟨#[]⟩, .string ⟨#[]⟩, .int .i64 0, .int .i64 0, .int .i64 0, .string ⟨#[]⟩, .slice none 0 0] 39) ∧ W6.heap.size ≤ n100 ∧ W.heap[n100]? = some (.cells #[.int .i64 (cw.k), .int .i64 (cw.it.kind), .int .i64 (cw.it.n), .string cw.it.s, .string cw.nm, .string cw.at_, .int .i64 (cw.n), .int .i64 (cw.ax), .int .i64 (cw.tk), .string cw.tn, .slice cw.aa cw.am cw.ac] 39)) ∧ (j = 13 → ∃ n13 n12 n100 : Nat, v = (.slice (some ⟨n13, 0, none⟩) 3 3) ∧ W6.heap.size ≤ n13 ∧ W.heap[n13]? = some (.cells #[.int .i64 (cf.k), .int .i64 (cf.it.kind), .int .i64 (cf.it.n), .string cf.it.s, .string cf.nm, .string cf.at_, .int .i64 (cf.n), .int .i64 (cf.ax), .int .i64 (cf.tk), .string cf.tn, .slice cf.aa cf.am cf.ac, .int .i64 (co.k), .int .i64 (co.it.kind), .int .i64 (co.it.n), .string co.it.s, .string co.nm, .string co.at_, .int .i64 (co.n), .int .i64 (co.ax), .int .i64 (co.tk), .string co.tn, .slice co.aa co.am co.ac, .int .i64 7, .int .i64 0, .int .i64 0, .string ⟨#[]⟩, .string ⟨#[]⟩, .string ⟨#[]⟩, .int .i64 0, .int .i64 0, .int .i64 0, .string ⟨#[]⟩, .slice (some ⟨n12, 0, none⟩) 3 3] 39) ∧ W6.heap.size ≤ n12 ∧ W.heap[n12]? = some (.cells #[.int .i64 8, .int .i64 0, .int .i64 0, .string ⟨#[]⟩, .string ⟨#[98, 111, 111, 108, 101, 97, 110]⟩, .string ⟨#[]⟩, .int .i64 0, .int .i64 0, .int .i64 0, .string ⟨#[]⟩, .slice (some ⟨n100, 0, none⟩) 1 1, .int .i64 (k2), .int .i64 (i2.kind), .int .i64 (i2.n), .string i2.s, .string nm2, .string at2, .int .i64 (g2), .int .i64 (ax2), .int .i64 (tk2), .string tn2, .slice aa2 am2 ac2, .int .i64 3, .int .i64 0, .int .i64 0, .string ⟨#[]⟩, .string ⟨#[]⟩, .string ⟨#[]⟩, .int .i64 0, .int .i64 0, .int .i64 0, .string ⟨#[]⟩, .slice none 0 0] 39) ∧ W6.heap.size ≤ n100 ∧ W.heap[n100]? = some (.cells #[.int .i64 (cw.k), .int .i64 (cw.it.kind), .int .i64 (cw.it.n), .string cw.it.s, .string cw.nm, .string cw.at_, .int .i64 (cw.n), .int .i64 (cw.ax), .int .i64 (cw.tk), .string cw.tn, .slice cw.aa cw.am cw.ac] 39)) ∧ (j = 14 → ∃ n13 n12 n100 : Nat, v = (.agg #[.int .i64 6, .int .i64 0, .int .i64 0, .string ⟨#[]⟩, .string nmf, .string atf, .int .i64 0, .int .i64 0, .int .i64 0, .string ⟨#[]⟩, .slice (some ⟨n13, 0, none⟩) 3 3]) ∧ W6.heap.size ≤ n13 ∧ W.heap[n13]? = some (.cells #[.int .i64 (cf.k), .int .i64 (cf.it.kind), .int .i64 (cf.it.n), .string cf.it.s, .string cf.nm, .string cf.at_, .int .i64 (cf.n), .int .i64 (cf.ax), .int .i64 (cf.tk), .string cf.tn, .slice cf.aa cf.am cf.ac, .int .i64 (co.k), .int .i64 (co.it.kind), .int .i64 (co.it.n), .string co.it.s, .string co.nm, .string co.at_, .int .i64 (co.n), .int .i64 (co.ax), .int .i64 (co.tk), .string co.tn, .slice co.aa co.am co.ac, .int .i64 7, .int .i64 0, .int .i64 0, .string ⟨#[]⟩, .string ⟨#[]⟩, .string ⟨#[]⟩, .int .i64 0, .int .i64 0, .int .i64 0, .string ⟨#[]⟩, .slice (some ⟨n12, 0, none⟩) 3 3] 39) ∧ W6.heap.size ≤ n12 ∧ W.heap[n12]? = some (.cells #[.int .i64 8, .int .i64 0, .int .i64 0, .string ⟨#[]⟩, .string ⟨#[98, 111, 111, 108, 101, 97, 110]⟩, .string ⟨#[]⟩, .int .i64 0, .int .i64 0, .int .i64 0, .string ⟨#[]⟩, .slice (some ⟨n100, 0, none⟩) 1 1, .int .i64 (k2), .int .i64 (i2.kind), .int .i64 (i2.n), .string i2.s, .string nm2, .string at2, .int .i64 (g2), .int .i64 (ax2), .int .i64 (tk2), .string tn2, .slice aa2 am2 ac2, .int .i64 3, .int .i64 0, .int .i64 0, .string ⟨#[]⟩, .string ⟨#[]⟩, .string ⟨#[]⟩, .int .i64 0, .int .i64 0, .int .i64 0, .string ⟨#[]⟩, .slice none 0 0] 39) ∧ W6.heap.size ≤ n100 ∧ W.heap[n100]? = some (.cells #[.int .i64 (cw.k), .int .i64 (cw.it.kind), .int .i64 (cw.it.n), .string cw.it.s, .string cw.nm, .string cw.at_, .int .i64 (cw.n), .int .i64 (cw.ax), .int .i64 (cw.tk), .string cw.tn, .slice cw.aa cw.am cw.ac] 39)) ∧ (j = 15 → ∃ n13 n12 n100 : Nat, v = (.agg #[.int .i64 6, .int .i64 0, .int .i64 0, .string ⟨#[]⟩, .string nmf, .string atf, .int .i64 0, .int .i64 0, .int .i64 0, .string ⟨#[]⟩, .slice (some ⟨n13, 0, none⟩) 3 3]) ∧ W6.heap.size ≤ n13 ∧ W.heap[n13]? = some (.cells #[.int .i64 (cf.k), .int .i64 (cf.it.kind), .int .i64 (cf.it.n), .string cf.it.s, .string cf.nm, .string cf.at_, .int .i64 (cf.n), .int .i64 (cf.ax), .int .i64 (cf.tk), .string cf.tn, .slice cf.aa cf.am cf.ac, .int .i64 (co.k), .int .i64 (co.it.kind), .int .i64 (co.it.n), .string co.it.s, .string co.nm, .string co.at_, .int .i64 (co.n), .int .i64 (co.ax), .int .i64 (co.tk), .string co.tn, .slice co.aa co.am co.ac, .int .i64 7, .int .i64 0, .int .i64 0, .string ⟨#[]⟩, .string ⟨#[]⟩, .string ⟨#[]⟩, .int .i64 0, .int .i64 0, .int .i64 0, .string ⟨#[]⟩, .slice (some ⟨n12, 0, none⟩) 3 3] 39) ∧ W6.heap.size ≤ n12 ∧ W.heap[n12]? = some (.cells #[.int .i64 8, .int .i64 0, .int .i64 0, .string ⟨#[]⟩, .string ⟨#[98, 111, 111, 108, 101, 97, 110]⟩, .string ⟨#[]⟩, .int .i64 0, .int .i64 0, .int .i64 0, .string ⟨#[]⟩, .slice (some ⟨n100, 0, none⟩) 1 1, .int .i64 (k2), .int .i64 (i2.kind), .int .i64 (i2.n), .string i2.s, .string nm2, .string at2, .int .i64 (g2), .int .i64 (ax2), .int .i64 (tk2), .string tn2, .slice aa2 am2 ac2, .int .i64 3, .int .i64 0, .int .i64 0, .string ⟨#[]⟩, .string ⟨#[]⟩, .string ⟨#[]⟩, .int .i64 0, .int .i64 0, .int .i64 0, .string ⟨#[]⟩, .slice none 0 0] 39) ∧ W6.heap.size ≤ n100 ∧ W.heap[n100]? = some (.cells #[.int .i64 (cw.k), .int .i64 (cw.it.kind), .int .i64 (cw.it.n), .string cw.it.s, .string cw.nm, .string cw.at_, .int .i64 (cw.n), .int .i64 (cw.ax), .int .i64 (cw.tk), .string cw.tn, .slice cw.aa cw.am cw.ac] 39))) (fun l a W => Below lb W6 W ∧ W6.heap.size ≤ W.heap.size ∧ W.heap[w.heap.size]? = some (.cells #[.pointer (some ⟨lb, 0, none⟩)] 57) ∧ W.heap[X]? = some (.cells #[.int .i64 6, .int .i64 0, .int .i64 0, .string ⟨#[]⟩, .string nmf, .string atf, .int .i64 0, .int .i64 0, .int .i64 0, .string ⟨#[]⟩, .slice none 0 0] 39) ∧ W.heap[T]? = some (.cells #[.pointer (some ⟨cf.pb, cf.po, none⟩), .int .i64 (cf.k), .int .i64 (cf.it.kind), .int .i64 (cf.it.n), .string cf.it.s, .string cf.nm, .string cf.at_, .int .i64 (cf.n), .int .i64 (cf.ax), .int .i64 (cf.tk), .string cf.tn, .slice cf.aa cf.am cf.ac] 82) ∧ W.heap[W2.heap.size]? = some (.cells #[.int .i64 (co.k), .int .i64 (co.it.kind), .int .i64 (co.it.n), .string co.it.s, .string co.nm, .string co.at_, .int .i64 (co.n), .int .i64 (co.ax), .int .i64 (co.tk), .string co.tn, .slice co.aa co.am co.ac] 39) ∧ W.heap[w.heap.size + 1 + 1]? = some (.cells #[.int .i64 (k2), .int .i64 (i2.kind), .int .i64 (i2.n), .string i2.s, .string nm2, .string at2, .int .i64 (g2), .int .i64 (ax2), .int .i64 (tk2), .string tn2, .slice aa2 am2 ac2] 39) ∧ ((l.getD 16 false = false → W.heap[w.heap.size + 1 + 1 + 1]? = some (.cells #[.int .i64 0, .int .i64 0, .int .i64 0, .string ⟨#[]⟩, .string ⟨#[]⟩, .string ⟨#[]⟩, .int .i64 0, .int .i64 0, .int .i64 0, .string ⟨#[]⟩, .slice none 0 0] 39)) ∧ (l.getD 16 false = true → ∃ n13 n12 n100 : Nat, W.heap[w.heap.size + 1 + 1 + 1]? = some (.cells #[.int .i64 6, .int .i64 0, .int .i64 0, .string ⟨#[]⟩, .string nmf, .string atf, .int .i64 0, .int .i64 0, .int .i64 0, .string ⟨#[]⟩, .slice (some ⟨n13, 0, none⟩) 3 3] 39) ∧ W6.heap.size ≤ n13 ∧ W.heap[n13]? = some (.cells #[.int .i64 (cf.k), .int .i64 (cf.it.kind), .int .i64 (cf.it.n), .string cf.it.s, .string cf.nm, .string cf.at_, .int .i64 (cf.n), .int .i64 (cf.ax), .int .i64 (cf.tk), .string cf.tn, .slice cf.aa cf.am cf.ac, .int .i64 (co.k), .int .i64 (co.it.kind), .int .i64 (co.it.n), .string co.it.s, .string co.nm, .string co.at_, .int .i64 (co.n), .int .i64 (co.ax), .int .i64 (co.tk), .string co.tn, .slice co.aa co.am co.ac, .int .i64 7, .int .i64 0, .int .i64 0, .string ⟨#[]⟩, .string ⟨#[]⟩, .string ⟨#[]⟩, .int .i64 0, .int .i64 0, .int .i64 0, .string ⟨#[]⟩, .slice (some ⟨n12, 0, none⟩) 3 3] 39) ∧ W6.heap.size ≤ n12 ∧ W.heap[n12]? = some (.cells #[.int .i64 8, .int .i64 0, .int .i64 0, .string ⟨#[]⟩, .string ⟨#[98, 111, 111, 108, 101, 97, 110]⟩, .string ⟨#[]⟩, .int .i64 0, .int .i64 0, .int .i64 0, .string ⟨#[]⟩, .slice (some ⟨n100, 0, none⟩) 1 1, .int .i64 (k2), .int .i64 (i2.kind), .int .i64 (i2.n), .string i2.s, .string nm2, .string at2, .int .i64 (g2), .int .i64 (ax2), .int .i64 (tk2), .string tn2, .slice aa2 am2 ac2, .int .i64 3, .int .i64 0, .int .i64 0, .string ⟨#[]⟩, .string ⟨#[]⟩, .string ⟨#[]⟩, .int .i64 0, .int .i64 0, .int .i64 0, .string ⟨#[]⟩, .slice none 0 0] 39) ∧ W6.heap.size ≤ n100 ∧ W.heap[n100]? = some (.cells #[.int .i64 (cw.k), .int .i64 (cw.it.kind), .int .i64 (cw.it.n), .string cw.it.s, .string cw.nm, .string cw.at_, .int .i64 (cw.n), .int .i64 (cw.ax), .int .i64 (cw.tk), .string cw.tn, .slice cw.aa cw.am cw.ac] 39))) ∧ W.heap[lb]? = some (.cells #[m1, m2, m3, .int .i64 (((p + 3 * one (l.getD 12 false) + one (l.getD 14 false)) : Nat) : Int), .int .i64 0] 49) ∧ (∀ c, c < W6.heap.size → c ≠ lb → c ≠ w.heap.size + 1 + 1 + 1 → W.heap[c]? = W6.heap[c]?)) (by kernel_rfl) (by kernel_rfl) ⟨(Below.refl _ _).trans ⟨rfl, rfl, rfl, Nat.le_refl _, fun _ _ => rfl⟩, Nat.le_refl _, HA6.out, HX6.out, HT6.out, HK6.out, HY6.out, ⟨fun _ => HR6.out, fun e7 => by rw [Array.getD_eq_getD_getElem?, Array.getElem?_replicate] at e7; split at e7 <;> cases e7⟩, HL6c, fun c _ _ _ => rfl⟩ ?_ ?_
        · intro l a W i o hsz h ho hl haf
          obtain ⟨g1, g0, b0, b1, b2, b3, b4, b5, bc, gr⟩ := h.more
          have gz : lb ≤ W.heap.size := Nat.le_trans (by first | exact Nat.le_refl _ | omega) g0
          have hi : i < 17 := (Array.getElem?_eq_some_iff.1 ho).1
          obtain rfl | rfl | rfl | rfl | rfl | rfl | rfl | rfl | rfl | rfl | rfl | rfl | rfl | rfl | rfl | rfl | rfl : i = 0 ∨ i = 1 ∨ i = 2 ∨ i = 3 ∨ i = 4 ∨ i = 5 ∨ i = 6 ∨ i = 7 ∨ i = 8 ∨ i = 9 ∨ i = 10 ∨ i = 11 ∨ i = 12 ∨ i = 13 ∨ i = 14 ∨ i = 15 ∨ i = 16 := by omega
          all_goals (obtain rfl := Option.some.inj ho; rw [if_pos (want_none rfl)])
          · have e4 := h.given 4 _ rfl (by kernel_rfl)
            have m16 := h.later 16 0 _ ⟨0, .phase⟩ rfl (by simp) rfl rfl hl
            have c_ := b0
            have c0 := box1 c_
            refine wp_val (v := .pointer (some ⟨lb, 0, none⟩)) (w' := W) ?_ ⟨_, rfl, ⟨rfl, fun e => absurd e (by decide), fun e => absurd e (by decide), fun e => absurd e (by decide), fun e => absurd e (by decide)⟩, fun _ _ h => h, g1, g0, b0, b1, b2, b3, b4, ⟨fun _ => (b5.1 m16), fun e7 => absurd ((set_other_get (show 0 ≠ 16 by decide)).symm.trans e7) (by rw [m16]; decide)⟩, (by simp only [set_other_get (show 0 ≠ 12 by decide), set_other_get (show 0 ≠ 14 by decide)]; exact bc), (fun c h1 h2 h3 => gr c h1 h2 h3)⟩
            unfold execOp
            simp [e4, c0, go_sem]
          · have e1 := h.given 1 _ rfl (by kernel_rfl)
            have m16 := h.later 16 1 _ ⟨1, .phase⟩ rfl (by simp) rfl rfl hl
            refine wp_val (v := .slice (some ⟨b, 0, none⟩) 2 cap) (w' := W) ?_ ⟨_, rfl, ⟨rfl, fun e => absurd e (by decide), fun e => absurd e (by decide), fun e => absurd e (by decide), fun e => absurd e (by decide)⟩, fun _ _ h => h, g1, g0, b0, b1, b2, b3, b4, ⟨fun _ => (b5.1 m16), fun e7 => absurd ((set_other_get (show 1 ≠ 16 by decide)).symm.trans e7) (by rw [m16]; decide)⟩, (by simp only [set_other_get (show 1 ≠ 12 by decide), set_other_get (show 1 ≠ 14 by decide)]; exact bc), (fun c h1 h2 h3 => gr c h1 h2 h3)⟩
            unfold execOp
            simp [e1, go_sem]
          · have e9 := h.given 9 _ rfl (by kernel_rfl)
            have m16 := h.later 16 2 _ ⟨2, .phase⟩ rfl (by simp) rfl rfl hl
            refine wp_val (v := .int .i64 0) (w' := W) ?_ ⟨_, rfl, ⟨rfl, fun e => absurd e (by decide), fun e => absurd e (by decide), fun e => absurd e (by decide), fun e => absurd e (by decide)⟩, fun _ _ h => h, g1, g0, b0, b1, b2, b3, b4, ⟨fun _ => (b5.1 m16), fun e7 => absurd ((set_other_get (show 2 ≠ 16 by decide)).symm.trans e7) (by rw [m16]; decide)⟩, (by simp only [set_other_get (show 2 ≠ 12 by decide), set_other_get (show 2 ≠ 14 by decide)]; exact bc), (fun c h1 h2 h3 => gr c h1 h2 h3)⟩
            unfold execOp
            simp [e9, go_sem]
          · obtain ⟨u68, e68, x68⟩ := h.new 1 _ 68 rfl rfl (haf ⟨1, .data⟩ (by simp) rfl)
            have y68 : u68 = (.slice (some ⟨b, 0, none⟩) 2 cap) := x68.1
            subst y68
            obtain ⟨u69, e69, x69⟩ := h.new 2 _ 69 rfl rfl (haf ⟨2, .data⟩ (by simp) rfl)
            have y69 : u69 = (.int .i64 0) := x69.1
            subst y69
            have m16 := h.later 16 3 _ ⟨3, .phase⟩ rfl (by simp) rfl rfl hl
            refine wp_val (v := .slice (some ⟨b, 0, none⟩) 0 cap) (w' := W) ?_ ⟨_, rfl, ⟨rfl, fun e => absurd e (by decide), fun e => absurd e (by decide), fun e => absurd e (by decide), fun e => absurd e (by decide)⟩, fun _ _ h => h, g1, g0, b0, b1, b2, b3, b4, ⟨fun _ => (b5.1 m16), fun e7 => absurd ((set_other_get (show 3 ≠ 16 by decide)).symm.trans e7) (by rw [m16]; decide)⟩, (by simp only [set_other_get (show 3 ≠ 12 by decide), set_other_get (show 3 ≠ 14 by decide)]; exact bc), (fun c h1 h2 h3 => gr c h1 h2 h3)⟩
            unfold execOp
            simp [e68, e69, go_sem]
          · have e4 := h.given 4 _ rfl (by kernel_rfl)
            have m16 := h.later 16 4 _ ⟨4, .phase⟩ rfl (by simp) rfl rfl hl
            have c_ := b0
            have c0 := box1 c_
            refine wp_val (v := .pointer (some ⟨lb, 0, none⟩)) (w' := W) ?_ ⟨_, rfl, ⟨rfl, fun e => absurd e (by decide), fun e => absurd e (by decide), fun e => absurd e (by decide), fun e => absurd e (by decide)⟩, fun _ _ h => h, g1, g0, b0, b1, b2, b3, b4, ⟨fun _ => (b5.1 m16), fun e7 => absurd ((set_other_get (show 4 ≠ 16 by decide)).symm.trans e7) (by rw [m16]; decide)⟩, (by simp only [set_other_get (show 4 ≠ 12 by decide), set_other_get (show 4 ≠ 14 by decide)]; exact bc), (fun c h1 h2 h3 => gr c h1 h2 h3)⟩
            unfold execOp
            simp [e4, c0, go_sem]
          · have e15 := h.given 15 _ rfl (by kernel_rfl)
            have m16 := h.later 16 5 _ ⟨5, .phase⟩ rfl (by simp) rfl rfl hl
            have c_ := b1
            obtain ⟨c0, c1, c2, c3, c4, c5, c6, c7, c8, c9, c10, cf_, _⟩ := bk11 c_
            refine wp_val (v := .agg #[.int .i64 6, .int .i64 0, .int .i64 0, .string ⟨#[]⟩, .string nmf, .string atf, .int .i64 0, .int .i64 0, .int .i64 0, .string ⟨#[]⟩, .slice none 0 0]) (w' := W) ?_ ⟨_, rfl, ⟨rfl, fun e => absurd e (by decide), fun e => absurd e (by decide), fun e => absurd e (by decide), fun e => absurd e (by decide)⟩, fun _ _ h => h, g1, g0, b0, b1, b2, b3, b4, ⟨fun _ => (b5.1 m16), fun e7 => absurd ((set_other_get (show 5 ≠ 16 by decide)).symm.trans e7) (by rw [m16]; decide)⟩, (by simp only [set_other_get (show 5 ≠ 12 by decide), set_other_get (show 5 ≠ 14 by decide)]; exact bc), (fun c h1 h2 h3 => gr c h1 h2 h3)⟩
            unfold execOp
            simp [e15, c0, c1, c2, c3, c4, c5, c6, c7, c8, c9, c10, go_sem]
          · have e10 := h.given 10 _ rfl (by kernel_rfl)
            have m16 := h.later 16 6 _ ⟨6, .phase⟩ rfl (by simp) rfl rfl hl
            refine wp_val (v := .pointer (some ⟨T, 1, none⟩)) (w' := W) ?_ ⟨_, rfl, ⟨rfl, fun e => absurd e (by decide), fun e => absurd e (by decide), fun e => absurd e (by decide), fun e => absurd e (by decide)⟩, fun _ _ h => h, g1, g0, b0, b1, b2, b3, b4, ⟨fun _ => (b5.1 m16), fun e7 => absurd ((set_other_get (show 6 ≠ 16 by decide)).symm.trans e7) (by rw [m16]; decide)⟩, (by simp only [set_other_get (show 6 ≠ 12 by decide), set_other_get (show 6 ≠ 14 by decide)]; exact bc), (fun c h1 h2 h3 => gr c h1 h2 h3)⟩
            unfold execOp
            simp [e10, go_sem]
          · obtain ⟨u73, e73, x73⟩ := h.new 6 _ 73 rfl rfl (haf ⟨6, .data⟩ (by simp) rfl)
            have y73 : u73 = (.pointer (some ⟨T, 1, none⟩)) := x73.1
            subst y73
            have m16 := h.later 16 7 _ ⟨7, .phase⟩ rfl (by simp) rfl rfl hl
            have c_ := b2
            obtain ⟨c0, c1, c2, c3, c4, c5, c6, c7, c8, c9, c10, c11⟩ := bk12 c_
            refine wp_val (v := .agg #[.int .i64 (cf.k), .int .i64 (cf.it.kind), .int .i64 (cf.it.n), .string cf.it.s, .string cf.nm, .string cf.at_, .int .i64 (cf.n), .int .i64 (cf.ax), .int .i64 (cf.tk), .string cf.tn, .slice cf.aa cf.am cf.ac]) (w' := W) ?_ ⟨_, rfl, ⟨rfl, fun e => absurd e (by decide), fun e => absurd e (by decide), fun e => absurd e (by decide), fun e => absurd e (by decide)⟩, fun _ _ h => h, g1, g0, b0, b1, b2, b3, b4, ⟨fun _ => (b5.1 m16), fun e7 => absurd ((set_other_get (show 7 ≠ 16 by decide)).symm.trans e7) (by rw [m16]; decide)⟩, (by simp only [set_other_get (show 7 ≠ 12 by decide), set_other_get (show 7 ≠ 14 by decide)]; exact bc), (fun c h1 h2 h3 => gr c h1 h2 h3)⟩
            unfold execOp
            simp [e73, c1, c2, c3, c4, c5, c6, c7, c8, c9, c10, c11, go_sem]
          · have e12 := h.given 12 _ rfl (by kernel_rfl)
            have m16 := h.later 16 8 _ ⟨8, .phase⟩ rfl (by simp) rfl rfl hl
            have c_ := b3
            obtain ⟨c0, c1, c2, c3, c4, c5, c6, c7, c8, c9, c10, cf_, _⟩ := bk11 c_
            refine wp_val (v := .agg #[.int .i64 (co.k), .int .i64 (co.it.kind), .int .i64 (co.it.n), .string co.it.s, .string co.nm, .string co.at_, .int .i64 (co.n), .int .i64 (co.ax), .int .i64 (co.tk), .string co.tn, .slice co.aa co.am co.ac]) (w' := W) ?_ ⟨_, rfl, ⟨rfl, fun e => absurd e (by decide), fun e => absurd e (by decide), fun e => absurd e (by decide), fun e => absurd e (by decide)⟩, fun _ _ h => h, g1, g0, b0, b1, b2, b3, b4, ⟨fun _ => (b5.1 m16), fun e7 => absurd ((set_other_get (show 8 ≠ 16 by decide)).symm.trans e7) (by rw [m16]; decide)⟩, (by simp only [set_other_get (show 8 ≠ 12 by decide), set_other_get (show 8 ≠ 14 by decide)]; exact bc), (fun c h1 h2 h3 => gr c h1 h2 h3)⟩
            unfold execOp
            simp [e12, c0, c1, c2, c3, c4, c5, c6, c7, c8, c9, c10, go_sem]
          · have e4 := h.given 4 _ rfl (by kernel_rfl)
            have m16 := h.later 16 9 _ ⟨9, .phase⟩ rfl (by simp) rfl rfl hl
            have c_ := b0
            have c0 := box1 c_
            refine wp_val (v := .pointer (some ⟨lb, 0, none⟩)) (w' := W) ?_ ⟨_, rfl, ⟨rfl, fun e => absurd e (by decide), fun e => absurd e (by decide), fun e => absurd e (by decide), fun e => absurd e (by decide)⟩, fun _ _ h => h, g1, g0, b0, b1, b2, b3, b4, ⟨fun _ => (b5.1 m16), fun e7 => absurd ((set_other_get (show 9 ≠ 16 by decide)).symm.trans e7) (by rw [m16]; decide)⟩, (by simp only [set_other_get (show 9 ≠ 12 by decide), set_other_get (show 9 ≠ 14 by decide)]; exact bc), (fun c h1 h2 h3 => gr c h1 h2 h3)⟩
            unfold execOp
            simp [e4, c0, go_sem]
          · have e11 := h.given 11 _ rfl (by kernel_rfl)
            have m16 := h.later 16 10 _ ⟨10, .phase⟩ rfl (by simp) rfl rfl hl
            refine wp_val (v := .slice (some ⟨b, 12, none⟩) (1) (cap - 1)) (w' := W) ?_ ⟨_, rfl, ⟨rfl, fun e => absurd e (by decide), fun e => absurd e (by decide), fun e => absurd e (by decide), fun e => absurd e (by decide)⟩, fun _ _ h => h, g1, g0, b0, b1, b2, b3, b4, ⟨fun _ => (b5.1 m16), fun e7 => absurd ((set_other_get (show 10 ≠ 16 by decide)).symm.trans e7) (by rw [m16]; decide)⟩, (by simp only [set_other_get (show 10 ≠ 12 by decide), set_other_get (show 10 ≠ 14 by decide)]; exact bc), (fun c h1 h2 h3 => gr c h1 h2 h3)⟩
            unfold execOp
            simp [e11, go_sem]
          · have e7 := h.given 7 _ rfl (by kernel_rfl)
            have m16 := h.later 16 11 _ ⟨11, .phase⟩ rfl (by simp) rfl rfl hl
            have c_ := b4
            obtain ⟨c0, c1, c2, c3, c4, c5, c6, c7, c8, c9, c10, cf_, _⟩ := bk11 c_
            refine wp_val (v := .agg #[.int .i64 (k2), .int .i64 (i2.kind), .int .i64 (i2.n), .string i2.s, .string nm2, .string at2, .int .i64 (g2), .int .i64 (ax2), .int .i64 (tk2), .string tn2, .slice aa2 am2 ac2]) (w' := W) ?_ ⟨_, rfl, ⟨rfl, fun e => absurd e (by decide), fun e => absurd e (by decide), fun e => absurd e (by decide), fun e => absurd e (by decide)⟩, fun _ _ h => h, g1, g0, b0, b1, b2, b3, b4, ⟨fun _ => (b5.1 m16), fun e7 => absurd ((set_other_get (show 11 ≠ 16 by decide)).symm.trans e7) (by rw [m16]; decide)⟩, (by simp only [set_other_get (show 11 ≠ 12 by decide), set_other_get (show 11 ≠ 14 by decide)]; exact bc), (fun c h1 h2 h3 => gr c h1 h2 h3)⟩
            unfold execOp
            simp [e7, c0, c1, c2, c3, c4, c5, c6, c7, c8, c9, c10, go_sem]
          · obtain ⟨u76, e76, x76⟩ := h.new 9 _ 76 rfl rfl (haf ⟨9, .data⟩ (by simp) rfl)
            have y76 : u76 = (.pointer (some ⟨lb, 0, none⟩)) := x76.1
            subst y76
            obtain ⟨u77, e77, x77⟩ := h.new 10 _ 77 rfl rfl (haf ⟨10, .data⟩ (by simp) rfl)
            have y77 : u77 = (.slice (some ⟨b, 12, none⟩) (1) (cap - 1)) := x77.1
            subst y77
            obtain ⟨u78, e78, x78⟩ := h.new 11 _ 78 rfl rfl (haf ⟨11, .data⟩ (by simp) rfl)
            have y78 : u78 = (.agg #[.int .i64 (k2), .int .i64 (i2.kind), .int .i64 (i2.n), .string i2.s, .string nm2, .string at2, .int .i64 (g2), .int .i64 (ax2), .int .i64 (tk2), .string tn2, .slice aa2 am2 ac2]) := x78.1
            subst y78
            have m16 := h.later 16 12 _ ⟨12, .phase⟩ rfl (by simp) rfl rfl hl
            have m12 : l.getD 12 false = false := by rw [Array.getD_eq_getD_getElem?] at hl ⊢; cases hx : l[12]? with | none => rfl | some bb => rw [hx] at hl; exact hl
            have o1 : one true = 1 := rfl
            have o0 : one false = 0 := rfl
            have o_12 := one_le (l.getD 12 false)
            have o_14 := one_le (l.getD 14 false)
            have ob : (p + 3 * one (l.getD 12 false) + one (l.getD 14 false)) + 3 ≤ 700 := by rw [m12, o0]; omega
            have oc : p + 3 * one ((l.setIfInBounds 12 true).getD 12 false) + one ((l.setIfInBounds 12 true).getD 14 false) = (p + 3 * one (l.getD 12 false) + one (l.getD 14 false)) + 3 := by rw [set_other_get (show 12 ≠ 14 by decide), set_this_get (i := 12) (n := 17) hsz (by decide), m12, o0, o1] <;> omega
            refine wp_enter (f := 43) (args := #[.pointer (some ⟨lb, 0, none⟩), .slice (some ⟨b, 12, none⟩) (1) (cap - 1), .agg #[.int .i64 (k2), .int .i64 (i2.kind), .int .i64 (i2.n), .string i2.s, .string nm2, .string at2, .int .i64 (g2), .int .i64 (ax2), .int .i64 (tk2), .string tn2, .slice aa2 am2 ac2]]) (w' := W) ?_ ((CA.out W (p + 3 * one (l.getD 12 false) + one (l.getD 14 false)) bc ob gr g0).mono ?_)
            · unfold execOp
              simp [e76, e77, e78, go_sem]
            · rintro e W' ⟨n12, n100, rfl, hk, q1, hs12, q2, hs100⟩
              exact ⟨_, rfl, _, rfl, ⟨trivial, fun _ => ⟨n12, n100, rfl, by omega, hs12, by omega, hs100⟩, fun e => absurd e (by decide), fun e => absurd e (by decide), fun e => absurd e (by decide)⟩, fun j u hd => ⟨hd.1, fun e => by obtain ⟨n12, n100, ev, p_n12, f_n12, p_n100, f_n100⟩ := hd.2.1 e; exact ⟨n12, n100, ev, p_n12, (hk.2.1 _ (Array.getElem?_eq_some_iff.1 (f_n12)).1 (by omega)).trans (f_n12), p_n100, (hk.2.1 _ (Array.getElem?_eq_some_iff.1 (f_n100)).1 (by omega)).trans (f_n100)⟩, fun e => by obtain ⟨n13, n12, n100, ev, p_n13, f_n13, p_n12, f_n12, p_n100, f_n100⟩ := hd.2.2.1 e; exact ⟨n13, n12, n100, ev, p_n13, (hk.2.1 _ (Array.getElem?_eq_some_iff.1 (f_n13)).1 (by omega)).trans (f_n13), p_n12, (hk.2.1 _ (Array.getElem?_eq_some_iff.1 (f_n12)).1 (by omega)).trans (f_n12), p_n100, (hk.2.1 _ (Array.getElem?_eq_some_iff.1 (f_n100)).1 (by omega)).trans (f_n100)⟩, fun e => by obtain ⟨n13, n12, n100, ev, p_n13, f_n13, p_n12, f_n12, p_n100, f_n100⟩ := hd.2.2.2.1 e; exact ⟨n13, n12, n100, ev, p_n13, (hk.2.1 _ (Array.getElem?_eq_some_iff.1 (f_n13)).1 (by omega)).trans (f_n13), p_n12, (hk.2.1 _ (Array.getElem?_eq_some_iff.1 (f_n12)).1 (by omega)).trans (f_n12), p_n100, (hk.2.1 _ (Array.getElem?_eq_some_iff.1 (f_n100)).1 (by omega)).trans (f_n100)⟩, fun e => by obtain ⟨n13, n12, n100, ev, p_n13, f_n13, p_n12, f_n12, p_n100, f_n100⟩ := hd.2.2.2.2 e; exact ⟨n13, n12, n100, ev, p_n13, (hk.2.1 _ (Array.getElem?_eq_some_iff.1 (f_n13)).1 (by omega)).trans (f_n13), p_n12, (hk.2.1 _ (Array.getElem?_eq_some_iff.1 (f_n12)).1 (by omega)).trans (f_n12), p_n100, (hk.2.1 _ (Array.getElem?_eq_some_iff.1 (f_n100)).1 (by omega)).trans (f_n100)⟩⟩, g1.trans hk.2.2, Nat.le_trans g0 hk.2.2.size, (hk.2.1 _ (Array.getElem?_eq_some_iff.1 (b0)).1 (by omega)).trans (b0), (hk.2.1 _ (Array.getElem?_eq_some_iff.1 (b1)).1 (by omega)).trans (b1), (hk.2.1 _ (Array.getElem?_eq_some_iff.1 (b2)).1 (by omega)).trans (b2), (hk.2.1 _ (Array.getElem?_eq_some_iff.1 (b3)).1 (by omega)).trans (b3), (hk.2.1 _ (Array.getElem?_eq_some_iff.1 (b4)).1 (by omega)).trans (b4), ⟨fun _ => (hk.2.1 _ (Array.getElem?_eq_some_iff.1 ((b5.1 m16))).1 (by omega)).trans ((b5.1 m16)), fun e7 => absurd ((set_other_get (show 12 ≠ 16 by decide)).symm.trans e7) (by rw [m16]; decide)⟩, (by rw [oc]; exact hk.1), (fun c h1 h2 h3 => (hk.2.1 c (Nat.lt_of_lt_of_le h1 g0) h2).trans (gr c h1 h2 h3))⟩
          · obtain ⟨u74, e74, x74⟩ := h.new 7 _ 74 rfl rfl (haf ⟨7, .data⟩ (by simp) rfl)
            have y74 : u74 = (.agg #[.int .i64 (cf.k), .int .i64 (cf.it.kind), .int .i64 (cf.it.n), .string cf.it.s, .string cf.nm, .string cf.at_, .int .i64 (cf.n), .int .i64 (cf.ax), .int .i64 (cf.tk), .string cf.tn, .slice cf.aa cf.am cf.ac]) := x74.1
            subst y74
            obtain ⟨u75, e75, x75⟩ := h.new 8 _ 75 rfl rfl (haf ⟨8, .data⟩ (by simp) rfl)
            have y75 : u75 = (.agg #[.int .i64 (co.k), .int .i64 (co.it.kind), .int .i64 (co.it.n), .string co.it.s, .string co.nm, .string co.at_, .int .i64 (co.n), .int .i64 (co.ax), .int .i64 (co.tk), .string co.tn, .slice co.aa co.am co.ac]) := x75.1
            subst y75
            obtain ⟨u79, e79, x79⟩ := h.new 12 _ 79 rfl rfl (haf ⟨12, .data⟩ (by simp) rfl)
            obtain ⟨n12, n100, rfl, p_n12, f_n12, p_n100, f_n100⟩ := x79.2.1 rfl
            have m16 := h.later 16 13 _ ⟨13, .phase⟩ rfl (by simp) rfl rfl hl
            refine wp_val (v := .slice (some ⟨W.heap.size, 0, none⟩) 3 3) (w' := W.alloc (.cells #[.int .i64 (cf.k), .int .i64 (cf.it.kind), .int .i64 (cf.it.n), .string cf.it.s, .string cf.nm, .string cf.at_, .int .i64 (cf.n), .int .i64 (cf.ax), .int .i64 (cf.tk), .string cf.tn, .slice cf.aa cf.am cf.ac, .int .i64 (co.k), .int .i64 (co.it.kind), .int .i64 (co.it.n), .string co.it.s, .string co.nm, .string co.at_, .int .i64 (co.n), .int .i64 (co.ax), .int .i64 (co.tk), .string co.tn, .slice co.aa co.am co.ac, .int .i64 7, .int .i64 0, .int .i64 0, .string ⟨#[]⟩, .string ⟨#[]⟩, .string ⟨#[]⟩, .int .i64 0, .int .i64 0, .int .i64 0, .string ⟨#[]⟩, .slice (some ⟨n12, 0, none⟩) 3 3] 39)) ?_ ⟨_, rfl, ⟨trivial, fun e => absurd e (by decide), fun _ => ⟨W.heap.size, n12, n100, rfl, g0, aNew rfl, p_n12, aOld f_n12, p_n100, aOld f_n100⟩, fun e => absurd e (by decide), fun e => absurd e (by decide)⟩, fun j u hd => ⟨hd.1, fun e => by obtain ⟨n12, n100, ev, p_n12, f_n12, p_n100, f_n100⟩ := hd.2.1 e; exact ⟨n12, n100, ev, p_n12, aOld f_n12, p_n100, aOld f_n100⟩, fun e => by obtain ⟨n13, n12, n100, ev, p_n13, f_n13, p_n12, f_n12, p_n100, f_n100⟩ := hd.2.2.1 e; exact ⟨n13, n12, n100, ev, p_n13, aOld f_n13, p_n12, aOld f_n12, p_n100, aOld f_n100⟩, fun e => by obtain ⟨n13, n12, n100, ev, p_n13, f_n13, p_n12, f_n12, p_n100, f_n100⟩ := hd.2.2.2.1 e; exact ⟨n13, n12, n100, ev, p_n13, aOld f_n13, p_n12, aOld f_n12, p_n100, aOld f_n100⟩, fun e => by obtain ⟨n13, n12, n100, ev, p_n13, f_n13, p_n12, f_n12, p_n100, f_n100⟩ := hd.2.2.2.2 e; exact ⟨n13, n12, n100, ev, p_n13, aOld f_n13, p_n12, aOld f_n12, p_n100, aOld f_n100⟩⟩, g1.alloc gz _, by simp; omega, aOld b0, aOld b1, aOld b2, aOld b3, aOld b4, ⟨fun _ => aOld ((b5.1 m16)), fun e7 => absurd ((set_other_get (show 13 ≠ 16 by decide)).symm.trans e7) (by rw [m16]; decide)⟩, (by simp only [set_other_get (show 13 ≠ 12 by decide), set_other_get (show 13 ≠ 14 by decide)]; exact aOld bc), (fun c h1 h2 h3 => (Below.heap_alloc _ _ c (Nat.lt_of_lt_of_le h1 g0)).trans (gr c h1 h2 h3))⟩
            unfold execOp
            simp [e74, e75, e79, go_sem]
          · obtain ⟨u71, e71, x71⟩ := h.new 4 _ 71 rfl rfl (haf ⟨4, .data⟩ (by simp) rfl)
            have y71 : u71 = (.pointer (some ⟨lb, 0, none⟩)) := x71.1
            subst y71
            obtain ⟨u72, e72, x72⟩ := h.new 5 _ 72 rfl rfl (haf ⟨5, .data⟩ (by simp) rfl)
            have y72 : u72 = (.agg #[.int .i64 6, .int .i64 0, .int .i64 0, .string ⟨#[]⟩, .string nmf, .string atf, .int .i64 0, .int .i64 0, .int .i64 0, .string ⟨#[]⟩, .slice none 0 0]) := x72.1
            subst y72
            obtain ⟨u80, e80, x80⟩ := h.new 13 _ 80 rfl rfl (haf ⟨13, .data⟩ (by simp) rfl)
            obtain ⟨n13, n12, n100, rfl, p_n13, f_n13, p_n12, f_n12, p_n100, f_n100⟩ := x80.2.2.1 rfl
            have m16 := h.later 16 14 _ ⟨14, .phase⟩ rfl (by simp) rfl rfl hl
            have m14 : l.getD 14 false = false := by rw [Array.getD_eq_getD_getElem?] at hl ⊢; cases hx : l[14]? with | none => rfl | some bb => rw [hx] at hl; exact hl
            have o1 : one true = 1 := rfl
            have o0 : one false = 0 := rfl
            have o_12 := one_le (l.getD 12 false)
            have o_14 := one_le (l.getD 14 false)
            have ob : (p + 3 * one (l.getD 12 false) + one (l.getD 14 false)) + 1 ≤ 700 := by rw [m14, o0]; omega
            have oc : p + 3 * one ((l.setIfInBounds 14 true).getD 12 false) + one ((l.setIfInBounds 14 true).getD 14 false) = (p + 3 * one (l.getD 12 false) + one (l.getD 14 false)) + 1 := by rw [set_other_get (show 14 ≠ 12 by decide), set_this_get (i := 14) (n := 17) hsz (by decide), m14, o0, o1] <;> omega
            refine wp_enter (f := 45) (args := #[.pointer (some ⟨lb, 0, none⟩), .agg #[.int .i64 6, .int .i64 0, .int .i64 0, .string ⟨#[]⟩, .string nmf, .string atf, .int .i64 0, .int .i64 0, .int .i64 0, .string ⟨#[]⟩, .slice none 0 0], .slice (some ⟨n13, 0, none⟩) 3 3]) (w' := W) ?_ ((CM.out W (p + 3 * one (l.getD 12 false) + one (l.getD 14 false)) n13 bc ob).mono ?_)
            · unfold execOp
              simp [e71, e72, e80, go_sem]
            · rintro e W' ⟨rfl, hk⟩
              exact ⟨_, rfl, _, rfl, ⟨trivial, fun e => absurd e (by decide), fun e => absurd e (by decide), fun _ => ⟨n13, n12, n100, rfl, p_n13, (hk.2.1 _ (Array.getElem?_eq_some_iff.1 (f_n13)).1 (by omega)).trans (f_n13), p_n12, (hk.2.1 _ (Array.getElem?_eq_some_iff.1 (f_n12)).1 (by omega)).trans (f_n12), p_n100, (hk.2.1 _ (Array.getElem?_eq_some_iff.1 (f_n100)).1 (by omega)).trans (f_n100)⟩, fun e => absurd e (by decide)⟩, fun j u hd => ⟨hd.1, fun e => by obtain ⟨n12, n100, ev, p_n12, f_n12, p_n100, f_n100⟩ := hd.2.1 e; exact ⟨n12, n100, ev, p_n12, (hk.2.1 _ (Array.getElem?_eq_some_iff.1 (f_n12)).1 (by omega)).trans (f_n12), p_n100, (hk.2.1 _ (Array.getElem?_eq_some_iff.1 (f_n100)).1 (by omega)).trans (f_n100)⟩, fun e => by obtain ⟨n13, n12, n100, ev, p_n13, f_n13, p_n12, f_n12, p_n100, f_n100⟩ := hd.2.2.1 e; exact ⟨n13, n12, n100, ev, p_n13, (hk.2.1 _ (Array.getElem?_eq_some_iff.1 (f_n13)).1 (by omega)).trans (f_n13), p_n12, (hk.2.1 _ (Array.getElem?_eq_some_iff.1 (f_n12)).1 (by omega)).trans (f_n12), p_n100, (hk.2.1 _ (Array.getElem?_eq_some_iff.1 (f_n100)).1 (by omega)).trans (f_n100)⟩, fun e => by obtain ⟨n13, n12, n100, ev, p_n13, f_n13, p_n12, f_n12, p_n100, f_n100⟩ := hd.2.2.2.1 e; exact ⟨n13, n12, n100, ev, p_n13, (hk.2.1 _ (Array.getElem?_eq_some_iff.1 (f_n13)).1 (by omega)).trans (f_n13), p_n12, (hk.2.1 _ (Array.getElem?_eq_some_iff.1 (f_n12)).1 (by omega)).trans (f_n12), p_n100, (hk.2.1 _ (Array.getElem?_eq_some_iff.1 (f_n100)).1 (by omega)).trans (f_n100)⟩, fun e => by obtain ⟨n13, n12, n100, ev, p_n13, f_n13, p_n12, f_n12, p_n100, f_n100⟩ := hd.2.2.2.2 e; exact ⟨n13, n12, n100, ev, p_n13, (hk.2.1 _ (Array.getElem?_eq_some_iff.1 (f_n13)).1 (by omega)).trans (f_n13), p_n12, (hk.2.1 _ (Array.getElem?_eq_some_iff.1 (f_n12)).1 (by omega)).trans (f_n12), p_n100, (hk.2.1 _ (Array.getElem?_eq_some_iff.1 (f_n100)).1 (by omega)).trans (f_n100)⟩⟩, g1.trans hk.2.2, Nat.le_trans g0 hk.2.2.size, (hk.2.1 _ (Array.getElem?_eq_some_iff.1 (b0)).1 (by omega)).trans (b0), (hk.2.1 _ (Array.getElem?_eq_some_iff.1 (b1)).1 (by omega)).trans (b1), (hk.2.1 _ (Array.getElem?_eq_some_iff.1 (b2)).1 (by omega)).trans (b2), (hk.2.1 _ (Array.getElem?_eq_some_iff.1 (b3)).1 (by omega)).trans (b3), (hk.2.1 _ (Array.getElem?_eq_some_iff.1 (b4)).1 (by omega)).trans (b4), ⟨fun _ => (hk.2.1 _ (Array.getElem?_eq_some_iff.1 ((b5.1 m16))).1 (by omega)).trans ((b5.1 m16)), fun e7 => absurd ((set_other_get (show 14 ≠ 16 by decide)).symm.trans e7) (by rw [m16]; decide)⟩, (by rw [oc]; exact hk.1), (fun c h1 h2 h3 => (hk.2.1 c (Nat.lt_of_lt_of_le h1 g0) h2).trans (gr c h1 h2 h3))⟩
          · obtain ⟨u67, e67, x67⟩ := h.new 0 _ 67 rfl rfl (haf ⟨0, .data⟩ (by simp) rfl)
            have y67 : u67 = (.pointer (some ⟨lb, 0, none⟩)) := x67.1
            subst y67
            obtain ⟨u70, e70, x70⟩ := h.new 3 _ 70 rfl rfl (haf ⟨3, .data⟩ (by simp) rfl)
            have y70 : u70 = (.slice (some ⟨b, 0, none⟩) 0 cap) := x70.1
            subst y70
            obtain ⟨u81, e81, x81⟩ := h.new 14 _ 81 rfl rfl (haf ⟨14, .chain⟩ (by simp) rfl)
            obtain ⟨n13, n12, n100, rfl, p_n13, f_n13, p_n12, f_n12, p_n100, f_n100⟩ := x81.2.2.2.1 rfl
            have m16 := h.later 16 15 _ ⟨15, .phase⟩ rfl (by simp) rfl rfl hl
            have m15 : l.getD 15 false = false := by rw [Array.getD_eq_getD_getElem?] at hl ⊢; cases hx : l[15]? with | none => rfl | some bb => rw [hx] at hl; exact hl
            refine wp_enter (f := 43) (args := #[.pointer (some ⟨lb, 0, none⟩), .slice (some ⟨b, 0, none⟩) 0 cap, .agg #[.int .i64 6, .int .i64 0, .int .i64 0, .string ⟨#[]⟩, .string nmf, .string atf, .int .i64 0, .int .i64 0, .int .i64 0, .string ⟨#[]⟩, .slice (some ⟨n13, 0, none⟩) 3 3]]) (w' := W) ?_ ((CN.out W (p + 3 * one (l.getD 12 false) + one (l.getD 14 false)) n13 bc g0).mono ?_)
            · unfold execOp
              simp [e67, e70, e81, go_sem]
            · rintro e W' ⟨rfl, hk⟩
              exact ⟨_, rfl, _, rfl, ⟨trivial, fun e => absurd e (by decide), fun e => absurd e (by decide), fun e => absurd e (by decide), fun _ => ⟨n13, n12, n100, rfl, p_n13, (hk.2.1 _ (Array.getElem?_eq_some_iff.1 (f_n13)).1 (by omega)).trans (f_n13), p_n12, (hk.2.1 _ (Array.getElem?_eq_some_iff.1 (f_n12)).1 (by omega)).trans (f_n12), p_n100, (hk.2.1 _ (Array.getElem?_eq_some_iff.1 (f_n100)).1 (by omega)).trans (f_n100)⟩⟩, fun j u hd => ⟨hd.1, fun e => by obtain ⟨n12, n100, ev, p_n12, f_n12, p_n100, f_n100⟩ := hd.2.1 e; exact ⟨n12, n100, ev, p_n12, (hk.2.1 _ (Array.getElem?_eq_some_iff.1 (f_n12)).1 (by omega)).trans (f_n12), p_n100, (hk.2.1 _ (Array.getElem?_eq_some_iff.1 (f_n100)).1 (by omega)).trans (f_n100)⟩, fun e => by obtain ⟨n13, n12, n100, ev, p_n13, f_n13, p_n12, f_n12, p_n100, f_n100⟩ := hd.2.2.1 e; exact ⟨n13, n12, n100, ev, p_n13, (hk.2.1 _ (Array.getElem?_eq_some_iff.1 (f_n13)).1 (by omega)).trans (f_n13), p_n12, (hk.2.1 _ (Array.getElem?_eq_some_iff.1 (f_n12)).1 (by omega)).trans (f_n12), p_n100, (hk.2.1 _ (Array.getElem?_eq_some_iff.1 (f_n100)).1 (by omega)).trans (f_n100)⟩, fun e => by obtain ⟨n13, n12, n100, ev, p_n13, f_n13, p_n12, f_n12, p_n100, f_n100⟩ := hd.2.2.2.1 e; exact ⟨n13, n12, n100, ev, p_n13, (hk.2.1 _ (Array.getElem?_eq_some_iff.1 (f_n13)).1 (by omega)).trans (f_n13), p_n12, (hk.2.1 _ (Array.getElem?_eq_some_iff.1 (f_n12)).1 (by omega)).trans (f_n12), p_n100, (hk.2.1 _ (Array.getElem?_eq_some_iff.1 (f_n100)).1 (by omega)).trans (f_n100)⟩, fun e => by obtain ⟨n13, n12, n100, ev, p_n13, f_n13, p_n12, f_n12, p_n100, f_n100⟩ := hd.2.2.2.2 e; exact ⟨n13, n12, n100, ev, p_n13, (hk.2.1 _ (Array.getElem?_eq_some_iff.1 (f_n13)).1 (by omega)).trans (f_n13), p_n12, (hk.2.1 _ (Array.getElem?_eq_some_iff.1 (f_n12)).1 (by omega)).trans (f_n12), p_n100, (hk.2.1 _ (Array.getElem?_eq_some_iff.1 (f_n100)).1 (by omega)).trans (f_n100)⟩⟩, g1.trans hk.2.2, Nat.le_trans g0 hk.2.2.size, (hk.2.1 _ (Array.getElem?_eq_some_iff.1 (b0)).1 (by omega)).trans (b0), (hk.2.1 _ (Array.getElem?_eq_some_iff.1 (b1)).1 (by omega)).trans (b1), (hk.2.1 _ (Array.getElem?_eq_some_iff.1 (b2)).1 (by omega)).trans (b2), (hk.2.1 _ (Array.getElem?_eq_some_iff.1 (b3)).1 (by omega)).trans (b3), (hk.2.1 _ (Array.getElem?_eq_some_iff.1 (b4)).1 (by omega)).trans (b4), ⟨fun _ => (hk.2.1 _ (Array.getElem?_eq_some_iff.1 ((b5.1 m16))).1 (by omega)).trans ((b5.1 m16)), fun e7 => absurd ((set_other_get (show 15 ≠ 16 by decide)).symm.trans e7) (by rw [m16]; decide)⟩, (by simp only [set_other_get (show 15 ≠ 12 by decide), set_other_get (show 15 ≠ 14 by decide)]; exact hk.1), (fun c h1 h2 h3 => (hk.2.1 c (Nat.lt_of_lt_of_le h1 g0) h2).trans (gr c h1 h2 h3))⟩
          · have e8 := h.given 8 _ rfl (by kernel_rfl)
            obtain ⟨u82, e82, x82⟩ := h.new 15 _ 82 rfl rfl (haf ⟨15, .phase⟩ (by simp) rfl)
            obtain ⟨n13, n12, n100, rfl, p_n13, f_n13, p_n12, f_n12, p_n100, f_n100⟩ := x82.2.2.2.2 rfl
            have m16 : l.getD 16 false = false := by rw [Array.getD_eq_getD_getElem?] at hl ⊢; cases hx : l[16]? with | none => rfl | some bb => rw [hx] at hl; exact hl
            have c_ := b5.1 m16
            obtain ⟨c0, c1, c2, c3, c4, c5, c6, c7, c8, c9, c10, cf_, _⟩ := bk11 c_
            obtain ⟨W', hW'⟩ : ∃ V, V = (((((((((((W).setCell ⟨w.heap.size + 1 + 1 + 1, 0, none⟩ (.int .i64 6)).setCell ⟨w.heap.size + 1 + 1 + 1, 1, none⟩ (.int .i64 0)).setCell ⟨w.heap.size + 1 + 1 + 1, 2, none⟩ (.int .i64 0)).setCell ⟨w.heap.size + 1 + 1 + 1, 3, none⟩ (.string ⟨#[]⟩)).setCell ⟨w.heap.size + 1 + 1 + 1, 4, none⟩ (.string nmf)).setCell ⟨w.heap.size + 1 + 1 + 1, 5, none⟩ (.string atf)).setCell ⟨w.heap.size + 1 + 1 + 1, 6, none⟩ (.int .i64 0)).setCell ⟨w.heap.size + 1 + 1 + 1, 7, none⟩ (.int .i64 0)).setCell ⟨w.heap.size + 1 + 1 + 1, 8, none⟩ (.int .i64 0)).setCell ⟨w.heap.size + 1 + 1 + 1, 9, none⟩ (.string ⟨#[]⟩)).setCell ⟨w.heap.size + 1 + 1 + 1, 10, none⟩ (.slice (some ⟨n13, 0, none⟩) 3 3) := ⟨_, rfl⟩
            have hP : W' = putL W (w.heap.size + 1 + 1 + 1) 0 [.int .i64 6, .int .i64 0, .int .i64 0, .string ⟨#[]⟩, .string nmf, .string atf, .int .i64 0, .int .i64 0, .int .i64 0, .string ⟨#[]⟩, .slice (some ⟨n13, 0, none⟩) 3 3] := hW'
            refine wp_skip (w' := W') ?_ ⟨undef, rfl, ⟨trivial, fun e => absurd e (by decide), fun e => absurd e (by decide), fun e => absurd e (by decide), fun e => absurd e (by decide)⟩, fun j u hd => ⟨hd.1, fun e => by obtain ⟨n12, n100, ev, p_n12, f_n12, p_n100, f_n100⟩ := hd.2.1 e; exact ⟨n12, n100, ev, p_n12, (by rw [hP]; exact (putL_other (by omega) _ _ _).trans (f_n12)), p_n100, (by rw [hP]; exact (putL_other (by omega) _ _ _).trans (f_n100))⟩, fun e => by obtain ⟨n13, n12, n100, ev, p_n13, f_n13, p_n12, f_n12, p_n100, f_n100⟩ := hd.2.2.1 e; exact ⟨n13, n12, n100, ev, p_n13, (by rw [hP]; exact (putL_other (by omega) _ _ _).trans (f_n13)), p_n12, (by rw [hP]; exact (putL_other (by omega) _ _ _).trans (f_n12)), p_n100, (by rw [hP]; exact (putL_other (by omega) _ _ _).trans (f_n100))⟩, fun e => by obtain ⟨n13, n12, n100, ev, p_n13, f_n13, p_n12, f_n12, p_n100, f_n100⟩ := hd.2.2.2.1 e; exact ⟨n13, n12, n100, ev, p_n13, (by rw [hP]; exact (putL_other (by omega) _ _ _).trans (f_n13)), p_n12, (by rw [hP]; exact (putL_other (by omega) _ _ _).trans (f_n12)), p_n100, (by rw [hP]; exact (putL_other (by omega) _ _ _).trans (f_n100))⟩, fun e => by obtain ⟨n13, n12, n100, ev, p_n13, f_n13, p_n12, f_n12, p_n100, f_n100⟩ := hd.2.2.2.2 e; exact ⟨n13, n12, n100, ev, p_n13, (by rw [hP]; exact (putL_other (by omega) _ _ _).trans (f_n13)), p_n12, (by rw [hP]; exact (putL_other (by omega) _ _ _).trans (f_n12)), p_n100, (by rw [hP]; exact (putL_other (by omega) _ _ _).trans (f_n100))⟩⟩, (by rw [hP]; exact putL_below (by omega) _ _ _ g1), Nat.le_trans g0 (by rw [hP]; exact (putL_below (B := 0) (w0 := W) (Nat.zero_le _) _ _ _ (Below.refl _ _)).size), (by rw [hP]; exact (putL_other (by omega) _ _ _).trans (b0)), (by rw [hP]; exact (putL_other (by omega) _ _ _).trans (b1)), (by rw [hP]; exact (putL_other (by omega) _ _ _).trans (b2)), (by rw [hP]; exact (putL_other (by omega) _ _ _).trans (b3)), (by rw [hP]; exact (putL_other (by omega) _ _ _).trans (b4)), ⟨fun e7 => absurd ((set_this_get (i := 16) (n := 17) hsz (by decide)).symm.trans e7) (by decide), fun _ => ⟨n13, n12, n100, (by rw [hP]; exact putL_same c_ _ rfl), p_n13, (by rw [hP]; exact (putL_other (by omega) _ _ _).trans (f_n13)), p_n12, (by rw [hP]; exact (putL_other (by omega) _ _ _).trans (f_n12)), p_n100, (by rw [hP]; exact (putL_other (by omega) _ _ _).trans (f_n100))⟩⟩, (by simp only [set_other_get (show 16 ≠ 12 by decide), set_other_get (show 16 ≠ 14 by decide)]; exact (by rw [hP]; exact (putL_other (by omega) _ _ _).trans (bc))), (fun c h1 h2 h3 => (by rw [hP]; exact (putL_other h3 _ _ _).trans (gr c h1 h2 h3)))⟩
            rw [hW']
            clear hP hW'
            unfold execOp
            simp [e8, e82, c0, c1, c2, c3, c4, c5, c6, c7, c8, c9, c10, cf_, go_sem]
        · intro v W7 hv hs hg
          obtain ⟨u1, u0'', y0, y1, y2, y3, y4, y5, yc, yr⟩ := hg
          obtain ⟨n13, n12, n100, z1, z2, z3, z4, z5, z6, z7⟩ := y5.2 rfl
          have yc' : W7.heap[lb]? = some (.cells #[m1, m2, m3, .int .i64 ((p + 4 : Nat) : Int), .int .i64 0] 49) := yc
          have HDD := hidC ((yr D (by omega) (by omega) (by omega)).trans HD6.out)
          have HZ := hidC z1
          have HBB7 : Hid (Below lb w W7) := (HBB6.out.mono (Nat.le_of_lt l6)).trans u1
          have HM7 : Hid (∀ c, c < w.heap.size → c ≠ lb → W7.heap[c]? = w.heap[c]?) := fun c h1 h2 => (yr c (by omega) h2 (by omega)).trans (HM6.out c h1)
          have HL7 := hidC yc'
          have HZ3 := hidC z3
          have HZ5 := hidC z5
          have HZ7 := hidC z7
          clear hv hs yc yc' y5 y0 y1 y2 y3 y4 yr u1 z1 z3 z5 z7 CA CM CN HL6c HA6 HC6 HY6 HR6 HL6 HT6 HK6 HD6 HW6 HM6 HBB6 KW6 HX6
          simp only [putAll, Act.put]
          gi_wp2
          refine ⟨by simp, .inl ⟨_, _, rfl, run_takeDeferred HDD.out, ?_⟩⟩
          have hD3 : ∀ c, c ≠ D → (W7.putObj D (.deferred none)).heap[c]? = W7.heap[c]? := fun c h => World.putObj_heap_other h
          have hz7 : lb ≤ W7.heap.size := Nat.le_trans (Nat.le_of_lt l6) HBB7.out.size
          obtain ⟨y0, y1, y2, y3, y4, y5, y6, y7, y8, y9, y10, _, _⟩ := bk11 ((hD3 (w.heap.size + 1 + 1 + 1) (by omega)).trans HZ.out)
          refine ⟨.agg #[.int .i64 6, .int .i64 0, .int .i64 0, .string ⟨#[]⟩, .string nmf, .string atf, .int .i64 0, .int .i64 0, .int .i64 0, .string ⟨#[]⟩, .slice (some ⟨n13, 0, none⟩) 3 3], by simp [results, Tryd.results42, go_sem, y0, y1, y2, y3, y4, y5, y6, y7, y8, y9, y10], ?_⟩
          refine (show SrT lb m1 m2 m3 p cf cw co nmf atf k2 i2 nm2 at2 g2 ax2 tk2 tn2 aa2 am2 ac2 w _ _ from ?_)
          unfold SrT
          exact ⟨n13, n12, n100, rfl, ⟨(hD3 lb (by omega)).trans HL7.out, fun c hc hn => (hD3 c (by omega)).trans (HM7.out c hc hn), HBB7.out.grown (grownBy_putObj' W7 D _) hz7 (fun k e => by cases e; omega)⟩, by omega, (hD3 n13 (by omega)).trans HZ3.out, by omega, (hD3 n12 (by omega)).trans HZ5.out, by omega, (hD3 n100 (by omega)).trans HZ7.out⟩
    case stop =>
      rintro D c pre W _ _ h _
      exact h.elim
end Go.Proofs.YtkhlfdnlpimojaaDoor
