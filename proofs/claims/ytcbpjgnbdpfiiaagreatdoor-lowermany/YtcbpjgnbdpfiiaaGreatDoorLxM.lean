/-
  RULES of package core: a text constructor.
-/
import Derived.Test.YtcbpjgnbdpfiiaaGreatDoorLxG
set_option linter.unusedVariables false
namespace Go.Proofs.YtcbpjgnbdpfiiaaGreatDoor
set_option maxRecDepth 100000
open Go.RowKit Go.WideShapes

theorem parts_make (w : World) : Calls Tryz.prog 75 #[.int .i64 10, .int .i64 1] w fun e w' => e = .returned (.int .i64 0) ∧ w' = w := by
  go_enter Tryz.func75, Tryz.ntmps75
  go_wp2
  go_ret
  exact ⟨rfl, rfl⟩
theorem make_text (nm : ByteArray) (w : World) : Calls Tryz.prog 79 #[.int .i64 3, .string nm] w fun e w' => e = .returned (.int .i64 0) ∧ w' = w := by
  go_enter Tryz.func79, Tryz.ntmps79
  go_wp2
  go_ret
  exact ⟨rfl, rfl⟩
theorem nodeName_text (pb po : Nat) (w : World) (h : w.cell? ⟨pb, po + 5, none⟩ = some (.int .i64 3)) : Calls Tryz.prog 99 #[.pointer (some ⟨pb, po, none⟩)] w fun e w' => e = .returned (.string ⟨#[]⟩) ∧ w' = w := by
  go_enter Tryz.func99, Tryz.ntmps99
  go_wp2
  go_ret
  exact ⟨rfl, rfl⟩
set_option maxHeartbeats 3200000 in
theorem alone_make (lb b off : Nat) (it : It) (nm : ByteArray) (ax tk : Int) (tn : ByteArray) (aa : Option Addr) (ac : Nat) (cv : Value) (w : World) (h : PhAt w b off 10 it nm 3 ax tk tn (.slice aa 1 ac) cv) (hb : b < w.heap.size) :
    Calls Tryz.prog 48 #[.pointer (some ⟨lb, 0, none⟩), .pointer (some ⟨b, off, none⟩)] w fun e w' => e = .returned (.int .i64 0) ∧ Below w.heap.size w w' := by
  have CP : Hid (∀ W, Calls Tryz.prog 75 #[.int .i64 10, .int .i64 1] W fun e w' => e = .returned (.int .i64 0) ∧ w' = W) := parts_make
  obtain ⟨c0, c1, c2, c3, c4, c5, c6, c7, c8, c9, c10⟩ := h
  clear c1 c2 c3 c6 c7 c8 c10
  go_enter Tryz.func48, Tryz.ntmps48
  go_upto_region 1 with fail
  go_quiet ((go_at_call 75; exact Calls.quiet_of_same (CP.out _)))
  obtain ⟨W1, hW1⟩ : ∃ W, W = w.drewN nq := ⟨_, rfl⟩
  have HB1 : Hid (Below w.heap.size w W1) := by rw [hW1]; exact ⟨rfl, rfl, rfl, Nat.le_refl _, fun _ _ => rfl⟩
  rw [← hW1]
  have hb1 : b < W1.heap.size := Nat.lt_of_lt_of_le hb HB1.out.size
  have e0 : W1.cell? ⟨b, off, none⟩ = some (.int .i64 10) := (HB1.out.cell (p := ⟨b, off, none⟩) hb).trans c0
  have e4 : W1.cell? ⟨b, off + 4, none⟩ = some (.string nm) := (HB1.out.cell (p := ⟨b, off + 4, none⟩) hb).trans c4
  have e5 : W1.cell? ⟨b, off + 5, none⟩ = some (.int .i64 3) := (HB1.out.cell (p := ⟨b, off + 5, none⟩) hb).trans c5
  have e9 : W1.cell? ⟨b, off + 9, none⟩ = some (.slice aa 1 ac) := (HB1.out.cell (p := ⟨b, off + 9, none⟩) hb).trans c9
  have HSS : Hid (∀ W, Below W1.heap.size W1 W → W.cell? ⟨b, off + 4, none⟩ = some (.string nm) ∧ W.cell? ⟨b, off + 5, none⟩ = some (.int .i64 3)) := fun W hW => ⟨(hW.cell (p := ⟨b, off + 4, none⟩) hb1).trans e4, (hW.cell (p := ⟨b, off + 5, none⟩) hb1).trans e5⟩
  have CC : Hid (∀ W, Below W1.heap.size W1 W → Calls Tryz.prog 79 #[.int .i64 3, .string nm] W fun e w' => e = .returned (.int .i64 0) ∧ Below W1.heap.size W1 w') := fun W hW => (make_text nm W).mono fun e w' ⟨k1, k2⟩ => ⟨k1, k2 ▸ hW⟩
  clear hW1 c0 c4 c5 c9
  go_upto_region 17 with fail
  go_region_held3 (fun W => W.cell? ⟨b, off + 4, none⟩ = some (.string nm) ∧ W.cell? ⟨b, off + 5, none⟩ = some (.int .i64 3))
    ((refine HSS.out _ ?_; repeat (first | exact Hid.out (by assumption) | exact Below.refl _ _ | refine Below.drew ?_)))
    (first
      | (go_at_call 79; refine (CC.out _ ?_).mono ?_; (focus (repeat (first | exact Hid.out (by assumption) | exact Below.refl _ _ | refine Below.drew ?_))); rintro e w2 ⟨rfl, hb2⟩; have HB2 : Hid (Below W1.heap.size W1 w2) := hb2; clear hb2))
  go_wp2
  go_ret
  exact ⟨rfl, HB1.out.trans (HB2.out.mono HB1.out.size)⟩
theorem XK.alloc {w0 W : World} {lb tb ob sb : Nat} {N : ByteArray → Nat} (h : XK w0 lb tb ob sb N W) (o : Obj) : XK w0 lb tb ob sb N (W.alloc o) := by
  obtain ⟨q, h⟩ := h
  exact ⟨q, h.alloc o⟩
/-- a world behind the one in which an expression was made: its list lies there -/
structure MK (w2 : World) (cs : Array Value) (W : World) : Prop where
  b : Below w2.heap.size w2 W
  h : W.heap[w2.heap.size]? = some (.cells cs 43)
theorem MK.drew {w2 W : World} {cs : Array Value} (h : MK w2 cs W) : MK w2 cs W.drew := ⟨h.b.drew, h.h⟩
theorem MK.new {w2 : World} {cs : Array Value} : MK w2 cs (w2.alloc (.cells cs 43)) := ⟨(Below.refl _ _).alloc (Nat.le_refl _) _, heap_alloc_new _ _⟩
theorem MK.newD {w2 : World} {cs : Array Value} : MK w2 cs (w2.drew.alloc (.cells cs 43)) := ⟨((Below.refl _ _).drew).alloc (Nat.le_refl _) _, heap_alloc_new w2.drew _⟩
set_option maxHeartbeats 6400000 in
theorem withParts_make {ph : Ph} {it : It} {nm tn : ByteArray} {ax tk : Int} {N : ByteArray → Nat} {p q : Nat} {X : Ex} (h : RunE ph N p q X) (hq : q + 1 ≤ 700) : RunF 53 (phN 10 it nm 3 ax tk tn 1 (fun _ => ph)) N p (q + 1) (exN 10 ⟨0, 0, ⟨#[]⟩⟩ ⟨#[]⟩ ⟨#[]⟩ 3 1 (fun _ => X)) := by
  intro w lb tb ob sb S pb po u hB hX hP
  obtain ⟨aa, ac, a10, c10', hu, hac, _, hcm, _, hel, _⟩ := hP.v
  obtain ⟨g, o, rfl, hg, hel2⟩ := hel (by omega)
  obtain ⟨u', hr1, hr2⟩ := hel2 0 (by omega)
  rw [show o + 0 * 11 = o by omega] at hr1
  have HCH : Hid (PhIn w lb sb g o ph S u') := ⟨hr1, hr2, hg, hP.h⟩
  have HB := HidOf hB
  have HX := HidOf hX
  have HH : Hid (RunF 25 ph N p q X) := h
  have hll := hB.ll
  have hsl := hB.sl
  have hls := hB.ls
  have hpw := (hP.h pb hP.s).1
  have e0 := (phAt_c (hu ▸ hP.c)).c0
  have HA : Hid (∀ W, XK w lb tb ob sb N W → W.cell? ⟨pb, po + 5, none⟩ = some (.int .i64 3) ∧ W.cell? ⟨pb, po + 9, none⟩ = some (.slice (some ⟨g, o, none⟩) 1 ac)) := fun W hq => by
    obtain ⟨q', hW⟩ := hq
    have e := phAt_c (hu ▸ (hP.at hW).c)
    exact ⟨e.c5, e.c9⟩
  have CN : Hid (∀ W, XK w lb tb ob sb N W → Calls Tryz.prog 99 #[.pointer (some ⟨pb, po, none⟩)] W fun e w' => e = .returned (.string ⟨#[]⟩) ∧ w' = W) := fun W hW => nodeName_text pb po W (HA.out W hW).1
  have CM : Hid (∀ w2 cs W, XS w lb tb ob sb N q w2 → MK w2 cs W → Calls Tryz.prog 98 #[.pointer (some ⟨lb, 0, none⟩), .agg #[.int .i64 10, .int .i64 0, .int .i64 0, .string ⟨#[]⟩, .string ⟨#[]⟩, .string ⟨#[]⟩, .int .i64 3, .int .i64 0, .int .i64 0, .string ⟨#[]⟩, .slice none 0 0], .slice (some ⟨w2.heap.size, 0, none⟩) 1 1] W fun e w' => e = .returned (.agg #[.int .i64 10, .int .i64 0, .int .i64 0, .string ⟨#[]⟩, .string ⟨#[]⟩, .string ⟨#[]⟩, .int .i64 3, .int .i64 0, .int .i64 0, .string ⟨#[]⟩, .slice (some ⟨w2.heap.size, 0, none⟩) 1 1]) ∧ XS w lb tb ob sb N (q + 1) w' ∧ (∀ b, b < w2.heap.size → b ≠ lb → w'.heap[b]? = w2.heap[b]?) ∧ w'.heap[w2.heap.size]? = some (.cells cs 43)) := fun w2 cs W hS hM => by
    have hSW : XS w lb tb ob sb N q W := hS.below hM.b
    refine (made_is lb _ _ _ q 10 ⟨0, 0, ⟨#[]⟩⟩ ⟨#[]⟩ ⟨#[]⟩ 3 0 0 ⟨#[]⟩ none 0 0 (some ⟨w2.heap.size, 0, none⟩) 1 1 W hSW.l hq (by decide) (by decide) (by decide) (by decide)).mono fun e w' ⟨k1, k2, k3, k4⟩ => ?_
    have hl2 : lb < w2.heap.size := (Array.getElem?_eq_some_iff.1 hS.l).1
    have hz := hM.b.size
    have hlt : w2.heap.size < W.heap.size := (Array.getElem?_eq_some_iff.1 hM.h).1
    exact ⟨k1, hSW.trans (hSW.here.ofKp hls ⟨k2, k3, k4⟩), fun b h1 h2 => (k3 b (by omega) h2).trans (hM.b.block b h1), (k3 _ hlt (by omega)).trans hM.h⟩
  clear hP hB hX h hel hel2 hr1 hr2 hu
  go_enter Tryz.func53, Tryz.ntmps53
  go_upto_region 6 with fail
  obtain ⟨W1, hW1⟩ : ∃ W, W = w.alloc (.cells #[.int .i64 0, .int .i64 0, .int .i64 0, .string ⟨#[]⟩, .string ⟨#[]⟩, .string ⟨#[]⟩, .int .i64 0, .int .i64 0, .int .i64 0, .string ⟨#[]⟩, .slice none 0 0] 43) := ⟨_, rfl⟩
  have HS1 : Hid (XS w lb tb ob sb N p W1) := by rw [hW1]; exact HX.out.alloc _
  have HR1 : Hid (W1.heap[w.heap.size]? = some (.cells #[.int .i64 0, .int .i64 0, .int .i64 0, .string ⟨#[]⟩, .string ⟨#[]⟩, .string ⟨#[]⟩, .int .i64 0, .int .i64 0, .int .i64 0, .string ⟨#[]⟩, .slice none 0 0] 43)) := by rw [hW1]; exact heap_alloc_new _ _
  have hz1 : w.heap.size < W1.heap.size := (Array.getElem?_eq_some_iff.1 HR1.out).1
  rw [← hW1]
  clear hW1 e0
  have HK1 : Hid (XK w lb tb ob sb N W1) := ⟨_, HS1.out⟩
  obtain ⟨h0, h1⟩ := HA.out W1 HK1.out
  go_region_held3 (fun W => W.cell? ⟨pb, po + 5, none⟩ = some (.int .i64 3) ∧ W.cell? ⟨pb, po + 9, none⟩ = some (.slice (some ⟨g, o, none⟩) 1 ac))
    ((refine HA.out _ ?_; repeat (first | with_reducible exact Hid.out (by with_reducible assumption) | with_reducible refine XK.drew ?_ | with_reducible refine XK.alloc ?_ _ | with_reducible refine XK.setC ?_ (Nat.le_refl _) hll hsl _ _)))
    (first
      | (go_at_call 99; refine (CN.out _ ?_).mono ?_; (focus (repeat (first | with_reducible exact Hid.out (by with_reducible assumption) | with_reducible refine XK.drew ?_ | with_reducible refine XK.alloc ?_ _))); rintro e w4 ⟨rfl, rfl⟩)
      | (go_at_call 25; refine (HH.out.use HB.out (W := _) ?_ HCH.out).mono ?_; (focus (repeat (first | with_reducible exact Hid.out (by with_reducible assumption) | with_reducible refine XS.drew ?_ | with_reducible refine XS.alloc ?_ _))); rintro e w2 ⟨x0, x1, x2, x6, x7, x8, y3, y4, y5, y9, b10, l10, c10, hx, rfl, hs, hk, hz⟩; have HS2 : Hid (XS w lb tb ob sb N q w2) := hs; have HK2 : Hid (XK w lb tb ob sb N w2) := ⟨_, hs⟩; have HE2 : Hid (X.W w2 (fun b => w.heap.size + 1 ≤ b ∧ b < w2.heap.size) [.int .i64 x0, .int .i64 x1, .int .i64 x2, .string y3, .string y4, .string y5, .int .i64 x6, .int .i64 x7, .int .i64 x8, .string y9, .slice b10 l10 c10]) := Ex.W.keep (fun b q => ⟨by have := hz1; have := q.1; (first | omega | (simp at this; omega)), q.2⟩) (fun _ _ => rfl) hx; have HR2 : Hid (w2.heap[w.heap.size]? = some (.cells #[.int .i64 0, .int .i64 0, .int .i64 0, .string ⟨#[]⟩, .string ⟨#[]⟩, .string ⟨#[]⟩, .int .i64 0, .int .i64 0, .int .i64 0, .string ⟨#[]⟩, .slice none 0 0] 43)) := (hk w.heap.size hz1 (by omega) (by omega)).trans HR1.out; have hz2 : w.heap.size < w2.heap.size := (Array.getElem?_eq_some_iff.1 HR2.out).1; clear hs hx hk hz)
      | (go_at_call 98; refine (CM.out w2 #[.int .i64 x0, .int .i64 x1, .int .i64 x2, .string y3, .string y4, .string y5, .int .i64 x6, .int .i64 x7, .int .i64 x8, .string y9, .slice b10 l10 c10] _ HS2.out ?_).mono ?_; (focus (repeat (first | with_reducible exact MK.new | with_reducible exact MK.newD | with_reducible refine MK.drew ?_))); rintro e W3 ⟨rfl, hs3, hk3, hh3⟩; have HS3 : Hid (XS w lb tb ob sb N (q + 1) W3) := hs3; have HK3 : Hid (XK w lb tb ob sb N W3) := ⟨_, hs3⟩; have HO3 := HidOf hk3; have HH3 := HidOf hh3; have HR3 : Hid (W3.heap[w.heap.size]? = some (.cells #[.int .i64 0, .int .i64 0, .int .i64 0, .string ⟨#[]⟩, .string ⟨#[]⟩, .string ⟨#[]⟩, .int .i64 0, .int .i64 0, .int .i64 0, .string ⟨#[]⟩, .slice none 0 0] 43)) := (hk3 w.heap.size hz2 (by omega)).trans HR2.out; obtain ⟨z0, z1, z2, z3, z4, z5, z6, z7, z8, z9, z10, z11, z12⟩ := bk11 HR3.out; clear hs3 hk3 hh3))
  all_goals
    obtain ⟨W4, hW4⟩ : ∃ W, W = (((((((((((W3).setCell ⟨w.heap.size, 0, none⟩ (.int .i64 10)).setCell ⟨w.heap.size, 1, none⟩ (.int .i64 0)).setCell ⟨w.heap.size, 2, none⟩ (.int .i64 0)).setCell ⟨w.heap.size, 3, none⟩ (.string ⟨#[]⟩)).setCell ⟨w.heap.size, 4, none⟩ (.string ⟨#[]⟩)).setCell ⟨w.heap.size, 5, none⟩ (.string ⟨#[]⟩)).setCell ⟨w.heap.size, 6, none⟩ (.int .i64 3)).setCell ⟨w.heap.size, 7, none⟩ (.int .i64 0)).setCell ⟨w.heap.size, 8, none⟩ (.int .i64 0)).setCell ⟨w.heap.size, 9, none⟩ (.string ⟨#[]⟩)).setCell ⟨w.heap.size, 10, none⟩ (.slice (some ⟨w2.heap.size, 0, none⟩) 1 1) := ⟨_, rfl⟩
    have hW5 : W4 = putL W3 w.heap.size 0 [.int .i64 10, .int .i64 0, .int .i64 0, .string ⟨#[]⟩, .string ⟨#[]⟩, .string ⟨#[]⟩, .int .i64 3, .int .i64 0, .int .i64 0, .string ⟨#[]⟩, .slice (some ⟨w2.heap.size, 0, none⟩) 1 1] := hW4
    have HZ4 : Hid (W4.heap[w.heap.size]? = some (.cells #[.int .i64 10, .int .i64 0, .int .i64 0, .string ⟨#[]⟩, .string ⟨#[]⟩, .string ⟨#[]⟩, .int .i64 3, .int .i64 0, .int .i64 0, .string ⟨#[]⟩, .slice (some ⟨w2.heap.size, 0, none⟩) 1 1] 43)) := by rw [hW5]; exact putL_same HR3.out _ rfl
    have HS4 : Hid (XS w lb tb ob sb N (q + 1) W4) := by rw [hW5]; exact HS3.out.put (Nat.le_refl _) hll hsl _
    have HH4 : Hid (W4.heap[w2.heap.size]? = some (.cells #[.int .i64 x0, .int .i64 x1, .int .i64 x2, .string y3, .string y4, .string y5, .int .i64 x6, .int .i64 x7, .int .i64 x8, .string y9, .slice b10 l10 c10] 43)) := by rw [hW5]; exact (putL_other (by omega) _ _ _).trans HH3.out
    have hz4 : w2.heap.size < W4.heap.size := (Array.getElem?_eq_some_iff.1 HH4.out).1
    have HE4 : Hid (X.W W4 (fun b => w.heap.size ≤ b ∧ b < W4.heap.size) [.int .i64 x0, .int .i64 x1, .int .i64 x2, .string y3, .string y4, .string y5, .int .i64 x6, .int .i64 x7, .int .i64 x8, .string y9, .slice b10 l10 c10]) := by
      rw [hW5] at hz4 ⊢
      exact Ex.W.keep (fun b q => ⟨by omega, by omega⟩) (fun b q => (putL_other (by omega) _ _ _).trans (HO3.out b q.2 (by omega))) HE2.out
    rw [← hW4]
    clear hW4 hW5
    go_wp2
    obtain ⟨y0', y1', y2', y3', y4', y5', y6', y7', y8', y9', y10', _, _⟩ := bk11 HZ4.out
    refine bodyPost_ret (v := .agg #[.int .i64 10, .int .i64 0, .int .i64 0, .string ⟨#[]⟩, .string ⟨#[]⟩, .string ⟨#[]⟩, .int .i64 3, .int .i64 0, .int .i64 0, .string ⟨#[]⟩, .slice (some ⟨w2.heap.size, 0, none⟩) 1 1]) (by simp [results, Tryz.results53, go_sem, y0', y1', y2', y3', y4', y5', y6', y7', y8', y9', y10']) rfl ⟨[.int .i64 10, .int .i64 0, .int .i64 0, .string ⟨#[]⟩, .string ⟨#[]⟩, .string ⟨#[]⟩, .int .i64 3, .int .i64 0, .int .i64 0, .string ⟨#[]⟩, .slice (some ⟨w2.heap.size, 0, none⟩) 1 1], ⟨some ⟨w2.heap.size, 0, none⟩, 1, rfl, ⟨by decide, by decide, by decide⟩, Nat.le_refl _, by decide, fun _ => ⟨w2.heap.size, 0, rfl, ⟨by omega, hz4⟩, fun i hi => ⟨[.int .i64 x0, .int .i64 x1, .int .i64 x2, .string y3, .string y4, .string y5, .int .i64 x6, .int .i64 x7, .int .i64 x8, .string y9, .slice b10 l10 c10], ?_, HE4.out⟩⟩⟩, rfl, HS4.out⟩
    obtain rfl : i = 0 := by omega
    intro j hj
    rw [show 0 + 0 * 11 + j = j by omega]
    have hj' : j < 11 := hj
    rw [World.cell?, HH4.out]
    match j, hj' with
    | 0, _ | 1, _ | 2, _ | 3, _ | 4, _ | 5, _ | 6, _ | 7, _ | 8, _ | 9, _ | 10, _ => rfl

set_option maxHeartbeats 6400000 in
theorem expr_make {n : Nat} {A : Nat → Ph} {it : It} {nm tn : ByteArray} {cn ax tk : Int} {N : ByteArray → Nat} {p q : Nat} {X : Ex} (hCA : ∀ (W : World) (lb tb ob sb : Nat) (S : Nat → Prop) (pb po : Nat) (u : List Value), XB W lb tb ob sb → XS W lb tb ob sb N p W → PhIn W lb sb pb po (phN 10 it nm cn ax tk tn n A) S u → Calls Tryz.prog 48 #[.pointer (some ⟨lb, 0, none⟩), .pointer (some ⟨pb, po, none⟩)] W fun e w' => e = .returned (.int .i64 0) ∧ Below W.heap.size W w') (h : RunF 53 (phN 10 it nm cn ax tk tn n A) N p q X) : RunE (phN 10 it nm cn ax tk tn n A) N p q X := by
  intro w lb tb ob sb S pb po u hB hX hP
  have HB := HidOf hB
  have HX := HidOf hX
  have HU := HidOf hP
  have HH := HidOf h
  have hll := hB.ll
  have hsl := hB.sl
  obtain ⟨aa, ac, a10, c10', hu, _⟩ := hP.v
  have hpw := (hP.h pb hP.s).1
  have hpl := (hP.h pb hP.s).2.1
  have CA : Hid (∀ W, XS w lb tb ob sb N p W → Calls Tryz.prog 48 #[.pointer (some ⟨lb, 0, none⟩), .pointer (some ⟨pb, po, none⟩)] W fun e w' => e = .returned (.int .i64 0) ∧ Below W.heap.size W w') := fun W hW => hCA W lb tb ob sb S pb po u (hB.at hW) hW.here (hP.at hW)
  have HC0 : Hid (∀ W, XS w lb tb ob sb N p W → W.cell? ⟨pb, po, none⟩ = some (.int .i64 10)) := fun W hW => (phAt_c (hu ▸ (hP.at hW).c)).c0
  have hne := hB.ls
  obtain ⟨_, _, _, _, l4, l5, l6⟩ := bk5 hX.l
  clear hB hX hP h hCA
  go_enter Tryz.func25, Tryz.ntmps25
  go_upto_region 3 with (go_at_call 48; refine (CA.out _ ?_).mono ?_; (· exact HX.out.alloc _); rintro e w1 ⟨rfl, hb1⟩; have HS0 : Hid (XS w lb tb ob sb N p w1) := (HX.out.alloc _).below hb1; have HR0 : Hid (w1.heap[w.heap.size]? = some (.cells #[.int .i64 0, .int .i64 0, .int .i64 0, .string ⟨#[]⟩, .string ⟨#[]⟩, .string ⟨#[]⟩, .int .i64 0, .int .i64 0, .int .i64 0, .string ⟨#[]⟩, .slice none 0 0] 43)) := ((hb1.block w.heap.size (by simp)).trans (heap_alloc_new _ _)); obtain ⟨_, _, _, _, m4, m5, m6⟩ := bk5 HS0.out.l; clear hb1)
  obtain ⟨W1, hW1⟩ : ∃ W, W = w1.setCell ⟨lb, 4, none⟩ (.int .i64 0) := ⟨_, rfl⟩
  have HS1 : Hid (XS w lb tb ob sb N p W1) := by rw [hW1]; exact HS0.out.zero hne
  have HR1 : Hid (W1.heap[w.heap.size]? = some (.cells #[.int .i64 0, .int .i64 0, .int .i64 0, .string ⟨#[]⟩, .string ⟨#[]⟩, .string ⟨#[]⟩, .int .i64 0, .int .i64 0, .int .i64 0, .string ⟨#[]⟩, .slice none 0 0] 43)) := by rw [hW1]; exact sOth HR0.out (by omega)
  have hz1 : w.heap.size < W1.heap.size := (Array.getElem?_eq_some_iff.1 HR1.out).1
  have c0 := HC0.out W1 HS1.out
  have hpb1 : pb < W1.heap.size := by omega
  rw [← hW1]
  clear hW1 m4 m5 m6 HS0 HR0 l4 l5
  obtain ⟨_, _, _, _, m4, m5, m6⟩ := bk5 HS1.out.l
  go_wp2_with (first
    | (go_at_call 53; refine (HH.out.use HB.out HS1.out HU.out).mono ?_; rintro e w2 ⟨x0, x1, x2, x6, x7, x8, y3, y4, y5, y9, b10, l10, c10, hx, rfl, hs, hk, hz⟩; have HS2 : Hid (XS w lb tb ob sb N q w2) := hs; have HE2 : Hid (X.W w2 (fun b => w.heap.size + 1 ≤ b ∧ b < w2.heap.size) [.int .i64 x0, .int .i64 x1, .int .i64 x2, .string y3, .string y4, .string y5, .int .i64 x6, .int .i64 x7, .int .i64 x8, .string y9, .slice b10 l10 c10]) := Ex.W.keep (fun b q => ⟨by have := hz1; omega, q.2⟩) (fun _ _ => rfl) hx; have HR2 : Hid (w2.heap[w.heap.size]? = some (.cells #[.int .i64 0, .int .i64 0, .int .i64 0, .string ⟨#[]⟩, .string ⟨#[]⟩, .string ⟨#[]⟩, .int .i64 0, .int .i64 0, .int .i64 0, .string ⟨#[]⟩, .slice none 0 0] 43)) := (hk w.heap.size hz1 (by omega) (by omega)).trans HR1.out; obtain ⟨z0, z1, z2, z3, z4, z5, z6, z7, z8, z9, z10, z11, z12⟩ := bk11 HR2.out; clear hs hx hk hz))
  obtain ⟨W9, hW9⟩ : ∃ W, W = (((((((((((w2).setCell ⟨w.heap.size, 0, none⟩ (.int .i64 x0)).setCell ⟨w.heap.size, 1, none⟩ (.int .i64 x1)).setCell ⟨w.heap.size, 2, none⟩ (.int .i64 x2)).setCell ⟨w.heap.size, 3, none⟩ (.string y3)).setCell ⟨w.heap.size, 4, none⟩ (.string y4)).setCell ⟨w.heap.size, 5, none⟩ (.string y5)).setCell ⟨w.heap.size, 6, none⟩ (.int .i64 x6)).setCell ⟨w.heap.size, 7, none⟩ (.int .i64 x7)).setCell ⟨w.heap.size, 8, none⟩ (.int .i64 x8)).setCell ⟨w.heap.size, 9, none⟩ (.string y9)).setCell ⟨w.heap.size, 10, none⟩ (.slice b10 l10 c10) := ⟨_, rfl⟩
  have hW8 : W9 = putL w2 w.heap.size 0 [.int .i64 x0, .int .i64 x1, .int .i64 x2, .string y3, .string y4, .string y5, .int .i64 x6, .int .i64 x7, .int .i64 x8, .string y9, .slice b10 l10 c10] := hW9
  have HZ9 : Hid (W9.heap[w.heap.size]? = some (.cells #[.int .i64 x0, .int .i64 x1, .int .i64 x2, .string y3, .string y4, .string y5, .int .i64 x6, .int .i64 x7, .int .i64 x8, .string y9, .slice b10 l10 c10] 43)) := by rw [hW8]; exact putL_same HR2.out _ rfl
  have HS9 : Hid (XS w lb tb ob sb N q W9) := by rw [hW8]; exact HS2.out.put (Nat.le_refl _) hll hsl _
  have HE9 : Hid (X.W W9 (fun b => w.heap.size ≤ b ∧ b < W9.heap.size) [.int .i64 x0, .int .i64 x1, .int .i64 x2, .string y3, .string y4, .string y5, .int .i64 x6, .int .i64 x7, .int .i64 x8, .string y9, .slice b10 l10 c10]) := by
    rw [hW8]
    have hz := (putL_below (B := 0) (b := w.heap.size) (w0 := w2) (Nat.zero_le _) [.int .i64 x0, .int .i64 x1, .int .i64 x2, .string y3, .string y4, .string y5, .int .i64 x6, .int .i64 x7, .int .i64 x8, .string y9, .slice b10 l10 c10] w2 0 (Below.refl _ _)).size
    exact Ex.W.keep (fun b q => ⟨by omega, Nat.lt_of_lt_of_le q.2 hz⟩) (fun b q => putL_other (by omega) _ _ _) HE2.out
  rw [← hW9]
  clear hW9 hW8
  obtain ⟨y0', y1', y2', y3', y4', y5', y6', y7', y8', y9', y10', _, _⟩ := bk11 HZ9.out
  exact bodyPost_ret (v := .agg #[.int .i64 x0, .int .i64 x1, .int .i64 x2, .string y3, .string y4, .string y5, .int .i64 x6, .int .i64 x7, .int .i64 x8, .string y9, .slice b10 l10 c10]) (by simp [results, Tryz.results25, go_sem, y0', y1', y2', y3', y4', y5', y6', y7', y8', y9', y10']) rfl ⟨[.int .i64 x0, .int .i64 x1, .int .i64 x2, .string y3, .string y4, .string y5, .int .i64 x6, .int .i64 x7, .int .i64 x8, .string y9, .slice b10 l10 c10], HE9.out, rfl, HS9.out⟩

end Go.Proofs.YtcbpjgnbdpfiiaaGreatDoor
