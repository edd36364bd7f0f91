/-
  RULES of package core: a call as an expression.
-/
import Derived.Test.YtcbpjgnbdpfiiaaGreatDoorLxD
set_option linter.unusedVariables false
namespace Go.Proofs.YtcbpjgnbdpfiiaaGreatDoor
set_option maxRecDepth 100000
open Go.RowKit Go.WideShapes

/-- a rule of a function of a lowering and a phrase -/
def RunF (f : Nat) (ph : Ph) (N : ByteArray → Nat) (p q : Nat) (X : Ex) : Prop := ∀ (w : World) (lb tb ob sb : Nat) (S : Nat → Prop) (pb po : Nat) (u : List Value), XB w lb tb ob sb → XS w lb tb ob sb N p w → PhIn w lb sb pb po ph S u →
  Calls Tryz.prog f #[.pointer (some ⟨lb, 0, none⟩), .pointer (some ⟨pb, po, none⟩)] w fun e w' => ∃ v, X.W w' (fun b => w.heap.size ≤ b ∧ b < w'.heap.size) v ∧ e = .returned (.agg v.toArray) ∧ XS w lb tb ob sb N q w'
theorem RunF.use {f : Nat} {ph : Ph} {N : ByteArray → Nat} {p q : Nat} {X : Ex} (h : RunF f ph N p q X) {w0 W : World} {lb tb ob sb pb po : Nat} {S : Nat → Prop} {u : List Value} (hB : XB w0 lb tb ob sb) (hX : XS w0 lb tb ob sb N p W) (hP : PhIn w0 lb sb pb po ph S u) :
    Calls Tryz.prog f #[.pointer (some ⟨lb, 0, none⟩), .pointer (some ⟨pb, po, none⟩)] W fun e w' => ∃ (x0 x1 x2 x6 x7 x8 : Int) (y3 y4 y5 y9 : ByteArray) (b10 : Option Addr) (l10 c10 : Nat), X.W w' (fun b => W.heap.size ≤ b ∧ b < w'.heap.size) [.int .i64 x0, .int .i64 x1, .int .i64 x2, .string y3, .string y4, .string y5, .int .i64 x6, .int .i64 x7, .int .i64 x8, .string y9, .slice b10 l10 c10] ∧ e = .returned (.agg #[.int .i64 x0, .int .i64 x1, .int .i64 x2, .string y3, .string y4, .string y5, .int .i64 x6, .int .i64 x7, .int .i64 x8, .string y9, .slice b10 l10 c10]) ∧ XS w0 lb tb ob sb N q w' ∧ (∀ b, b < W.heap.size → b ≠ lb → b ≠ sb → w'.heap[b]? = W.heap[b]?) ∧ W.heap.size ≤ w'.heap.size :=
  (h W lb tb ob sb S pb po u (hB.at hX) hX.here (hP.at hX)).mono fun e w' ⟨v, h1, h2, h3⟩ => by
    obtain ⟨x0, x1, x2, x6, x7, x8, y3, y4, y5, y9, b10, l10, c10, rfl⟩ := h1.form
    exact ⟨x0, x1, x2, x6, x7, x8, y3, y4, y5, y9, b10, l10, c10, h1, h2, hX.trans h3, h3.k, h3.z⟩
theorem XS.zero {w0 W : World} {lb tb ob sb : Nat} {N : ByteArray → Nat} {p : Nat} (h : XS w0 lb tb ob sb N p W) (hn : lb ≠ sb) : XS w0 lb tb ob sb N p (W.setCell ⟨lb, 4, none⟩ (.int .i64 0)) := by
  have e : ∀ b, b ≠ lb → (W.setCell ⟨lb, 4, none⟩ (.int .i64 0)).heap[b]? = W.heap[b]? := fun b hb => Below.heap_setCell _ _ _ _ (by simpa using hb)
  exact ⟨heap_set_same h.l 4 _, h.s.keep (e sb (Ne.symm hn)), by simpa using h.z, h.os, h.tape, h.output, fun b h0 h1 h2 => (e b h1).trans (h.k b h0 h1 h2)⟩
set_option maxHeartbeats 6400000 in
theorem withParts_call {n : Nat} {A : Nat → Ph} {it : It} {nm tn : ByteArray} {cn ax tk : Int} {N : ByteArray → Nat} {p q : Nat} {X : Ex} (h : RunF 101 (phN 8 it nm cn ax tk tn n A) N p q X) : RunF 53 (phN 8 it nm cn ax tk tn n A) N p q X := by
  intro w lb tb ob sb S pb po u hB hX hP
  have HB := HidOf hB
  have HX := HidOf hX
  have HU := HidOf hP
  have HH := HidOf h
  have hll := hB.ll
  have hsl := hB.sl
  obtain ⟨aa, ac, a10, c10', hu, _⟩ := hP.v
  have hpw := (hP.h pb hP.s).1
  have hpl := (hP.h pb hP.s).2.1
  have e0 := (phAt_c (hu ▸ hP.c)).c0
  clear hB hX hP h
  go_enter Tryz.func53, Tryz.ntmps53
  go_upto_region 12 with fail
  obtain ⟨W1, hW1⟩ : ∃ W, W = w.alloc (.cells #[.int .i64 0, .int .i64 0, .int .i64 0, .string ⟨#[]⟩, .string ⟨#[]⟩, .string ⟨#[]⟩, .int .i64 0, .int .i64 0, .int .i64 0, .string ⟨#[]⟩, .slice none 0 0] 43) := ⟨_, rfl⟩
  have HS1 : Hid (XS w lb tb ob sb N p W1) := by rw [hW1]; exact HX.out.alloc _
  have HR1 : Hid (W1.heap[w.heap.size]? = some (.cells #[.int .i64 0, .int .i64 0, .int .i64 0, .string ⟨#[]⟩, .string ⟨#[]⟩, .string ⟨#[]⟩, .int .i64 0, .int .i64 0, .int .i64 0, .string ⟨#[]⟩, .slice none 0 0] 43)) := by rw [hW1]; exact heap_alloc_new _ _
  have hz1 : w.heap.size < W1.heap.size := (Array.getElem?_eq_some_iff.1 HR1.out).1
  rw [← hW1]
  clear hW1 e0
  go_wp2_with (first
    | (go_at_call 101; refine (HH.out.use HB.out HS1.out HU.out).mono ?_; rintro e w2 ⟨x0, x1, x2, x6, x7, x8, y3, y4, y5, y9, b10, l10, c10, hx, rfl, hs, hk, hz⟩; have HS2 : Hid (XS w lb tb ob sb N q w2) := hs; have HE2 : Hid (X.W w2 (fun b => w.heap.size + 1 ≤ b ∧ b < w2.heap.size) [.int .i64 x0, .int .i64 x1, .int .i64 x2, .string y3, .string y4, .string y5, .int .i64 x6, .int .i64 x7, .int .i64 x8, .string y9, .slice b10 l10 c10]) := Ex.W.keep (fun b q => ⟨by have := hz1; omega, q.2⟩) (fun _ _ => rfl) hx; have HR2 : Hid (w2.heap[w.heap.size]? = some (.cells #[.int .i64 0, .int .i64 0, .int .i64 0, .string ⟨#[]⟩, .string ⟨#[]⟩, .string ⟨#[]⟩, .int .i64 0, .int .i64 0, .int .i64 0, .string ⟨#[]⟩, .slice none 0 0] 43)) := (hk w.heap.size hz1 (by omega) (by omega)).trans HR1.out; obtain ⟨z0, z1, z2, z3, z4, z5, z6, z7, z8, z9, z10, z11, z12⟩ := bk11 HR2.out; clear hs hx hk hz))
  obtain ⟨W9, hW9⟩ : ∃ W, W = (((((((((((w2).setCell ⟨w.heap.size, 0, none⟩ (.int .i64 x0)).setCell ⟨w.heap.size, 1, none⟩ (.int .i64 x1)).setCell ⟨w.heap.size, 2, none⟩ (.int .i64 x2)).setCell ⟨w.heap.size, 3, none⟩ (.string y3)).setCell ⟨w.heap.size, 4, none⟩ (.string y4)).setCell ⟨w.heap.size, 5, none⟩ (.string y5)).setCell ⟨w.heap.size, 6, none⟩ (.int .i64 x6)).setCell ⟨w.heap.size, 7, none⟩ (.int .i64 x7)).setCell ⟨w.heap.size, 8, none⟩ (.int .i64 x8)).setCell ⟨w.heap.size, 9, none⟩ (.string y9)).setCell ⟨w.heap.size, 10, none⟩ (.slice b10 l10 c10) := ⟨_, rfl⟩
  have hW8 : W9 = putL w2 w.heap.size 0 [.int .i64 x0, .int .i64 x1, .int .i64 x2, .string y3, .string y4, .string y5, .int .i64 x6, .int .i64 x7, .int .i64 x8, .string y9, .slice b10 l10 c10] := hW9
  have HZ9 : Hid (W9.heap[w.heap.size]? = some (.cells #[.int .i64 x0, .int .i64 x1, .int .i64 x2, .string y3, .string y4, .string y5, .int .i64 x6, .int .i64 x7, .int .i64 x8, .string y9, .slice b10 l10 c10] 43)) := by rw [hW8]; exact putL_same HR2.out _ rfl
  have HS9 : Hid (XS w lb tb ob sb N q W9) := by rw [hW8]; exact HS2.out.put (Nat.le_refl _) hll hsl _
  have HE9 : Hid (X.W W9 (fun b => w.heap.size ≤ b ∧ b < W9.heap.size) [.int .i64 x0, .int .i64 x1, .int .i64 x2, .string y3, .string y4, .string y5, .int .i64 x6, .int .i64 x7, .int .i64 x8, .string y9, .slice b10 l10 c10]) := by
    rw [hW8]
    have hz := (putL_below (B := 0) (b := w.heap.size) (w0 := w2) (Nat.zero_le _) [.int .i64 x0, .int .i64 x1, .int .i64 x2, .string y3, .string y4, .string y5, .int .i64 x6, .int .i64 x7, .int .i64 x8, .string y9, .slice b10 l10 c10] w2 0 (Below.refl _ _)).size
    exact Ex.W.keep (fun b q => ⟨by omega, Nat.lt_of_lt_of_le q.2 hz⟩) (fun b q => putL_other (by omega) _ _ _) HE2.out
  rw [← hW9]
  clear hW9 hW8
  obtain ⟨y0', y1', y2', y3', y4', y5', y6', y7', y8', y9', y10', _, _⟩ := bk11 HZ9.out
  exact bodyPost_ret (v := .agg #[.int .i64 x0, .int .i64 x1, .int .i64 x2, .string y3, .string y4, .string y5, .int .i64 x6, .int .i64 x7, .int .i64 x8, .string y9, .slice b10 l10 c10]) (by simp [results, Tryz.results53, go_sem, y0', y1', y2', y3', y4', y5', y6', y7', y8', y9', y10']) rfl ⟨[.int .i64 x0, .int .i64 x1, .int .i64 x2, .string y3, .string y4, .string y5, .int .i64 x6, .int .i64 x7, .int .i64 x8, .string y9, .slice b10 l10 c10], HE9.out, rfl, HS9.out⟩
set_option maxHeartbeats 6400000 in
theorem expr_call {n : Nat} {A : Nat → Ph} {it : It} {nm tn : ByteArray} {cn ax tk : Int} {N : ByteArray → Nat} {p q : Nat} {X : Ex} (hCA : ∀ (W : World) (lb tb ob sb : Nat) (S : Nat → Prop) (pb po : Nat) (u : List Value), XB W lb tb ob sb → XS W lb tb ob sb N p W → PhIn W lb sb pb po (phN 8 it nm cn ax tk tn n A) S u → Calls Tryz.prog 48 #[.pointer (some ⟨lb, 0, none⟩), .pointer (some ⟨pb, po, none⟩)] W fun e w' => e = .returned (.int .i64 0) ∧ Below W.heap.size W w') (h : RunF 53 (phN 8 it nm cn ax tk tn n A) N p q X) : RunE (phN 8 it nm cn ax tk tn n A) N p q X := by
  intro w lb tb ob sb S pb po u hB hX hP
  have HB := HidOf hB
  have HX := HidOf hX
  have HU := HidOf hP
  have HH := HidOf h
  have hll := hB.ll
  have hsl := hB.sl
  obtain ⟨aa, ac, a10, c10', hu, _⟩ := hP.v
  have hpw := (hP.h pb hP.s).1
  have hpl := (hP.h pb hP.s).2.1
  have CA : Hid (∀ W, XS w lb tb ob sb N p W → Calls Tryz.prog 48 #[.pointer (some ⟨lb, 0, none⟩), .pointer (some ⟨pb, po, none⟩)] W fun e w' => e = .returned (.int .i64 0) ∧ Below W.heap.size W w') := fun W hW => hCA W lb tb ob sb S pb po u (hB.at hW) hW.here (hP.at hW)
  have HC0 : Hid (∀ W, XS w lb tb ob sb N p W → W.cell? ⟨pb, po, none⟩ = some (.int .i64 8)) := fun W hW => (phAt_c (hu ▸ (hP.at hW).c)).c0
  have hne := hB.ls
  obtain ⟨_, _, _, _, l4, l5, l6⟩ := bk5 hX.l
  clear hB hX hP h hCA
  go_enter Tryz.func25, Tryz.ntmps25
  go_upto_region 3 with (go_at_call 48; refine (CA.out _ ?_).mono ?_; (· exact HX.out.alloc _); rintro e w1 ⟨rfl, hb1⟩; have HS0 : Hid (XS w lb tb ob sb N p w1) := (HX.out.alloc _).below hb1; have HR0 : Hid (w1.heap[w.heap.size]? = some (.cells #[.int .i64 0, .int .i64 0, .int .i64 0, .string ⟨#[]⟩, .string ⟨#[]⟩, .string ⟨#[]⟩, .int .i64 0, .int .i64 0, .int .i64 0, .string ⟨#[]⟩, .slice none 0 0] 43)) := ((hb1.block w.heap.size (by simp)).trans (heap_alloc_new _ _)); obtain ⟨_, _, _, _, m4, m5, m6⟩ := bk5 HS0.out.l; clear hb1)
  obtain ⟨W1, hW1⟩ : ∃ W, W = w1.setCell ⟨lb, 4, none⟩ (.int .i64 0) := ⟨_, rfl⟩
  have HS1 : Hid (XS w lb tb ob sb N p W1) := by rw [hW1]; exact HS0.out.zero hne
  have HR1 : Hid (W1.heap[w.heap.size]? = some (.cells #[.int .i64 0, .int .i64 0, .int .i64 0, .string ⟨#[]⟩, .string ⟨#[]⟩, .string ⟨#[]⟩, .int .i64 0, .int .i64 0, .int .i64 0, .string ⟨#[]⟩, .slice none 0 0] 43)) := by rw [hW1]; exact sOth HR0.out (by omega)
  have hz1 : w.heap.size < W1.heap.size := (Array.getElem?_eq_some_iff.1 HR1.out).1
  have c0 := HC0.out W1 HS1.out
  have hpb1 : pb < W1.heap.size := by omega
  rw [← hW1]
  clear hW1 m4 m5 m6 HS0 HR0 l4 l5
  obtain ⟨_, _, _, _, m4, m5, m6⟩ := bk5 HS1.out.l
  go_wp2_with (first
    | (go_at_call 53; refine (HH.out.use HB.out HS1.out HU.out).mono ?_; rintro e w2 ⟨x0, x1, x2, x6, x7, x8, y3, y4, y5, y9, b10, l10, c10, hx, rfl, hs, hk, hz⟩; have HS2 : Hid (XS w lb tb ob sb N q w2) := hs; have HE2 : Hid (X.W w2 (fun b => w.heap.size + 1 ≤ b ∧ b < w2.heap.size) [.int .i64 x0, .int .i64 x1, .int .i64 x2, .string y3, .string y4, .string y5, .int .i64 x6, .int .i64 x7, .int .i64 x8, .string y9, .slice b10 l10 c10]) := Ex.W.keep (fun b q => ⟨by have := hz1; omega, q.2⟩) (fun _ _ => rfl) hx; have HR2 : Hid (w2.heap[w.heap.size]? = some (.cells #[.int .i64 0, .int .i64 0, .int .i64 0, .string ⟨#[]⟩, .string ⟨#[]⟩, .string ⟨#[]⟩, .int .i64 0, .int .i64 0, .int .i64 0, .string ⟨#[]⟩, .slice none 0 0] 43)) := (hk w.heap.size hz1 (by omega) (by omega)).trans HR1.out; obtain ⟨z0, z1, z2, z3, z4, z5, z6, z7, z8, z9, z10, z11, z12⟩ := bk11 HR2.out; clear hs hx hk hz))
  obtain ⟨W9, hW9⟩ : ∃ W, W = (((((((((((w2).setCell ⟨w.heap.size, 0, none⟩ (.int .i64 x0)).setCell ⟨w.heap.size, 1, none⟩ (.int .i64 x1)).setCell ⟨w.heap.size, 2, none⟩ (.int .i64 x2)).setCell ⟨w.heap.size, 3, none⟩ (.string y3)).setCell ⟨w.heap.size, 4, none⟩ (.string y4)).setCell ⟨w.heap.size, 5, none⟩ (.string y5)).setCell ⟨w.heap.size, 6, none⟩ (.int .i64 x6)).setCell ⟨w.heap.size, 7, none⟩ (.int .i64 x7)).setCell ⟨w.heap.size, 8, none⟩ (.int .i64 x8)).setCell ⟨w.heap.size, 9, none⟩ (.string y9)).setCell ⟨w.heap.size, 10, none⟩ (.slice b10 l10 c10) := ⟨_, rfl⟩
  have hW8 : W9 = putL w2 w.heap.size 0 [.int .i64 x0, .int .i64 x1, .int .i64 x2, .string y3, .string y4, .string y5, .int .i64 x6, .int .i64 x7, .int .i64 x8, .string y9, .slice b10 l10 c10] := hW9
  have HZ9 : Hid (W9.heap[w.heap.size]? = some (.cells #[.int .i64 x0, .int .i64 x1, .int .i64 x2, .string y3, .string y4, .string y5, .int .i64 x6, .int .i64 x7, .int .i64 x8, .string y9, .slice b10 l10 c10] 43)) := by rw [hW8]; exact putL_same HR2.out _ rfl
  have HS9 : Hid (XS w lb tb ob sb N q W9) := by rw [hW8]; exact HS2.out.put (Nat.le_refl _) hll hsl _
  have HE9 : Hid (X.W W9 (fun b => w.heap.size ≤ b ∧ b < W9.heap.size) [.int .i64 x0, .int .i64 x1, .int .i64 x2, .string y3, .string y4, .string y5, .int .i64 x6, .int .i64 x7, .int .i64 x8, .string y9, .slice b10 l10 c10]) := by
    rw [hW8]
    have hz := (putL_below (B := 0) (b := w.heap.size) (w0 := w2) (Nat.zero_le _) [.int .i64 x0, .int .i64 x1, .int .i64 x2, .string y3, .string y4, .string y5, .int .i64 x6, .int .i64 x7, .int .i64 x8, .string y9, .slice b10 l10 c10] w2 0 (Below.refl _ _)).size
    exact Ex.W.keep (fun b q => ⟨by omega, Nat.lt_of_lt_of_le q.2 hz⟩) (fun b q => putL_other (by omega) _ _ _) HE2.out
  rw [← hW9]
  clear hW9 hW8
  obtain ⟨y0', y1', y2', y3', y4', y5', y6', y7', y8', y9', y10', _, _⟩ := bk11 HZ9.out
  exact bodyPost_ret (v := .agg #[.int .i64 x0, .int .i64 x1, .int .i64 x2, .string y3, .string y4, .string y5, .int .i64 x6, .int .i64 x7, .int .i64 x8, .string y9, .slice b10 l10 c10]) (by simp [results, Tryz.results25, go_sem, y0', y1', y2', y3', y4', y5', y6', y7', y8', y9', y10']) rfl ⟨[.int .i64 x0, .int .i64 x1, .int .i64 x2, .string y3, .string y4, .string y5, .int .i64 x6, .int .i64 x7, .int .i64 x8, .string y9, .slice b10 l10 c10], HE9.out, rfl, HS9.out⟩
end Go.Proofs.YtcbpjgnbdpfiiaaGreatDoor
