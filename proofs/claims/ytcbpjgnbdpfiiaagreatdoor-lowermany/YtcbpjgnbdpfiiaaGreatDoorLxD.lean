/-
  CONTRACT of package core: called, of a name that is in the table.
-/
import Derived.Test.YtcbpjgnbdpfiiaaGreatDoorLcF
import Derived.Test.YtcbpjgnbdpfiiaaGreatDoorPtLst
import Derived.Test.YtcbpjgnbdpfiiaaGreatDoorLaidP
import Derived.Sort.AtCall
import Derived.Deep.RegionHeld3
set_option linter.unusedVariables false
namespace Go.Proofs.YtcbpjgnbdpfiiaaGreatDoor
set_option maxRecDepth 100000
open Go.RowKit Go.WideShapes

def exL (k : Int) (it : It) (nm a : ByteArray) (n ax tk : Int) (tn : ByteArray) (v : Value) : List Value := [.int .i64 k, .int .i64 it.kind, .int .i64 it.n, .string it.s, .string nm, .string a, .int .i64 n, .int .i64 ax, .int .i64 tk, .string tn, v]
/-- an expression's eleven values, and all that hangs on them in blocks of a set -/
def Ex.W (w : World) (S : Nat → Prop) : Ex → List Value → Prop
  | .no, _ => False
  | .mk k it nm a n ax tk tn m A, v => ∃ sl cap, v = exL k it nm a n ax tk tn (.slice sl m cap) ∧ (it.s.size ≤ maxLen ∧ nm.size ≤ maxLen ∧ a.size ≤ maxLen) ∧ m ≤ cap ∧ cap ≤ maxLen ∧ (0 < m → ∃ g o, sl = some ⟨g, o, none⟩ ∧ S g ∧ ∀ i, i < m → ∃ u, cAt w g (o + i * 11) u ∧ (A i).W w S u)
theorem Ex.W.keep {w w' : World} {S S' : Nat → Prop} (hS : ∀ b, S b → S' b) (hk : ∀ b, S b → w'.heap[b]? = w.heap[b]?) : ∀ {x : Ex} {v : List Value}, x.W w S v → x.W w' S' v := by
  intro x
  induction x with
  | no => intro v h; exact h
  | mk k it nm a n ax tk tn m A ih =>
    intro v h
    obtain ⟨sl, cap, h1, h2, h3, h4, h5⟩ := h
    refine ⟨sl, cap, h1, h2, h3, h4, fun hn => ?_⟩
    obtain ⟨g, o, q1, q2, q3⟩ := h5 hn
    refine ⟨g, o, q1, hS _ q2, fun i hi => ?_⟩
    obtain ⟨u, r1, r2⟩ := q3 i hi
    exact ⟨u, r1.keep (hk g q2), ih i r2⟩
theorem Ex.W.form {w : World} {S : Nat → Prop} {x : Ex} {v : List Value} (h : x.W w S v) : ∃ (x0 x1 x2 x6 x7 x8 : Int) (y3 y4 y5 y9 : ByteArray) (b10 : Option Addr) (l10 c10 : Nat), v = [.int .i64 x0, .int .i64 x1, .int .i64 x2, .string y3, .string y4, .string y5, .int .i64 x6, .int .i64 x7, .int .i64 x8, .string y9, .slice b10 l10 c10] := by
  cases x with
  | no => exact h.elim
  | mk k it nm a n ax tk tn m A =>
    obtain ⟨sl, cap, h1, _⟩ := h
    exact ⟨k, it.kind, it.n, n, ax, tk, it.s, nm, a, tn, sl, m, cap, h1⟩
theorem Ex.W.len {w : World} {S : Nat → Prop} {x : Ex} {v : List Value} (h : x.W w S v) : v.length = 11 := by
  obtain ⟨x0, x1, x2, x6, x7, x8, y3, y4, y5, y9, b10, l10, c10, rfl⟩ := h.form
  rfl
theorem Ex.W.ones {w : World} {S : Nat → Prop} {x : Ex} {v : List Value} (h : x.W w S v) : ∀ u ∈ v, u.oneCell' = true := by
  obtain ⟨x0, x1, x2, x6, x7, x8, y3, y4, y5, y9, b10, l10, c10, rfl⟩ := h.form
  intro u hu
  simp at hu
  rcases hu with rfl | rfl | rfl | rfl | rfl | rfl | rfl | rfl | rfl | rfl | rfl <;> rfl
/-- as core.Check's contract wants it -/
theorem Ex.W.at {w : World} {S : Nat → Prop} {B : Nat} (hS : ∀ b, S b → b < B) : ∀ {x : Ex} {v : List Value} {b off : Nat}, x.W w S v → cAt w b off v → b < B → x.At w B b off := by
  intro x
  induction x with
  | no => intro v b off h; exact h.elim
  | mk k it nm a n ax tk tn m A ih =>
    intro v b off h hc hb
    obtain ⟨sl, cap, h1, ⟨s1, s2, s3⟩, h3, h4, h5⟩ := h
    subst h1
    refine ⟨hb, sl, cap, ⟨hc 0 (by simp [exL]), hc 1 (by simp [exL]), hc 2 (by simp [exL]), hc 3 (by simp [exL]), hc 4 (by simp [exL]), hc 5 (by simp [exL]), hc 6 (by simp [exL]), hc 7 (by simp [exL]), hc 8 (by simp [exL]), hc 9 (by simp [exL]), hc 10 (by simp [exL]), s1, s2, s3⟩, h3, h4, fun hn => ?_⟩
    obtain ⟨g, o, q1, q2, q3⟩ := h5 hn
    refine ⟨g, o, q1, hS g q2, fun i hi => ?_⟩
    obtain ⟨u, r1, r2⟩ := q3 i hi
    exact ih i r2 r1 (hS g q2)
theorem Ex.W.val {w : World} {S : Nat → Prop} {B : Nat} (hS : ∀ b, S b → b < B) {x : Ex} {v : List Value} (h : x.W w S v) : x.V w B (.agg v.toArray) := by
  cases x with
  | no => exact h.elim
  | mk k it nm a n ax tk tn m A =>
    obtain ⟨sl, cap, h1, ⟨s1, s2, s3⟩, h3, h4, h5⟩ := h
    subst h1
    refine ⟨sl, cap, rfl, s1, s2, s3, h3, h4, fun hn => ?_⟩
    obtain ⟨g, o, q1, q2, q3⟩ := h5 hn
    refine ⟨g, o, q1, hS g q2, fun i hi => ?_⟩
    obtain ⟨u, r1, r2⟩ := q3 i hi
    exact r2.at hS r1 (hS g q2)
def exN (k : Int) (it : It) (nm a : ByteArray) (n : Int) (m : Nat) (A : Nat → Ex) : Ex := .mk k it nm a n 0 0 ⟨#[]⟩ m A
/-- expressions as elements -/
def ExE (X : Nat → Ex) (i : Nat) (w : World) (S : Nat → Prop) (u : List Value) : Prop := (X i).W w S u
theorem ExE.keeps (X : Nat → Ex) : ∀ i, Keeps (ExE X i) := fun i w w' S S' u h1 h2 h3 => Ex.W.keep h1 h2 h3
/-- the state of a lowering, in a world W behind w0 -/
structure XS (w0 : World) (lb tb ob sb : Nat) (N : ByteArray → Nat) (p : Nat) (W : World) : Prop where
  l : W.heap[lb]? = some (.cells #[.map (some tb), .map (some ob), .map (some sb), .int .i64 (p : Int), .int .i64 0] 78)
  s : SMap W sb N
  z : w0.heap.size ≤ W.heap.size
  os : W.os = w0.os
  tape : W.tape = w0.tape
  output : W.output = w0.output
  k : ∀ b, b < w0.heap.size → b ≠ lb → b ≠ sb → W.heap[b]? = w0.heap[b]?
/-- what stands still beneath a lowering -/
structure XB (w0 : World) (lb tb ob sb : Nat) : Prop where
  t : VMap w0 tb callsV
  o : VMap w0 ob opersV
  ls : lb ≠ sb
  tl : tb ≠ lb
  ts : tb ≠ sb
  ol : ob ≠ lb
  os : ob ≠ sb
  ll : lb < w0.heap.size
  sl : sb < w0.heap.size
  u : ∃ B0, (B0 ≤ lb ∧ B0 ≤ sb) ∧ ∀ W, Below B0 w0 W → Tabs W
theorem XS.refl {w0 : World} {lb tb ob sb : Nat} {N : ByteArray → Nat} {p : Nat} (h1 : w0.heap[lb]? = some (.cells #[.map (some tb), .map (some ob), .map (some sb), .int .i64 (p : Int), .int .i64 0] 78)) (h2 : SMap w0 sb N) : XS w0 lb tb ob sb N p w0 := ⟨h1, h2, Nat.le_refl _, rfl, rfl, rfl, fun _ _ _ _ => rfl⟩
theorem XS.here {w0 W : World} {lb tb ob sb : Nat} {N : ByteArray → Nat} {p : Nat} (h : XS w0 lb tb ob sb N p W) : XS W lb tb ob sb N p W := XS.refl h.l h.s
theorem XS.trans {w0 w1 W : World} {lb tb ob sb : Nat} {N N' : ByteArray → Nat} {p q : Nat} (h : XS w0 lb tb ob sb N p w1) (h' : XS w1 lb tb ob sb N' q W) : XS w0 lb tb ob sb N' q W := ⟨h'.l, h'.s, Nat.le_trans h.z h'.z, h'.os.trans h.os, h'.tape.trans h.tape, h'.output.trans h.output, fun b hb h1 h2 => (h'.k b (Nat.lt_of_lt_of_le hb h.z) h1 h2).trans (h.k b hb h1 h2)⟩
theorem XS.below {w0 W W' : World} {lb tb ob sb : Nat} {N : ByteArray → Nat} {p : Nat} (h : XS w0 lb tb ob sb N p W) (hb : Below W.heap.size W W') : XS w0 lb tb ob sb N p W' := ⟨(hb.block lb (Array.getElem?_eq_some_iff.1 h.l).1).trans h.l, h.s.keep (hb.block sb h.s.lt), Nat.le_trans h.z hb.size, hb.os.trans h.os, hb.tape.trans h.tape, hb.output.trans h.output, fun b h0 h1 h2 => (hb.block b (Nat.lt_of_lt_of_le h0 h.z)).trans (h.k b h0 h1 h2)⟩
theorem XS.alloc {w0 W : World} {lb tb ob sb : Nat} {N : ByteArray → Nat} {p : Nat} (h : XS w0 lb tb ob sb N p W) (o : Obj) : XS w0 lb tb ob sb N p (W.alloc o) := h.below ((Below.refl _ _).alloc (Nat.le_refl _) o)
theorem XS.low {w0 W : World} {lb tb ob sb B0 : Nat} {N : ByteArray → Nat} {p : Nat} (h : XS w0 lb tb ob sb N p W) (h1 : B0 ≤ lb) (h2 : B0 ≤ sb) (h3 : lb < w0.heap.size) : Below B0 w0 W := ⟨h.os, h.tape, h.output, h.z, fun b hb => h.k b (by omega) (by omega) (by omega)⟩
theorem XB.at {w0 W : World} {lb tb ob sb : Nat} {N : ByteArray → Nat} {p : Nat} (h : XB w0 lb tb ob sb) (hs : XS w0 lb tb ob sb N p W) : XB W lb tb ob sb := by
  obtain ⟨B0, ⟨h1, h2⟩, h3⟩ := h.u
  exact ⟨h.t.keep (hs.k tb h.t.lt h.tl h.ts), h.o.keep (hs.k ob h.o.lt h.ol h.os), h.ls, h.tl, h.ts, h.ol, h.os, Nat.lt_of_lt_of_le h.ll hs.z, Nat.lt_of_lt_of_le h.sl hs.z, B0, ⟨h1, h2⟩, fun V hV => h3 V ((hs.low h1 h2 h.ll).trans (hV.mono (Nat.le_refl _)))⟩
/-- where a phrase lies that is lowered -/
structure PhIn (w : World) (lb sb pb po : Nat) (ph : Ph) (S : Nat → Prop) (u : List Value) : Prop where
  c : cAt w pb po u
  v : ph.V w S u
  s : S pb
  h : ∀ b, S b → b < w.heap.size ∧ b ≠ lb ∧ b ≠ sb
theorem PhIn.at {w0 W : World} {lb tb ob sb pb po : Nat} {N : ByteArray → Nat} {p : Nat} {ph : Ph} {S : Nat → Prop} {u : List Value} (h : PhIn w0 lb sb pb po ph S u) (hs : XS w0 lb tb ob sb N p W) : PhIn W lb sb pb po ph S u :=
  ⟨h.c.keep (hs.k pb (h.h pb h.s).1 (h.h pb h.s).2.1 (h.h pb h.s).2.2), Ph.V.keep (fun _ q => q) (fun b q => hs.k b (h.h b q).1 (h.h b q).2.1 (h.h b q).2.2) h.v, h.s, fun b q => ⟨Nat.lt_of_lt_of_le (h.h b q).1 hs.z, (h.h b q).2⟩⟩
/-- a rule: a phrase is lowered to an expression, and so many parts are made -/
def RunE (ph : Ph) (N : ByteArray → Nat) (p q : Nat) (X : Ex) : Prop := ∀ (w : World) (lb tb ob sb : Nat) (S : Nat → Prop) (pb po : Nat) (u : List Value), XB w lb tb ob sb → XS w lb tb ob sb N p w → PhIn w lb sb pb po ph S u →
  Calls Tryz.prog 25 #[.pointer (some ⟨lb, 0, none⟩), .pointer (some ⟨pb, po, none⟩)] w fun e w' => ∃ v, X.W w' (fun b => w.heap.size ≤ b ∧ b < w'.heap.size) v ∧ e = .returned (.agg v.toArray) ∧ XS w lb tb ob sb N q w'
theorem RunE.use {ph : Ph} {N : ByteArray → Nat} {p q : Nat} {X : Ex} (h : RunE ph N p q X) {w0 W : World} {lb tb ob sb pb po : Nat} {S : Nat → Prop} {u : List Value} (hB : XB w0 lb tb ob sb) (hX : XS w0 lb tb ob sb N p W) (hP : PhIn w0 lb sb pb po ph S u) :
    Calls Tryz.prog 25 #[.pointer (some ⟨lb, 0, none⟩), .pointer (some ⟨pb, po, none⟩)] W fun e w' => ∃ (x0 x1 x2 x6 x7 x8 : Int) (y3 y4 y5 y9 : ByteArray) (b10 : Option Addr) (l10 c10 : Nat), X.W w' (fun b => W.heap.size ≤ b ∧ b < w'.heap.size) [.int .i64 x0, .int .i64 x1, .int .i64 x2, .string y3, .string y4, .string y5, .int .i64 x6, .int .i64 x7, .int .i64 x8, .string y9, .slice b10 l10 c10] ∧ e = .returned (.agg #[.int .i64 x0, .int .i64 x1, .int .i64 x2, .string y3, .string y4, .string y5, .int .i64 x6, .int .i64 x7, .int .i64 x8, .string y9, .slice b10 l10 c10]) ∧ XS w0 lb tb ob sb N q w' ∧ (∀ b, b < W.heap.size → b ≠ lb → b ≠ sb → w'.heap[b]? = W.heap[b]?) ∧ W.heap.size ≤ w'.heap.size :=
  (h W lb tb ob sb S pb po u (hB.at hX) hX.here (hP.at hX)).mono fun e w' ⟨v, h1, h2, h3⟩ => by
    obtain ⟨x0, x1, x2, x6, x7, x8, y3, y4, y5, y9, b10, l10, c10, rfl⟩ := h1.form
    exact ⟨x0, x1, x2, x6, x7, x8, y3, y4, y5, y9, b10, l10, c10, h1, h2, hX.trans h3, h3.k, h3.z⟩
theorem phAt_c {w : World} {pb po : Nat} {k : Int} {it : It} {nm : ByteArray} {n ax tk : Int} {tn : ByteArray} {av cv : Value} (h : cAt w pb po (phL k it nm n ax tk tn av cv)) : PhAt w pb po k it nm n ax tk tn av cv := by
  obtain ⟨c0, c1, c2, c3, c4, c5, c6, c7, c8, c9, c10⟩ := cAt.eleven h
  exact ⟨c0, c1, c2, c3, c4, c5, c6, c7, c8, c9, c10⟩
theorem XS.ofKp {w w' : World} {lb tb ob sb : Nat} {N : ByteArray → Nat} {p q : Nat} (h : XS w lb tb ob sb N p w) (hl : lb ≠ sb) (hk : Kp lb (.map (some tb)) (.map (some ob)) (.map (some sb)) q w w') : XS w lb tb ob sb N q w' := ⟨hk.1, h.s.keep (hk.2.1 sb h.s.lt (Ne.symm hl)), hk.2.2.size, hk.2.2.os, hk.2.2.tape, hk.2.2.output, fun b h0 h1 _ => hk.2.1 b h0 h1⟩
/-- a literal -/
theorem e_lit (it : It) (N : ByteArray → Nat) (p : Nat) (hp : p + 1 ≤ 700) (hs : it.s.size ≤ 4000) (hg : litF it = 0) (nm : ByteArray) (n ax tk : Int) (tn : ByteArray) : RunE (ph0 1 it nm n ax tk tn) N p (p + 1) (exN 1 it ⟨#[]⟩ ⟨#[]⟩ 0 0 (fun _ => .no)) := by
  intro w lb tb ob sb S pb po u hB hX hP
  obtain ⟨a9, c9, a10, c10, rfl, _⟩ := hP.v
  obtain ⟨B0, ⟨h1, h2⟩, h3⟩ := hB.u
  have hin := hP.h pb hP.s
  refine (expr_lit lb pb po _ _ _ p it nm n ax tk tn a9 c9 _ w hX.l hp (phAt_c hP.c) hin.1 hin.2.1 hs (h3 w (Below.refl _ _)) hg).mono fun e w' ⟨k1, k2⟩ => ?_
  exact ⟨exL 1 it ⟨#[]⟩ ⟨#[]⟩ 0 0 0 ⟨#[]⟩ (.slice none 0 0), ⟨none, 0, rfl, ⟨Nat.le_trans hs (by decide), by decide, by decide⟩, Nat.le_refl _, by decide, fun h => absurd h (by decide)⟩, k1, hX.ofKp hB.ls k2⟩
end Go.Proofs.YtcbpjgnbdpfiiaaGreatDoor
set_option linter.unusedVariables false
namespace Go.Proofs.YtcbpjgnbdpfiiaaGreatDoor
set_option maxRecDepth 100000
open Go.RowKit Go.WideShapes

end Go.Proofs.YtcbpjgnbdpfiiaaGreatDoor
set_option linter.unusedVariables false
namespace Go.Proofs.YtcbpjgnbdpfiiaaGreatDoor
set_option maxRecDepth 100000
open Go.RowKit Go.WideShapes

/-- a state of a lowering, whatever parts were made -/
def XK (w0 : World) (lb tb ob sb : Nat) (N : ByteArray → Nat) (W : World) : Prop := ∃ q, XS w0 lb tb ob sb N q W
theorem XS.drew {w0 W : World} {lb tb ob sb : Nat} {N : ByteArray → Nat} {p : Nat} (h : XS w0 lb tb ob sb N p W) : XS w0 lb tb ob sb N p W.drew := ⟨h.l, h.s, h.z, h.os, h.tape, h.output, h.k⟩
theorem XK.drew {w0 W : World} {lb tb ob sb : Nat} {N : ByteArray → Nat} (h : XK w0 lb tb ob sb N W) : XK w0 lb tb ob sb N W.drew := by
  obtain ⟨q, h⟩ := h
  exact ⟨q, h.drew⟩
theorem XK.setC {w0 W : World} {lb tb ob sb r : Nat} {N : ByteArray → Nat} (h : XK w0 lb tb ob sb N W) (hr : w0.heap.size ≤ r) (hl : lb < w0.heap.size) (hs : sb < w0.heap.size) (k : Nat) (v : Value) : XK w0 lb tb ob sb N (W.setCell ⟨r, k, none⟩ v) := by
  obtain ⟨q, h⟩ := h
  have e : ∀ b, b < w0.heap.size → (W.setCell ⟨r, k, none⟩ v).heap[b]? = W.heap[b]? := fun b hb => Below.heap_setCell _ _ _ _ (by simp; omega)
  exact ⟨q, (e lb hl).trans h.l, h.s.keep (e sb hs), by simpa using h.z, h.os, h.tape, h.output, fun b h0 h1 h2 => (e b h0).trans (h.k b h0 h1 h2)⟩
theorem XS.put {w0 W : World} {lb tb ob sb r : Nat} {N : ByteArray → Nat} {p : Nat} (h : XS w0 lb tb ob sb N p W) (hr : w0.heap.size ≤ r) (hl : lb < w0.heap.size) (hs : sb < w0.heap.size) (vs : List Value) : XS w0 lb tb ob sb N p (putL W r 0 vs) := by
  have hb := putL_below (B := W.heap.size.min r) (b := r) (w0 := W) (Nat.min_le_right _ _) vs W 0 (Below.refl _ _)
  have hz := h.z
  have hm : w0.heap.size ≤ W.heap.size.min r := Nat.le_min.2 ⟨hz, hr⟩
  exact ⟨(hb.block lb (by omega)).trans h.l, h.s.keep (hb.block sb (by omega)), Nat.le_trans hz hb.size, hb.os.trans h.os, hb.tape.trans h.tape, hb.output.trans h.output, fun b h0 h1 h2 => (hb.block b (by omega)).trans (h.k b h0 h1 h2)⟩
end Go.Proofs.YtcbpjgnbdpfiiaaGreatDoor
