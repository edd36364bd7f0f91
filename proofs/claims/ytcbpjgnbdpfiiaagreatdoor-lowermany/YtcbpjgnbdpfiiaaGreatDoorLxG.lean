/-
  RULES of package core: a call as an expression.
-/
import Derived.Test.YtcbpjgnbdpfiiaaGreatDoorLxD
set_option linter.unusedVariables false
namespace Go.Proofs.YtcbpjgnbdpfiiaaGreatDoor
set_option maxRecDepth 100000
open Go.RowKit Go.WideShapes

/-- a rule of a function of a lowering and a phrase -/
def RunF (f : Nat) (ph : Ph) (N : ByteArray → Nat) (p q : Nat) (X : Ex) : Prop := ∀ (w : World) (lb tb ob sb : Nat) (S : Nat → Prop) (pb po : Nat) (u : List Value), XB w lb tb ob sb → XS w lb tb ob sb N p w → PhIn w lb sb pb po ph S u →
  Calls Tryz.prog f #[.pointer (some ⟨lb, 0, none⟩), .pointer (some ⟨pb, po, none⟩)] w fun e w' => ∃ v, X.W w' (fun b => w.heap.size ≤ b ∧ b < w'.heap.size) v ∧ e = .returned (.agg v.toArray) ∧ XS w lb tb ob sb N q w'
theorem RunF.use {f : Nat} {ph : Ph} {N : ByteArray → Nat} {p q : Nat} {X : Ex} (h : RunF f ph N p q X) {w0 W : World} {lb tb ob sb pb po : Nat} {S : Nat → Prop} {u : List Value} (hB : XB w0 lb tb ob sb) (hX : XS w0 lb tb ob sb N p W) (hP : PhIn w0 lb sb pb po ph S u) :
    Calls Tryz.prog f #[.pointer (some ⟨lb, 0, none⟩), .pointer (some ⟨pb, po, none⟩)] W fun e w' => ∃ (x0 x1 x2 x6 x7 x8 : Int) (y3 y4 y5 y9 : ByteArray) (b10 : Option Addr) (l10 c10 : Nat), X.W w' (fun b => W.heap.size ≤ b ∧ b < w'.heap.size) [.int .i64 x0, .int .i64 x1, .int .i64 x2, .string y3, .string y4, .string y5, .int .i64 x6, .int .i64 x7, .int .i64 x8, .string y9, .slice b10 l10 c10] ∧ e = .returned (.agg #[.int .i64 x0, .int .i64 x1, .int .i64 x2, .string y3, .string y4, .string y5, .int .i64 x6, .int .i64 x7, .int .i64 x8, .string y9, .slice b10 l10 c10]) ∧ XS w0 lb tb ob sb N q w' ∧ (∀ b, b < W.heap.size → b ≠ lb → b ≠ sb → w'.heap[b]? = W.heap[b]?) ∧ W.heap.size ≤ w'.heap.size :=
  (h W lb tb ob sb S pb po u (hB.at hX) hX.here (hP.at hX)).mono fun e w' ⟨v, h1, h2, h3⟩ => by
    obtain ⟨x0, x1, x2, x6, x7, x8, y3, y4, y5, y9, b10, l10, c10, rfl⟩ := h1.form
    exact ⟨x0, x1, x2, x6, x7, x8, y3, y4, y5, y9, b10, l10, c10, h1, h2, hX.trans h3, h3.k, h3.z⟩
theorem XS.zero {w0 W : World} {lb tb ob sb : Nat} {N : ByteArray → Nat} {p : Nat} (h : XS w0 lb tb ob sb N p W) (hn : lb ≠ sb) : XS w0 lb tb ob sb N p (W.setCell ⟨lb, 4, none⟩ (.int .i64 0)) := by
  have e : ∀ b, b ≠ lb → (W.setCell ⟨lb, 4, none⟩ (.int .i64 0)).heap[b]? = W.heap[b]? := fun b hb => Below.heap_setCell _ _ _ _ (by simpa using hb)
  exact ⟨heap_set_same h.l 4 _, h.s.keep (e sb (Ne.symm hn)), by simpa using h.z, h.os, h.tape, h.output, fun b h0 h1 h2 => (e b h1).trans (h.k b h0 h1 h2)⟩
end Go.Proofs.YtcbpjgnbdpfiiaaGreatDoor
