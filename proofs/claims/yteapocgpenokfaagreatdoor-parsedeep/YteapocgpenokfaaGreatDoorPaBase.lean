/-
  THE PARSER's STATE IN MEMORY, and what is plainly said of it.
-/
import Derived.Test.YteapocgpenokfaaGreatDoorTcPlain
import Derived.Test.YteapocgpenokfaaGreatDoorRlPlain
import Derived.ProofKit
import Derived.WalkKit
import Derived.OwnWalk
set_option linter.unusedVariables false
namespace Go.Proofs.YteapocgpenokfaaGreatDoor
set_option maxRecDepth 100000
open Go.RowKit

/-- only one block is turned, and memory may have grown -/
def GrowA (pb : Nat) (w wr : World) : Prop := w.heap.size ≤ wr.heap.size ∧ wr.os = w.os ∧ wr.tape = w.tape ∧ wr.output = w.output ∧ ∀ b, b < w.heap.size → b ≠ pb → wr.heap[b]? = w.heap[b]?
theorem GrowA.refl (pb : Nat) (w : World) : GrowA pb w w := ⟨Nat.le_refl _, rfl, rfl, rfl, fun _ _ _ => rfl⟩
theorem GrowA.below {pb : Nat} {w wr w' : World} (h : GrowA pb w wr) (hb : Below wr.heap.size wr w') : GrowA pb w w' := ⟨Nat.le_trans h.1 hb.size, hb.os.trans h.2.1, hb.tape.trans h.2.2.1, hb.output.trans h.2.2.2.1, fun b h1 h2 => (hb.block b (Nat.lt_of_lt_of_le h1 h.1)).trans (h.2.2.2.2 b h1 h2)⟩
theorem GrowA.trans {pb : Nat} {a b c : World} (h : GrowA pb a b) (h' : GrowA pb b c) : GrowA pb a c := ⟨Nat.le_trans h.1 h'.1, h'.2.1.trans h.2.1, h'.2.2.1.trans h.2.2.1, h'.2.2.2.1.trans h.2.2.2.1, fun k h1 hk => (h'.2.2.2.2 k (Nat.lt_of_lt_of_le h1 h.1) hk).trans (h.2.2.2.2 k h1 hk)⟩
theorem GrowA.alloc {pb : Nat} {w wr : World} (h : GrowA pb w wr) (o : Obj) : GrowA pb w (wr.alloc o) := h.below ((Below.refl _ _).alloc (Nat.le_refl _) o)
theorem GrowA.drew {pb : Nat} {w wr : World} (h : GrowA pb w wr) : GrowA pb w wr.drew := h
theorem GrowA.set {pb : Nat} {w wr : World} (h : GrowA pb w wr) (t : Nat) (u : Value) : GrowA pb w (wr.setCell ⟨pb, t, none⟩ u) := ⟨by simpa using h.1, h.2.1, h.2.2.1, h.2.2.2.1, fun b h1 h2 => (Below.heap_setCell _ _ _ _ (by simpa using h2)).trans (h.2.2.2.2 b h1 h2)⟩
theorem GrowA.low {pb : Nat} {w w' : World} (h : GrowA pb w w') (hp : pb ≤ w.heap.size) : Below pb w w' := ⟨h.2.1, h.2.2.1, h.2.2.2.1, h.1, fun b hb => h.2.2.2.2 b (by omega) (by omega)⟩
theorem GrowA.cell {pb : Nat} {w w' : World} (h : GrowA pb w w') {b k : Nat} (hb : b < w.heap.size) (hn : b ≠ pb) : w'.cell? ⟨b, k, none⟩ = w.cell? ⟨b, k, none⟩ := World.cell?_of_block (h.2.2.2.2 b hb hn)
/-- where tokens lie -/
def ToksL (w : World) (b : Nat) (L : List Tok) : Prop := ∀ k (hk : k < L.length), w.cell? ⟨b, k * 3, none⟩ = some (.int .i64 L[k].kind) ∧ w.cell? ⟨b, k * 3 + 1, none⟩ = some (.string L[k].s) ∧ w.cell? ⟨b, k * 3 + 2, none⟩ = some (.int .i64 L[k].n)
theorem ToksL.grow {pb : Nat} {w w' : World} {b : Nat} {L : List Tok} (h : ToksL w b L) (hg : GrowA pb w w') (hb : b < w.heap.size) (hn : b ≠ pb) : ToksL w' b L := fun k hk => by
  obtain ⟨h1, h2, h3⟩ := h k hk
  exact ⟨(hg.cell hb hn).trans h1, (hg.cell hb hn).trans h2, (hg.cell hb hn).trans h3⟩
/-- what a parser knows: the place, the levels that are open, what is wrong -/
structure Pst where
  at' : Nat
  opn : Nat
  wrong : Int
/-- the parser lies there -/
structure PaS (w : World) (pb b c : Nat) (T : List Tok) (st : Pst) : Prop where
  l : w.cell? ⟨pb, 0, none⟩ = some (.slice (some ⟨b, 0, none⟩) T.length c)
  a : w.cell? ⟨pb, 1, none⟩ = some (.int .i64 st.at')
  o : w.cell? ⟨pb, 2, none⟩ = some (.int .i64 st.opn)
  e : w.cell? ⟨pb, 3, none⟩ = some (.int .i64 st.wrong)
  fa : w.frozen? ⟨pb, 1, none⟩ = false
  fo : w.frozen? ⟨pb, 2, none⟩ = false
  fe : w.frozen? ⟨pb, 3, none⟩ = false
  pl : pb < w.heap.size
  bl : b < w.heap.size
  ne : b ≠ pb
  ts : ToksL w b T
theorem PaS.below {w w' : World} {pb b c : Nat} {T : List Tok} {st : Pst} (h : PaS w pb b c T st) (hb : Below w.heap.size w w') : PaS w' pb b c T st :=
  ⟨(hb.cell (p := ⟨pb, 0, none⟩) h.pl).trans h.l, (hb.cell (p := ⟨pb, 1, none⟩) h.pl).trans h.a, (hb.cell (p := ⟨pb, 2, none⟩) h.pl).trans h.o, (hb.cell (p := ⟨pb, 3, none⟩) h.pl).trans h.e, (hb.frozen (p := ⟨pb, 1, none⟩) h.pl).trans h.fa, (hb.frozen (p := ⟨pb, 2, none⟩) h.pl).trans h.fo, (hb.frozen (p := ⟨pb, 3, none⟩) h.pl).trans h.fe, Nat.lt_of_lt_of_le h.pl hb.size, Nat.lt_of_lt_of_le h.bl hb.size, h.ne, fun k hk => by
    obtain ⟨h1, h2, h3⟩ := h.ts k hk
    exact ⟨(hb.cell (p := ⟨b, _, none⟩) h.bl).trans h1, (hb.cell (p := ⟨b, _, none⟩) h.bl).trans h2, (hb.cell (p := ⟨b, _, none⟩) h.bl).trans h3⟩⟩
theorem PaS.drewI {w : World} {pb b c : Nat} {T : List Tok} {st : Pst} (h : PaS w pb b c T st) : PaS w.drew pb b c T st := h.below (Below.refl _ _).drew
theorem PaS.allocI {w : World} {pb b c : Nat} {T : List Tok} {st : Pst} (h : PaS w pb b c T st) (o : Obj) : PaS (w.alloc o) pb b c T st := h.below ((Below.refl _ _).alloc (Nat.le_refl _) o)
theorem PaS.toksSet {w : World} {pb b c : Nat} {T : List Tok} {st : Pst} (h : PaS w pb b c T st) (t : Nat) (u : Value) : ToksL (w.setCell ⟨pb, t, none⟩ u) b T := h.ts.grow ((GrowA.refl pb w).set t u) h.bl h.ne
theorem PaS.setA {w : World} {pb b c : Nat} {T : List Tok} {st : Pst} (h : PaS w pb b c T st) (n : Nat) : PaS (w.setCell ⟨pb, 1, none⟩ (.int .i64 n)) pb b c T { st with at' := n } :=
  ⟨by simp [go_sem, h.l], by simp [go_sem, h.a], by simp [go_sem, h.o], by simp [go_sem, h.e], by simp [go_sem, h.fa], by simp [go_sem, h.fo], by simp [go_sem, h.fe], by simpa using h.pl, by simpa using h.bl, h.ne, h.toksSet _ _⟩
theorem PaS.setO {w : World} {pb b c : Nat} {T : List Tok} {st : Pst} (h : PaS w pb b c T st) (n : Nat) : PaS (w.setCell ⟨pb, 2, none⟩ (.int .i64 n)) pb b c T { st with opn := n } :=
  ⟨by simp [go_sem, h.l], by simp [go_sem, h.a], by simp [go_sem, h.o], by simp [go_sem, h.e], by simp [go_sem, h.fa], by simp [go_sem, h.fo], by simp [go_sem, h.fe], by simpa using h.pl, by simpa using h.bl, h.ne, h.toksSet _ _⟩
theorem PaS.setE {w : World} {pb b c : Nat} {T : List Tok} {st : Pst} (h : PaS w pb b c T st) (n : Int) : PaS (w.setCell ⟨pb, 3, none⟩ (.int .i64 n)) pb b c T { st with wrong := n } :=
  ⟨by simp [go_sem, h.l], by simp [go_sem, h.a], by simp [go_sem, h.o], by simp [go_sem, h.e], by simp [go_sem, h.fa], by simp [go_sem, h.fo], by simp [go_sem, h.fe], by simpa using h.pl, by simpa using h.bl, h.ne, h.toksSet _ _⟩
/-- the token that is seen so many places ahead -/
def seeM (T : List Tok) (st : Pst) (a : Nat) : Tok := if st.wrong ≠ 0 ∨ T.length ≤ st.at' + a then tok0 else T.getD (st.at' + a) tok0
def eqT (t u : Tok) : Bool := decide (t.kind = u.kind) && decide (t.s = u.s) && decide (t.n = u.n)
def skipM (T : List Tok) (st : Pst) (t : Tok) : Bool × Pst := if eqT (seeM T st 0) t = true then (true, { st with at' := st.at' + 1 }) else (false, st)
def failM (st : Pst) (e : Int) : Pst := if st.wrong = 0 then { st with wrong := e } else st
def missM (T : List Tok) (st : Pst) : Pst := if st.at' = T.length then failM st 5 else failM st 4
def wantM (T : List Tok) (st : Pst) (t : Tok) : Pst := if (skipM T st t).1 = true then (skipM T st t).2 else missM T (skipM T st t).2
def enterM (T : List Tok) (st : Pst) (begins : Bool) : Pst :=
  let st' := if 30 ≤ st.opn then failM (if begins = true then st else missM T st) 8 else st
  { st' with opn := st'.opn + 1 }
def mkT (s : List UInt8) : Tok := ⟨5, bs s, 0⟩
def wdT (s : List UInt8) : Tok := ⟨1, bs s, 0⟩
end Go.Proofs.YteapocgpenokfaaGreatDoor
