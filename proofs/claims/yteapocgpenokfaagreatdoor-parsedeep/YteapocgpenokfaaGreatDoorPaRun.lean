/-
  WHAT THE PARSER's FUNCTIONS DO where only four tokens are seen: none, two parentheses, a number.
-/
import Derived.Test.YteapocgpenokfaaGreatDoorPaPrim2
import Derived.Laws.OwnMore
set_option linter.unusedVariables false
namespace Go.Proofs.YteapocgpenokfaaGreatDoor
set_option maxRecDepth 100000
open Go.RowKit

def lpT : Tok := ⟨5, ⟨#[40]⟩, 0⟩
def rpT : Tok := ⟨5, ⟨#[41]⟩, 0⟩
def oneT : Tok := ⟨2, ⟨#[]⟩, 1⟩
/-- one of the four -/
def Cls (u : Tok) : Prop := u = tok0 ∨ u = lpT ∨ u = rpT ∨ u = oneT
/-- a phrase as a value -/
def PhV (v : Value) : Prop := ∃ (k0 k1 k2 k5 k6 k7 : Int) (s3 s4 s8 : ByteArray) (a9 a10 : Option Addr) (l9 c9 l10 c10 : Nat), v = .agg #[.int .i64 k0, .int .i64 k1, .int .i64 k2, .string s3, .string s4, .int .i64 k5, .int .i64 k6, .int .i64 k7, .string s8, .slice a9 l9 c9, .slice a10 l10 c10]
theorem PhV.mk {k0 k1 k2 k5 k6 k7 : Int} {s3 s4 s8 : ByteArray} {a9 a10 : Option Addr} {l9 c9 l10 c10 : Nat} : PhV (.agg #[.int .i64 k0, .int .i64 k1, .int .i64 k2, .string s3, .string s4, .int .i64 k5, .int .i64 k6, .int .i64 k7, .string s8, .slice a9 l9 c9, .slice a10 l10 c10]) := ⟨k0, k1, k2, k5, k6, k7, s3, s4, s8, a9, a10, l9, c9, l10, c10, rfl⟩
/-- a function that answers a phrase brings the parser from one state to another -/
def Runs (pb b c : Nat) (T : List Tok) (f : Nat) (args : Array Value) (st st' : Pst) : Prop := ∀ {w : World}, PaS w pb b c T st → Calls Tryz.prog f (#[.pointer (some ⟨pb, 0, none⟩)] ++ args) w fun e w' => ∃ v, PhV v ∧ e = .returned v ∧ PaS w' pb b c T st' ∧ GrowA pb w w'
/-- a phrase in a block of its own -/
def PhB (w : World) (r : Nat) (v : Array Value) : Prop := w.heap[r]? = some (.cells v 35)
theorem PhB.lt {w : World} {r : Nat} {v : Array Value} (h : PhB w r v) : r < w.heap.size := (Array.getElem?_eq_some_iff.1 h).1
theorem PhB.cells {w : World} {r : Nat} {k0 k1 k2 k5 k6 k7 : Int} {s3 s4 s8 : ByteArray} {a9 a10 : Option Addr} {l9 c9 l10 c10 : Nat} (h : PhB w r #[.int .i64 k0, .int .i64 k1, .int .i64 k2, .string s3, .string s4, .int .i64 k5, .int .i64 k6, .int .i64 k7, .string s8, .slice a9 l9 c9, .slice a10 l10 c10]) : (w.cell? ⟨r, 0, none⟩ = some (.int .i64 k0) ∧ w.cell? ⟨r, 1, none⟩ = some (.int .i64 k1) ∧ w.cell? ⟨r, 2, none⟩ = some (.int .i64 k2) ∧ w.cell? ⟨r, 3, none⟩ = some (.string s3) ∧ w.cell? ⟨r, 4, none⟩ = some (.string s4) ∧ w.cell? ⟨r, 5, none⟩ = some (.int .i64 k5) ∧ w.cell? ⟨r, 6, none⟩ = some (.int .i64 k6) ∧ w.cell? ⟨r, 7, none⟩ = some (.int .i64 k7) ∧ w.cell? ⟨r, 8, none⟩ = some (.string s8) ∧ w.cell? ⟨r, 9, none⟩ = some (.slice a9 l9 c9) ∧ w.cell? ⟨r, 10, none⟩ = some (.slice a10 l10 c10)) ∧ w.frozen? ⟨r, 0, none⟩ = false ∧ w.frozen? ⟨r, 1, none⟩ = false ∧ w.frozen? ⟨r, 2, none⟩ = false ∧ w.frozen? ⟨r, 3, none⟩ = false ∧ w.frozen? ⟨r, 4, none⟩ = false ∧ w.frozen? ⟨r, 5, none⟩ = false ∧ w.frozen? ⟨r, 6, none⟩ = false ∧ w.frozen? ⟨r, 7, none⟩ = false ∧ w.frozen? ⟨r, 8, none⟩ = false ∧ w.frozen? ⟨r, 9, none⟩ = false ∧ w.frozen? ⟨r, 10, none⟩ = false := by
  unfold PhB at h
  refine ⟨⟨?_, ?_, ?_, ?_, ?_, ?_, ?_, ?_, ?_, ?_, ?_⟩, ⟨?_, ?_, ?_, ?_, ?_, ?_, ?_, ?_, ?_, ?_, ?_⟩⟩ <;> simp [World.cell?, World.frozen?, h]
theorem PhB.new (w : World) (v : Array Value) : PhB (w.alloc (.cells v 35)) w.heap.size v := heap_alloc_new _ _
theorem PhB.grow {w w' : World} {pb r : Nat} {v : Array Value} (h : PhB w r v) (hg : GrowA pb w w') (hr : r ≠ pb) : PhB w' r v := (hg.2.2.2.2 r h.lt hr).trans h
theorem PhB.below {w w' : World} {r : Nat} {v : Array Value} (h : PhB w r v) (hb : Below w.heap.size w w') : PhB w' r v := (hb.block r h.lt).trans h
theorem PhB.allocI {w : World} {r : Nat} {v : Array Value} (h : PhB w r v) (o : Obj) : PhB (w.alloc o) r v := h.below ((Below.refl _ _).alloc (Nat.le_refl _) o)
theorem Leave.allocI {w : World} {pb q : Nat} (h : Leave w pb q) (o : Obj) : Leave (w.alloc o) pb q := h.grow ((GrowA.refl _ _).alloc o)
theorem Leave.below {w w' : World} {pb q : Nat} (h : Leave w pb q) (hb : Below w.heap.size w w') : Leave w' pb q := h.grow ((GrowA.refl _ _).below hb)
theorem GrowA.setR {pb : Nat} {w wr : World} (h : GrowA pb w wr) {r : Nat} (hr : w.heap.size ≤ r) (t : Nat) (u : Value) : GrowA pb w (wr.setCell ⟨r, t, none⟩ u) := ⟨by simpa using h.1, h.2.1, h.2.2.1, h.2.2.2.1, fun b h1 h2 => (Below.heap_setCell _ _ _ _ (by simp; omega)).trans (h.2.2.2.2 b h1 h2)⟩
theorem Leave.setR {w : World} {pb q r : Nat} (h : Leave w pb q) (hr : r ≠ q) (t : Nat) (u : Value) : Leave (w.setCell ⟨r, t, none⟩ u) pb q := ⟨(World.cell?_of_block (a := ⟨q, 0, none⟩) (Below.heap_setCell _ _ _ _ (by simpa using Ne.symm hr))).trans h.1, by simpa using h.2.1, h.2.2⟩
theorem PaS.setR {w : World} {pb b c : Nat} {T : List Tok} {st : Pst} (h : PaS w pb b c T st) {r : Nat} (hp : r ≠ pb) (hb : r ≠ b) (t : Nat) (u : Value) : PaS (w.setCell ⟨r, t, none⟩ u) pb b c T st := by
  have k : ∀ x, x ≠ r → (w.setCell ⟨r, t, none⟩ u).heap[x]? = w.heap[x]? := fun x hx => Below.heap_setCell _ _ _ _ (by simpa using hx)
  have kp := k pb (Ne.symm hp)
  have kb := k b (Ne.symm hb)
  exact ⟨(World.cell?_of_block (a := ⟨pb, 0, none⟩) kp).trans h.l, (World.cell?_of_block (a := ⟨pb, 1, none⟩) kp).trans h.a, (World.cell?_of_block (a := ⟨pb, 2, none⟩) kp).trans h.o, (World.cell?_of_block (a := ⟨pb, 3, none⟩) kp).trans h.e, (World.frozen?_of_block (a := ⟨pb, 1, none⟩) kp).trans h.fa, (World.frozen?_of_block (a := ⟨pb, 2, none⟩) kp).trans h.fo, (World.frozen?_of_block (a := ⟨pb, 3, none⟩) kp).trans h.fe, by simpa using h.pl, by simpa using h.bl, h.ne, fun i hi => by
    obtain ⟨h1, h2, h3⟩ := h.ts i hi
    exact ⟨(World.cell?_of_block (a := ⟨b, _, none⟩) kb).trans h1, (World.cell?_of_block (a := ⟨b, _, none⟩) kb).trans h2, (World.cell?_of_block (a := ⟨b, _, none⟩) kb).trans h3⟩⟩
theorem see_lit {w : World} {pb b c : Nat} {T : List Tok} {st : Pst} (h : PaS w pb b c T st) (a : Nat) (ha : a ≤ 2) (hT : T.length ≤ 200) (hat : st.at' ≤ 300) {k : Int} {s : ByteArray} {n : Int} (hs : seeM T st a = ⟨k, s, n⟩) :
    Calls Tryz.prog 50 #[.pointer (some ⟨pb, 0, none⟩), .int .i64 a] w fun e w' => e = .returned (.agg #[.int .i64 k, .string s, .int .i64 n]) ∧ Below w.heap.size w w' := by
  have := see_is h a ha hT (by omega)
  rw [hs] at this
  exact this
theorem skip_no {w : World} {pb b c : Nat} {T : List Tok} {st : Pst} (h : PaS w pb b c T st) (hT : T.length ≤ 200) (hat : st.at' ≤ 300) (k : Int) (s : ByteArray) (n : Int) (hs : eqT (seeM T st 0) ⟨k, s, n⟩ = false) :
    Calls Tryz.prog 54 #[.pointer (some ⟨pb, 0, none⟩), .agg #[.int .i64 k, .string s, .int .i64 n]] w fun e w' => e = .returned (.bool false) ∧ PaS w' pb b c T st ∧ GrowA pb w w' := by
  have := skip_is h ⟨k, s, n⟩ hT hat
  unfold skipM at this
  rw [if_neg (by rw [hs]; decide)] at this
  exact this
theorem skip_yes {w : World} {pb b c : Nat} {T : List Tok} {st : Pst} (h : PaS w pb b c T st) (hT : T.length ≤ 200) (hat : st.at' ≤ 300) (k : Int) (s : ByteArray) (n : Int) (hs : eqT (seeM T st 0) ⟨k, s, n⟩ = true) :
    Calls Tryz.prog 54 #[.pointer (some ⟨pb, 0, none⟩), .agg #[.int .i64 k, .string s, .int .i64 n]] w fun e w' => e = .returned (.bool true) ∧ PaS w' pb b c T { st with at' := st.at' + 1 } ∧ GrowA pb w w' := by
  have := skip_is h ⟨k, s, n⟩ hT hat
  unfold skipM at this
  rw [if_pos hs] at this
  exact this
set_option maxHeartbeats 800000 in
theorem leave_is {w : World} {pb q b c : Nat} {T : List Tok} {st : Pst} (h : PaS w pb b c T st) (hl : Leave w pb q) (ho : 1 ≤ st.opn ∧ st.opn ≤ 200) (u : FrameMode) :
    CallsD Tryz.prog 49 #[.pointer (some ⟨q, 0, none⟩)] u w fun e u' w' => u' = u ∧ (e = .returned (.tuple #[]) ∧ PaS w' pb b c T { st with opn := st.opn - 1 } ∧ GrowA pb w w') := by
  have x2 := h.o
  have f2 := h.fo
  have hq := hl.1
  have hwr : IntKind.i64.wrap ((st.opn : Int) - 1) = ((st.opn - 1 : Nat) : Int) := by rw [IntWalk.i64_in _ (by omega)]; omega
  have HF : Hid (PaS (w.setCell ⟨pb, 2, none⟩ (.int .i64 ((st.opn - 1 : Nat) : Int))) pb b c T { st with opn := st.opn - 1 }) := h.setO _
  generalize ((st.opn - 1 : Nat) : Int) = q1 at hwr HF
  clear h hl
  go_enter_d Tryz.func49, Tryz.ntmps49
  go_wp2
  go_end0
  exact ⟨rfl, HF.out, (GrowA.refl _ _).set 2 _⟩
end Go.Proofs.YteapocgpenokfaaGreatDoor
