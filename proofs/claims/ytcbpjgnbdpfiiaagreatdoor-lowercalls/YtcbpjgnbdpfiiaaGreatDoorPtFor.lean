/-
  CLAUSES AS VALUES; THE PARSER's forIn.
-/
import Derived.Test.YtcbpjgnbdpfiiaaGreatDoorPtLst
set_option linter.unusedVariables false
namespace Go.Proofs.YtcbpjgnbdpfiiaaGreatDoor
set_option maxRecDepth 100000
open Go.RowKit

/-- cells of a block, written one by one -/
def putC (w : World) (b : Nat) : Nat → List Value → World
  | _, [] => w
  | k, v :: vs => putC (w.setCell ⟨b, k, none⟩ v) b (k + 1) vs
theorem putC_other {b c : Nat} (hn : c ≠ b) : ∀ (vs : List Value) (w : World) (k : Nat), (putC w b k vs).heap[c]? = w.heap[c]?
  | [], _, _ => rfl
  | v :: vs, w, k => (putC_other hn vs _ _).trans (Below.heap_setCell _ _ _ _ hn)
theorem putC_size {b : Nat} : ∀ (vs : List Value) (w : World) (k : Nat), (putC w b k vs).heap.size = w.heap.size
  | [], _, _ => rfl
  | v :: vs, w, k => (putC_size vs _ _).trans (by simp)
theorem PaS.put {w : World} {pb b c x : Nat} {T : List Tok} {st : Pst} (h : PaS w pb b c T st) (hp : x ≠ pb) (hb : x ≠ b) (k : Nat) (vs : List Value) : PaS (putC w x k vs) pb b c T st := h.same (Nat.le_of_eq (putC_size _ _ _).symm) (putC_other (Ne.symm hp) _ _ _) (putC_other (Ne.symm hb) _ _ _)
theorem Tre.put {w : World} {lo x : Nat} {p : Ph} {v : List Value} (h : Tre w lo p v) (hx : x < lo) (k : Nat) (vs : List Value) : Tre (putC w x k vs) lo p v := Ph.V.keep (fun b q => ⟨q.1, by rw [putC_size]; exact q.2⟩) (fun b q => putC_other (by omega) _ _ _) h
/-- a clause in a block of its own -/
def ClB (w : World) (r : Nat) (v : Array Value) : Prop := w.heap[r]? = some (.cells v 140)
theorem ClB.lt {w : World} {r : Nat} {v : Array Value} (h : ClB w r v) : r < w.heap.size := (Array.getElem?_eq_some_iff.1 h).1
theorem ClB.new (w : World) (v : Array Value) : ClB (w.alloc (.cells v 140)) w.heap.size v := heap_alloc_new _ _
theorem ClB.grow {w w' : World} {pb r : Nat} {v : Array Value} (h : ClB w r v) (hg : GrowA pb w w') (hr : r ≠ pb) : ClB w' r v := (hg.2.2.2.2 r h.lt hr).trans h
theorem ClB.below {w w' : World} {r : Nat} {v : Array Value} (h : ClB w r v) (hb : Below w.heap.size w w') : ClB w' r v := (hb.block r h.lt).trans h
theorem ClB.allocI {w : World} {r : Nat} {v : Array Value} (h : ClB w r v) (o : Obj) : ClB (w.alloc o) r v := h.below ((Below.refl _ _).alloc (Nat.le_refl _) o)
theorem ClB.put {w : World} {r x : Nat} {v : Array Value} (h : ClB w r v) (hn : r ≠ x) (k : Nat) (vs : List Value) : ClB (putC w x k vs) r v := (putC_other hn _ _ _).trans h
theorem ClB.cells {w : World} {r : Nat} {x0 x1 x2 x3 x4 x5 x6 x7 x8 x9 x10 x11 x12 x13 x14 : Value} (h : ClB w r #[x0, x1, x2, x3, x4, x5, x6, x7, x8, x9, x10, x11, x12, x13, x14]) : (w.cell? ⟨r, 0, none⟩ = some x0 ∧ w.cell? ⟨r, 1, none⟩ = some x1 ∧ w.cell? ⟨r, 2, none⟩ = some x2 ∧ w.cell? ⟨r, 3, none⟩ = some x3 ∧ w.cell? ⟨r, 4, none⟩ = some x4 ∧ w.cell? ⟨r, 5, none⟩ = some x5 ∧ w.cell? ⟨r, 6, none⟩ = some x6 ∧ w.cell? ⟨r, 7, none⟩ = some x7 ∧ w.cell? ⟨r, 8, none⟩ = some x8 ∧ w.cell? ⟨r, 9, none⟩ = some x9 ∧ w.cell? ⟨r, 10, none⟩ = some x10 ∧ w.cell? ⟨r, 11, none⟩ = some x11 ∧ w.cell? ⟨r, 12, none⟩ = some x12 ∧ w.cell? ⟨r, 13, none⟩ = some x13 ∧ w.cell? ⟨r, 14, none⟩ = some x14) ∧ w.frozen? ⟨r, 0, none⟩ = false ∧ w.frozen? ⟨r, 1, none⟩ = false ∧ w.frozen? ⟨r, 2, none⟩ = false ∧ w.frozen? ⟨r, 3, none⟩ = false ∧ w.frozen? ⟨r, 4, none⟩ = false ∧ w.frozen? ⟨r, 5, none⟩ = false ∧ w.frozen? ⟨r, 6, none⟩ = false ∧ w.frozen? ⟨r, 7, none⟩ = false ∧ w.frozen? ⟨r, 8, none⟩ = false ∧ w.frozen? ⟨r, 9, none⟩ = false ∧ w.frozen? ⟨r, 10, none⟩ = false ∧ w.frozen? ⟨r, 11, none⟩ = false ∧ w.frozen? ⟨r, 12, none⟩ = false ∧ w.frozen? ⟨r, 13, none⟩ = false ∧ w.frozen? ⟨r, 14, none⟩ = false := by
  unfold ClB at h
  refine ⟨⟨?_, ?_, ?_, ?_, ?_, ?_, ?_, ?_, ?_, ?_, ?_, ?_, ?_, ?_, ?_⟩, ?_, ?_, ?_, ?_, ?_, ?_, ?_, ?_, ?_, ?_, ?_, ?_, ?_, ?_, ?_⟩ <;> simp [World.cell?, World.frozen?, h]
/-- a rule of a function that answers a clause -/
def RunC (pb b c : Nat) (T : List Tok) (f : Nat) (st st' : Pst) (k : Int) (nm at' : ByteArray) (dn : Bool) (p : Ph) : Prop := ∀ (w : World), PaS w pb b c T st → RTab w pb → Calls Tryz.prog f #[.pointer (some ⟨pb, 0, none⟩)] w fun e w' => ∃ u, Tre w' w.heap.size p u ∧ e = .returned (.agg ([.int .i64 k, .string nm, .string at', .bool dn] ++ u : List Value).toArray) ∧ PaS w' pb b c T st' ∧ GrowA pb w w'
theorem RunC.use {pb b c : Nat} {T : List Tok} {f : Nat} {st st' : Pst} {k : Int} {nm at' : ByteArray} {dn : Bool} {p : Ph} (h : RunC pb b c T f st st' k nm at' dn p) {w W : World} (ht : RTab w pb) (hp : PaS W pb b c T st) (hg : GrowA pb w W) :
    Calls Tryz.prog f #[.pointer (some ⟨pb, 0, none⟩)] W fun e w' => ∃ (lo : Nat) (k0 k1 k2 k5 k6 k7 : Int) (s3 s4 s8 : ByteArray) (a9 a10 : Option Addr) (l9 c9 l10 c10 : Nat), (w.heap.size ≤ lo ∧ pb < lo ∧ lo ≤ w'.heap.size ∧ lo = W.heap.size) ∧ Tre w' lo p [.int .i64 k0, .int .i64 k1, .int .i64 k2, .string s3, .string s4, .int .i64 k5, .int .i64 k6, .int .i64 k7, .string s8, .slice a9 l9 c9, .slice a10 l10 c10] ∧ e = .returned (.agg #[.int .i64 k, .string nm, .string at', .bool dn, .int .i64 k0, .int .i64 k1, .int .i64 k2, .string s3, .string s4, .int .i64 k5, .int .i64 k6, .int .i64 k7, .string s8, .slice a9 l9 c9, .slice a10 l10 c10]) ∧ PaS w' pb b c T st' ∧ GrowA pb W w' :=
  (h W hp (ht.grow hg)).mono fun e w' ⟨v, h1, h2, h3, h4⟩ => by
    obtain ⟨k0, k1, k2, k5, k6, k7, s3, s4, s8, a9, a10, l9, c9, l10, c10, rfl⟩ := h1.form
    exact ⟨W.heap.size, k0, k1, k2, k5, k6, k7, s3, s4, s8, a9, a10, l9, c9, l10, c10, ⟨hg.1, hp.pl, h4.1, rfl⟩, h1, h2, h3, h4⟩
end Go.Proofs.YtcbpjgnbdpfiiaaGreatDoor
