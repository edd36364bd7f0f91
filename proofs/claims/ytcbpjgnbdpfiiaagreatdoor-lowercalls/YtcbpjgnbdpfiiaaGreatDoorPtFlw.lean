/-
  THE PARSER's flwor without a where and an order.
-/
import Derived.Test.YtcbpjgnbdpfiiaaGreatDoorPtBind
set_option linter.unusedVariables false
namespace Go.Proofs.YtcbpjgnbdpfiiaaGreatDoor
set_option maxRecDepth 100000
open Go.RowKit

/-- memory has grown from w0 on, but for the parser's block; as a walk keeps it -/
def GrowB (w0 : World) (pb : Nat) (w : World) : Prop := GrowA pb w0 w
theorem GrowB.below {w0 w w' : World} {pb : Nat} (h : GrowB w0 pb w) (hb : Below w.heap.size w w') : GrowB w0 pb w' := GrowA.below h hb
theorem GrowB.allocI {w0 w : World} {pb : Nat} (h : GrowB w0 pb w) (o : Obj) : GrowB w0 pb (w.alloc o) := GrowA.alloc h o
theorem GrowB.grow {w0 w w' : World} {pb : Nat} (h : GrowB w0 pb w) (hg : GrowA pb w w') : GrowB w0 pb w' := GrowA.trans h hg
theorem LOwn.setR {T : TypeId} {sz : Nat} {E : Nat → World → (Nat → Prop) → List Value → Prop} (hE : ∀ i, Keeps (E i)) {w : World} {lo r : Nat} {v : Value} {n : Nat} (h : LOwn T sz E w lo v n) (hr : r < lo) (k : Nat) (x : Value) : LOwn T sz E (w.setCell ⟨r, k, none⟩ x) lo v n := h.step hE (by simp) (fun b h1 h2 => Below.heap_setCell _ _ _ _ (by simp; omega))
theorem RunB.use {pb b c : Nat} {T : List Tok} {f : Nat} {st st' : Pst} {n : Nat} {CK : Nat → Int} {CN CA : Nat → ByteArray} {CD : Nat → Bool} {CE : Nat → Ph} (h : RunB pb b c T f st st' n CK CN CA CD CE) {w W : World} {r0 : Nat} (ht : RTab w pb) (hp : PaS W pb b c T st) (hg : GrowA pb w W) (hl : r0 < W.heap.size) :
    Calls Tryz.prog f #[.pointer (some ⟨pb, 0, none⟩)] W fun e w' => ∃ lo v, (r0 < lo ∧ pb < lo ∧ lo ≤ w'.heap.size) ∧ LOwn 140 15 (ClE CK CN CA CD CE) w' lo v n ∧ e = .returned v ∧ PaS w' pb b c T st' ∧ GrowA pb W w' :=
  (h W hp (ht.grow hg)).mono fun e w' ⟨v, h1, h2, h3, h4⟩ => ⟨W.heap.size, v, ⟨hl, hp.pl, h4.1⟩, h1, h2, h3, h4⟩
end Go.Proofs.YtcbpjgnbdpfiiaaGreatDoor
