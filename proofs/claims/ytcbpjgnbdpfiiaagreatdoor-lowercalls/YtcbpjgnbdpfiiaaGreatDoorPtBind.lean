/-
  THE PARSER's bindings.
-/
import Derived.Test.YtcbpjgnbdpfiiaaGreatDoorPtFor
import Derived.Sort.AtCall
set_option linter.unusedVariables false
namespace Go.Proofs.YtcbpjgnbdpfiiaaGreatDoor
set_option maxRecDepth 100000
open Go.RowKit

/-- clauses as elements -/
def ClE (CK : Nat → Int) (CN CA : Nat → ByteArray) (CD : Nat → Bool) (CE : Nat → Ph) (i : Nat) (w : World) (S : Nat → Prop) (u : List Value) : Prop := ∃ x, u = [.int .i64 (CK i), .string (CN i), .string (CA i), .bool (CD i)] ++ x ∧ (CE i).V w S x
theorem ClE.keeps (CK : Nat → Int) (CN CA : Nat → ByteArray) (CD : Nat → Bool) (CE : Nat → Ph) : ∀ i, Keeps (ClE CK CN CA CD CE i) := fun i w w' S S' u h1 h2 h3 => by
  obtain ⟨x, q1, q2⟩ := h3
  exact ⟨x, q1, Ph.V.keep h1 h2 q2⟩
/-- a rule of a function that answers clauses -/
def RunB (pb b c : Nat) (T : List Tok) (f : Nat) (st st' : Pst) (n : Nat) (CK : Nat → Int) (CN CA : Nat → ByteArray) (CD : Nat → Bool) (CE : Nat → Ph) : Prop := ∀ (w : World), PaS w pb b c T st → RTab w pb → Calls Tryz.prog f #[.pointer (some ⟨pb, 0, none⟩)] w fun e w' => ∃ v, LOwn 140 15 (ClE CK CN CA CD CE) w' w.heap.size v n ∧ e = .returned v ∧ PaS w' pb b c T st' ∧ GrowA pb w w'
end Go.Proofs.YtcbpjgnbdpfiiaaGreatDoor
