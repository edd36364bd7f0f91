/-
  NAMES IN SCOPE while a phrase is lowered: enter and leave, as steps of a lowering's state.
-/
import Derived.Test.YtcbpjgnbdpfiiaaGreatDoorLxE
import Derived.Test.YtcbpjgnbdpfiiaaGreatDoorLxG
import Derived.Test.YtcbpjgnbdpfiiaaGreatDoorCkLook2
set_option linter.unusedVariables false
namespace Go.Proofs.YtcbpjgnbdpfiiaaGreatDoor
set_option maxRecDepth 100000
open Go.RowKit Go.WideShapes

attribute [local go_sem] Oper.semAt_some
end Go.Proofs.YtcbpjgnbdpfiiaaGreatDoor
set_option linter.unusedVariables false
namespace Go.Proofs.YtcbpjgnbdpfiiaaGreatDoor
set_option maxRecDepth 100000
open Go.RowKit Go.WideShapes

end Go.Proofs.YtcbpjgnbdpfiiaaGreatDoor
set_option linter.unusedVariables false
namespace Go.Proofs.YtcbpjgnbdpfiiaaGreatDoor
set_option maxRecDepth 100000
open Go.RowKit Go.WideShapes

/-- one name more (of a ForIn without at) -/
def inN (N : ByteArray → Nat) (nm : ByteArray) : ByteArray → Nat := fun y => N y + cntE [nm, ⟨#[]⟩] y
theorem txts_two {W : World} {b : Nat} {x y : ByteArray} (h : W.heap[b]? = some (.cells #[.string x, .string y] 9)) : TxtsL W (.slice (some ⟨b, 0, none⟩) 2 2) [x, y] :=
  ⟨b, 0, 2, rfl, Nat.le_refl _, by decide, (Array.getElem?_eq_some_iff.1 h).1, fun i hi => by
    have hi' : i < 2 := hi
    match i, hi' with
    | 0, _ => rw [World.cell?, h]; rfl
    | 1, _ => rw [World.cell?, h]; rfl⟩
theorem inN_le {N : ByteArray → Nat} {nm : ByteArray} {m : Nat} (h : ∀ y, N y ≤ m) : ∀ y, inN N nm y ≤ m + 2 := fun y => by
  have h1 := h y
  have h2 : cntE [nm, ⟨#[]⟩] y ≤ 2 := List.countP_le_length
  unfold inN
  omega
end Go.Proofs.YtcbpjgnbdpfiiaaGreatDoor
