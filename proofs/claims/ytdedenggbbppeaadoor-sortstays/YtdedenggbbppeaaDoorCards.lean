/-
  DERIVED. GIVEN WITH THE SEED: THE CARDS: each row of YtdedenggbbppeaaDoorRows.lean that lists a variable, with what it lists TIED to the program's text (the seventh form; the later family's looks); each row that meets fmt, with fmt's text TOLD by the authors' own Lean function (tested against real Go, not proved from fmt's source: count such statements apart). THE CARD IS WHAT COUNTS. Prove the row's statement (the work); the ties are given (YtdedenggbbppeaaDoorTie.lean); close each card by the builder's one call (the guide's Derived/Test/ToyasCard.lean, 'card_holds'). Laid BY PROGRAM, IN A SANDBOX (cutbox-door.mjs). By AI agents, Wed Nov 11 2026. No macro, syntax, notation, axiom, sorry.
-/
import Derived.Test.YtdedenggbbppeaaDoorRows
import GoSem.ClaimSeven
namespace Go.Proofs.YtdedenggbbppeaaDoor
namespace Rows

/-- THE TIED CARD OF 'pleacherkeep.SortStays'. -/
def sortStaysCard : Claim7 := { stood := { row := sortStaysRow, standIns := [], harness := (true, "e07642be0727ea52d01de755b190fb6f9469802bd86e29d71b1077fa9473345e"), looks := false }, kinds := [], alts := [], laidByText := true, laidKinds := [.data, .pinned], laidTests := true, laidLooks := .later }
def SortStaysCardSaid : Prop := Claim7.holds Tryd.pinned (.plain (OpenSpec.ofChange sortStaysSpec)) sortStaysCard

/-- THE SECOND FORM's CARD OF 'pleacherkeep.SortStays'. -/
def sortStaysUptoCard : Claim7 := { stood := { row := sortStaysUptoRow, standIns := [], harness := (true, "e07642be0727ea52d01de755b190fb6f9469802bd86e29d71b1077fa9473345e"), looks := false }, kinds := [], alts := [], laidByText := true, laidKinds := [.data, .pinned], laidTests := true, laidLooks := .later }
def SortStaysUptoCardSaid : Prop := Claim7.holds Tryd.pinned (.plain (OpenSpec.upto sortStaysSpec)) sortStaysUptoCard
end Rows
end Go.Proofs.YtdedenggbbppeaaDoor
