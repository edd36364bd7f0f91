/-
  DERIVED. GIVEN WITH THE SEED: THE CARDS: each row of YtkcejelmohameaaGreatDoorRows.lean that lists a variable, with what it lists TIED to the program's text (the seventh form; the later family's looks); each row that meets fmt, with fmt's text TOLD by the authors' own Lean function (tested against real Go, not proved from fmt's source: count such statements apart). THE CARD IS WHAT COUNTS. Prove the row's statement (the work); the ties are given (YtkcejelmohameaaGreatDoorTie.lean); close each card by the builder's one call (the guide's Derived/Test/ToyasCard.lean, 'card_holds'). Laid BY PROGRAM, IN A SANDBOX (cutbox-door.mjs). By AI agents, Wed Nov 11 2026. No macro, syntax, notation, axiom, sorry.
-/
import Derived.Test.YtkcejelmohameaaGreatDoorRows
import GoSem.ClaimSeven
namespace Go.Proofs.YtkcejelmohameaaGreatDoor
namespace Rows

/-- THE TIED CARD OF 'pleacherlaw.RunColumns'. -/
def runColumnsCard : Claim7 := { stood := { row := runColumnsRow, standIns := [], harness := (true, "110704b015c0ad2d558d26f03906dd228d980ecb88e2a051ee1001baf1e1c03a"), looks := true }, kinds := [], alts := [], laidByText := true, laidKinds := [.data, .data, .data, .data, .sentinel, .sentinel, .data, .pinned], laidTests := true, laidLooks := .later }
def RunColumnsCardSaid : Prop := Claim7.holds Tryz.pinned (.plain (OpenSpec.ofChange runColumnsSpec)) runColumnsCard

/-- THE SECOND FORM's CARD OF 'pleacherlaw.RunColumns'. -/
def runColumnsUptoCard : Claim7 := { stood := { row := runColumnsUptoRow, standIns := [], harness := (true, "110704b015c0ad2d558d26f03906dd228d980ecb88e2a051ee1001baf1e1c03a"), looks := true }, kinds := [], alts := [], laidByText := true, laidKinds := [.data, .data, .data, .data, .sentinel, .sentinel, .data, .pinned], laidTests := true, laidLooks := .later }
def RunColumnsUptoCardSaid : Prop := Claim7.holds Tryz.pinned (.plain (OpenSpec.upto runColumnsSpec)) runColumnsUptoCard
end Rows
end Go.Proofs.YtkcejelmohameaaGreatDoor
