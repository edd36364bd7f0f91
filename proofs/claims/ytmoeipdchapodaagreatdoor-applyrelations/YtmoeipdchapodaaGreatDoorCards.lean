/-
  DERIVED. GIVEN WITH THE SEED: THE CARDS: each row of YtmoeipdchapodaaGreatDoorRows.lean that lists a variable, with what it lists TIED to the program's text (the seventh form; the later family's looks); each row that meets fmt, with fmt's text TOLD by the authors' own Lean function (tested against real Go, not proved from fmt's source: count such statements apart). THE CARD IS WHAT COUNTS. Prove the row's statement (the work); the ties are given (YtmoeipdchapodaaGreatDoorTie.lean); close each card by the builder's one call (the guide's Derived/Test/ToyasCard.lean, 'card_holds'). Laid BY PROGRAM, IN A SANDBOX (cutbox-door.mjs). By AI agents, Wed Nov 11 2026. No macro, syntax, notation, axiom, sorry.
-/
import Derived.Test.YtmoeipdchapodaaGreatDoorRows
import GoSem.ClaimSeven
namespace Go.Proofs.YtmoeipdchapodaaGreatDoor
namespace Rows

/-- THE TIED CARD OF 'pleacherkeep.ApplyNumbers'. -/
def applyNumbersCard : Claim7 := { stood := { row := applyNumbersRow, standIns := [], harness := (true, "341386648e6b4280a423a6d563633e3667b63fcb87d3e41a9a906f9e5b231657"), looks := true }, kinds := [], alts := [], laidByText := true, laidKinds := [.data, .data, .data, .data, .sentinel, .sentinel, .data, .pinned], laidTests := true, laidLooks := .later }
def ApplyNumbersCardSaid : Prop := Claim7.holds Tryz.pinned (.plain (OpenSpec.ofChange applyNumbersSpec)) applyNumbersCard

/-- THE TIED CARD OF 'pleacherkeep.ApplyRelations'. -/
def applyRelationsCard : Claim7 := { stood := { row := applyRelationsRow, standIns := [], harness := (true, "341386648e6b4280a423a6d563633e3667b63fcb87d3e41a9a906f9e5b231657"), looks := true }, kinds := [], alts := [], laidByText := true, laidKinds := [.data, .data, .data, .data, .sentinel, .sentinel, .data, .pinned], laidTests := true, laidLooks := .later }
def ApplyRelationsCardSaid : Prop := Claim7.holds Tryz.pinned (.plain (OpenSpec.ofChange applyRelationsSpec)) applyRelationsCard

/-- THE SECOND FORM's CARD OF 'pleacherkeep.ApplyNumbers'. -/
def applyNumbersUptoCard : Claim7 := { stood := { row := applyNumbersUptoRow, standIns := [], harness := (true, "341386648e6b4280a423a6d563633e3667b63fcb87d3e41a9a906f9e5b231657"), looks := true }, kinds := [], alts := [], laidByText := true, laidKinds := [.data, .data, .data, .data, .sentinel, .sentinel, .data, .pinned], laidTests := true, laidLooks := .later }
def ApplyNumbersUptoCardSaid : Prop := Claim7.holds Tryz.pinned (.plain (OpenSpec.upto applyNumbersSpec)) applyNumbersUptoCard

/-- THE SECOND FORM's CARD OF 'pleacherkeep.ApplyRelations'. -/
def applyRelationsUptoCard : Claim7 := { stood := { row := applyRelationsUptoRow, standIns := [], harness := (true, "341386648e6b4280a423a6d563633e3667b63fcb87d3e41a9a906f9e5b231657"), looks := true }, kinds := [], alts := [], laidByText := true, laidKinds := [.data, .data, .data, .data, .sentinel, .sentinel, .data, .pinned], laidTests := true, laidLooks := .later }
def ApplyRelationsUptoCardSaid : Prop := Claim7.holds Tryz.pinned (.plain (OpenSpec.upto applyRelationsSpec)) applyRelationsUptoCard
end Rows
end Go.Proofs.YtmoeipdchapodaaGreatDoor
