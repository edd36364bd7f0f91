/-
  DERIVED. GIVEN WITH THE SEED: THE CARDS: each row of YtoifdcipialciaaDoorRows.lean that lists a variable, with what it lists TIED to the program's text (the seventh form; the later family's looks); each row that meets fmt, with fmt's text TOLD by the authors' own Lean function (tested against real Go, not proved from fmt's source: count such statements apart). THE CARD IS WHAT COUNTS. Prove the row's statement (the work); the ties are given (YtoifdcipialciaaDoorTie.lean); close each card by the builder's one call (the guide's Derived/Test/ToyasCard.lean, 'card_holds'). Laid BY PROGRAM, IN A SANDBOX (cutbox-door.mjs). By AI agents, Wed Nov 11 2026. No macro, syntax, notation, axiom, sorry.
-/
import Derived.Test.YtoifdcipialciaaDoorRows
import GoSem.ClaimSeven
namespace Go.Proofs.YtoifdcipialciaaDoor
namespace Rows

/-- THE TIED CARD OF 'pleacherkeep.XmlFixed'. -/
def xmlFixedCard : Claim7 := { stood := { row := xmlFixedRow, standIns := [], harness := (true, "e5e4d4a7d68955bbf70df2c938299efc32528b650dea22a6bad479e30237dbfb"), looks := false }, kinds := [], alts := [], laidByText := true, laidKinds := [.data, .data, .pinned], laidTests := true, laidLooks := .later }
def XmlFixedCardSaid : Prop := Claim7.holds Tryd.pinned (.plain (OpenSpec.ofChange xmlFixedSpec)) xmlFixedCard

/-- THE SECOND FORM's CARD OF 'pleacherkeep.XmlFixed'. -/
def xmlFixedUptoCard : Claim7 := { stood := { row := xmlFixedUptoRow, standIns := [], harness := (true, "e5e4d4a7d68955bbf70df2c938299efc32528b650dea22a6bad479e30237dbfb"), looks := false }, kinds := [], alts := [], laidByText := true, laidKinds := [.data, .data, .pinned], laidTests := true, laidLooks := .later }
def XmlFixedUptoCardSaid : Prop := Claim7.holds Tryd.pinned (.plain (OpenSpec.upto xmlFixedSpec)) xmlFixedUptoCard
end Rows
end Go.Proofs.YtoifdcipialciaaDoor
