/-
  DERIVED. GIVEN WITH THE SEED: THE CARDS: each row of YtapgjmnebdgabaaDoorRows.lean that lists a variable, with what it lists TIED to the program's text (the seventh form; the later family's looks); each row that meets fmt, with fmt's text TOLD by the authors' own Lean function (tested against real Go, not proved from fmt's source: count such statements apart). THE CARD IS WHAT COUNTS. Prove the row's statement (the work); the ties are given (YtapgjmnebdgabaaDoorTie.lean); close each card by the builder's one call (the guide's Derived/Test/ToyasCard.lean, 'card_holds'). Laid BY PROGRAM, IN A SANDBOX (cutbox-door.mjs). By AI agents, Wed Nov 11 2026. No macro, syntax, notation, axiom, sorry.
-/
import Derived.Test.YtapgjmnebdgabaaDoorRows
import GoSem.ClaimSeven
namespace Go.Proofs.YtapgjmnebdgabaaDoor
namespace Rows

/-- THE TIED CARD OF 'pleacherkeep.CutBad'. -/
def cutBadCard : Claim7 := { stood := { row := cutBadRow, standIns := [], harness := (true, "cf003f88d6ef80c5c5b7b92066d2abc8cacce2efd730a03989013786f4c6fbbe"), looks := false }, kinds := [], alts := [], laidByText := true, laidKinds := [.data, .data, .data, .data, .data, .pinned], laidTests := true, laidLooks := .later }
def CutBadCardSaid : Prop := Claim7.holds Tryd.pinned (.plain (OpenSpec.ofChange cutBadSpec)) cutBadCard

/-- THE SECOND FORM's CARD OF 'pleacherkeep.CutBad'. -/
def cutBadUptoCard : Claim7 := { stood := { row := cutBadUptoRow, standIns := [], harness := (true, "cf003f88d6ef80c5c5b7b92066d2abc8cacce2efd730a03989013786f4c6fbbe"), looks := false }, kinds := [], alts := [], laidByText := true, laidKinds := [.data, .data, .data, .data, .data, .pinned], laidTests := true, laidLooks := .later }
def CutBadUptoCardSaid : Prop := Claim7.holds Tryd.pinned (.plain (OpenSpec.upto cutBadSpec)) cutBadUptoCard
end Rows
end Go.Proofs.YtapgjmnebdgabaaDoor
