/-
  DERIVED. GIVEN WITH THE SEED: THE CARDS: each row of YtkfpjlcflbghoaaDoorRows.lean that lists a variable, with what it lists TIED to the program's text (the seventh form; the later family's looks); each row that meets fmt, with fmt's text TOLD by the authors' own Lean function (tested against real Go, not proved from fmt's source: count such statements apart). THE CARD IS WHAT COUNTS. Prove the row's statement (the work); the ties are given (YtkfpjlcflbghoaaDoorTie.lean); close each card by the builder's one call (the guide's Derived/Test/ToyasCard.lean, 'card_holds'). Laid BY PROGRAM, IN A SANDBOX (cutbox-door.mjs). By AI agents, Wed Nov 11 2026. No macro, syntax, notation, axiom, sorry.
-/
import Derived.Test.YtkfpjlcflbghoaaDoorRows
import GoSem.ClaimSeven
namespace Go.Proofs.YtkfpjlcflbghoaaDoor
namespace Rows

/-- THE TIED CARD OF 'pleacherkeep.RankCounts'. -/
def rankCountsCard : Claim7 := { stood := { row := rankCountsRow, standIns := [], harness := (true, "e4cca58c177f5ec341d279508d5fcd41805f2f0ab2ad7a709a70bd92ec40612e"), looks := false }, kinds := [], alts := [], laidByText := true, laidKinds := [.data, .pinned], laidTests := true, laidLooks := .later }
def RankCountsCardSaid : Prop := Claim7.holds Tryd.pinned (.plain (OpenSpec.ofChange rankCountsSpec)) rankCountsCard

/-- THE SECOND FORM's CARD OF 'pleacherkeep.RankCounts'. -/
def rankCountsUptoCard : Claim7 := { stood := { row := rankCountsUptoRow, standIns := [], harness := (true, "e4cca58c177f5ec341d279508d5fcd41805f2f0ab2ad7a709a70bd92ec40612e"), looks := false }, kinds := [], alts := [], laidByText := true, laidKinds := [.data, .pinned], laidTests := true, laidLooks := .later }
def RankCountsUptoCardSaid : Prop := Claim7.holds Tryd.pinned (.plain (OpenSpec.upto rankCountsSpec)) rankCountsUptoCard
end Rows
end Go.Proofs.YtkfpjlcflbghoaaDoor
