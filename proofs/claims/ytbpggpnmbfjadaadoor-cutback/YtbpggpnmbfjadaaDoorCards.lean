/-
  DERIVED. GIVEN WITH THE SEED: THE CARDS: each row of YtbpggpnmbfjadaaDoorRows.lean that lists a variable, with what it lists TIED to the program's text (the seventh form; the later family's looks); each row that meets fmt, with fmt's text TOLD by the authors' own Lean function (tested against real Go, not proved from fmt's source: count such statements apart). THE CARD IS WHAT COUNTS. Prove the row's statement (the work); the ties are given (YtbpggpnmbfjadaaDoorTie.lean); close each card by the builder's one call (the guide's Derived/Test/ToyasCard.lean, 'card_holds'). Laid BY PROGRAM, IN A SANDBOX (cutbox-door.mjs). By AI agents, Wed Nov 11 2026. No macro, syntax, notation, axiom, sorry.
-/
import Derived.Test.YtbpggpnmbfjadaaDoorRows
import GoSem.ClaimSeven
namespace Go.Proofs.YtbpggpnmbfjadaaDoor
namespace Rows

/-- THE TIED CARD OF 'pleacherkeep.CutBack'. -/
def cutBackCard : Claim7 := { stood := { row := cutBackRow, standIns := [], harness := (true, "9216e661fe07ee92df6d4ef75d40466998ec3d5326e31fc6e50aa425abcded93"), looks := false }, kinds := [], alts := [], laidByText := true, laidKinds := [.data, .data, .data, .data, .data, .pinned], laidTests := true, laidLooks := .later }
def CutBackCardSaid : Prop := Claim7.holds Tryd.pinned (.plain (OpenSpec.ofChange cutBackSpec)) cutBackCard

/-- THE SECOND FORM's CARD OF 'pleacherkeep.CutBack'. -/
def cutBackUptoCard : Claim7 := { stood := { row := cutBackUptoRow, standIns := [], harness := (true, "9216e661fe07ee92df6d4ef75d40466998ec3d5326e31fc6e50aa425abcded93"), looks := false }, kinds := [], alts := [], laidByText := true, laidKinds := [.data, .data, .data, .data, .data, .pinned], laidTests := true, laidLooks := .later }
def CutBackUptoCardSaid : Prop := Claim7.holds Tryd.pinned (.plain (OpenSpec.upto cutBackSpec)) cutBackUptoCard
end Rows
end Go.Proofs.YtbpggpnmbfjadaaDoor
