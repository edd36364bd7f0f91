/-
  DERIVED. GIVEN WITH THE SEED: THE CARDS: each row of YtieoefalngioiaaDoorRows.lean that lists a variable, with what it lists TIED to the program's text (the seventh form; the later family's looks); each row that meets fmt, with fmt's text TOLD by the authors' own Lean function (tested against real Go, not proved from fmt's source: count such statements apart). THE CARD IS WHAT COUNTS. Prove the row's statement (the work); the ties are given (YtieoefalngioiaaDoorTie.lean); close each card by the builder's one call (the guide's Derived/Test/ToyasCard.lean, 'card_holds'). Laid BY PROGRAM, IN A SANDBOX (cutbox-door.mjs). By AI agents, Wed Nov 11 2026. No macro, syntax, notation, axiom, sorry.
-/
import Derived.Test.YtieoefalngioiaaDoorRows
import GoSem.ClaimSeven
namespace Go.Proofs.YtieoefalngioiaaDoor
namespace Rows

/-- THE TIED CARD OF 'pleacherkeep.ExceptSplit'. -/
def exceptSplitCard : Claim7 := { stood := { row := exceptSplitRow, standIns := [], harness := (true, "5b33e9e016041b1b586d3532b02e9ebf12e3492292a3cebfc1e6dbedfb920457"), looks := false }, kinds := [], alts := [], laidByText := true, laidKinds := [.data, .pinned], laidTests := true, laidLooks := .later }
def ExceptSplitCardSaid : Prop := Claim7.holds Tryd.pinned (.plain (OpenSpec.ofChange exceptSplitSpec)) exceptSplitCard

/-- THE SECOND FORM's CARD OF 'pleacherkeep.ExceptSplit'. -/
def exceptSplitUptoCard : Claim7 := { stood := { row := exceptSplitUptoRow, standIns := [], harness := (true, "5b33e9e016041b1b586d3532b02e9ebf12e3492292a3cebfc1e6dbedfb920457"), looks := false }, kinds := [], alts := [], laidByText := true, laidKinds := [.data, .pinned], laidTests := true, laidLooks := .later }
def ExceptSplitUptoCardSaid : Prop := Claim7.holds Tryd.pinned (.plain (OpenSpec.upto exceptSplitSpec)) exceptSplitUptoCard
end Rows
end Go.Proofs.YtieoefalngioiaaDoor
