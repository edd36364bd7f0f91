/-
  DERIVED. GIVEN WITH THE SEED: THE CARDS: each row of YtfgiocpgeainjaaDoorRows.lean that lists a variable, with what it lists TIED to the program's text (the seventh form; the later family's looks); each row that meets fmt, with fmt's text TOLD by the authors' own Lean function (tested against real Go, not proved from fmt's source: count such statements apart). THE CARD IS WHAT COUNTS. Prove the row's statement (the work); the ties are given (YtfgiocpgeainjaaDoorTie.lean); close each card by the builder's one call (the guide's Derived/Test/ToyasCard.lean, 'card_holds'). Laid BY PROGRAM, IN A SANDBOX (cutbox-door.mjs). By AI agents, Wed Nov 11 2026. No macro, syntax, notation, axiom, sorry.
-/
import Derived.Test.YtfgiocpgeainjaaDoorRows
import GoSem.ClaimSeven
namespace Go.Proofs.YtfgiocpgeainjaaDoor
namespace Rows

/-- THE TIED CARD OF 'pleacherkeep.GroupCounts'. -/
def groupCountsCard : Claim7 := { stood := { row := groupCountsRow, standIns := [], harness := (true, "d664b1b3a6614ef0f76484ba41a5eab088e8ec2e8374fdaf59fad375d84ac666"), looks := false }, kinds := [], alts := [], laidByText := true, laidKinds := [.data, .pinned], laidTests := true, laidLooks := .later }
def GroupCountsCardSaid : Prop := Claim7.holds Tryd.pinned (.plain (OpenSpec.ofChange groupCountsSpec)) groupCountsCard

/-- THE SECOND FORM's CARD OF 'pleacherkeep.GroupCounts'. -/
def groupCountsUptoCard : Claim7 := { stood := { row := groupCountsUptoRow, standIns := [], harness := (true, "d664b1b3a6614ef0f76484ba41a5eab088e8ec2e8374fdaf59fad375d84ac666"), looks := false }, kinds := [], alts := [], laidByText := true, laidKinds := [.data, .pinned], laidTests := true, laidLooks := .later }
def GroupCountsUptoCardSaid : Prop := Claim7.holds Tryd.pinned (.plain (OpenSpec.upto groupCountsSpec)) groupCountsUptoCard
end Rows
end Go.Proofs.YtfgiocpgeainjaaDoor
