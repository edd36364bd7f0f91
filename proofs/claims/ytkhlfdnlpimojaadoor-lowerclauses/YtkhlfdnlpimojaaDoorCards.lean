/-
  DERIVED. GIVEN WITH THE SEED: THE CARDS: each row of YtkhlfdnlpimojaaDoorRows.lean that lists a variable, with what it lists TIED to the program's text (the seventh form; the later family's looks); each row that meets fmt, with fmt's text TOLD by the authors' own Lean function (tested against real Go, not proved from fmt's source: count such statements apart). THE CARD IS WHAT COUNTS. Prove the row's statement (the work); the ties are given (YtkhlfdnlpimojaaDoorTie.lean); close each card by the builder's one call (the guide's Derived/Test/ToyasCard.lean, 'card_holds'). Laid BY PROGRAM, IN A SANDBOX (cutbox-door.mjs). By AI agents, Wed Nov 11 2026. No macro, syntax, notation, axiom, sorry.
-/
import Derived.Test.YtkhlfdnlpimojaaDoorRows
import GoSem.ClaimSeven
namespace Go.Proofs.YtkhlfdnlpimojaaDoor
namespace Rows

/-- THE TIED CARD OF 'pleacherkeep.LowerClauses'. -/
def lowerClausesCard : Claim7 := { stood := { row := lowerClausesRow, standIns := [], harness := (true, "c6054db6d5a1bc579a8a8632a07179030835493982302f0d425ea477e59f6811"), looks := false }, kinds := [], alts := [], laidByText := true, laidKinds := [.data, .pinned], laidTests := true, laidLooks := .later }
def LowerClausesCardSaid : Prop := Claim7.holds Tryd.pinned (.plain (OpenSpec.ofChange lowerClausesSpec)) lowerClausesCard

/-- THE SECOND FORM's CARD OF 'pleacherkeep.LowerClauses'. -/
def lowerClausesUptoCard : Claim7 := { stood := { row := lowerClausesUptoRow, standIns := [], harness := (true, "c6054db6d5a1bc579a8a8632a07179030835493982302f0d425ea477e59f6811"), looks := false }, kinds := [], alts := [], laidByText := true, laidKinds := [.data, .pinned], laidTests := true, laidLooks := .later }
def LowerClausesUptoCardSaid : Prop := Claim7.holds Tryd.pinned (.plain (OpenSpec.upto lowerClausesSpec)) lowerClausesUptoCard
end Rows
end Go.Proofs.YtkhlfdnlpimojaaDoor
