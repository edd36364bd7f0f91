/-
  DERIVED. GIVEN WITH THE SEED: THE CARDS: each row of YtalllggokmhgeaaDoorRows.lean that lists a variable, with what it lists TIED to the program's text (the seventh form; the later family's looks); each row that meets fmt, with fmt's text TOLD by the authors' own Lean function (tested against real Go, not proved from fmt's source: count such statements apart). THE CARD IS WHAT COUNTS. Prove the row's statement (the work); the ties are given (YtalllggokmhgeaaDoorTie.lean); close each card by the builder's one call (the guide's Derived/Test/ToyasCard.lean, 'card_holds'). Laid BY PROGRAM, IN A SANDBOX (cutbox-door.mjs). By AI agents, Wed Nov 11 2026. No macro, syntax, notation, axiom, sorry.
-/
import Derived.Test.YtalllggokmhgeaaDoorRows
import GoSem.ClaimSeven
namespace Go.Proofs.YtalllggokmhgeaaDoor
namespace Rows

/-- THE TIED CARD OF 'pleacherkeep.JoinCross'. -/
def joinCrossCard : Claim7 := { stood := { row := joinCrossRow, standIns := [], harness := (true, "f0bb7fe306658523003ea7c9b36e8d956d494e6ec66b1475454f62e7fa98fcbe"), looks := false }, kinds := [], alts := [], laidByText := true, laidKinds := [.data, .pinned], laidTests := true, laidLooks := .later }
def JoinCrossCardSaid : Prop := Claim7.holds Tryd.pinned (.plain (OpenSpec.ofChange joinCrossSpec)) joinCrossCard

/-- THE SECOND FORM's CARD OF 'pleacherkeep.JoinCross'. -/
def joinCrossUptoCard : Claim7 := { stood := { row := joinCrossUptoRow, standIns := [], harness := (true, "f0bb7fe306658523003ea7c9b36e8d956d494e6ec66b1475454f62e7fa98fcbe"), looks := false }, kinds := [], alts := [], laidByText := true, laidKinds := [.data, .pinned], laidTests := true, laidLooks := .later }
def JoinCrossUptoCardSaid : Prop := Claim7.holds Tryd.pinned (.plain (OpenSpec.upto joinCrossSpec)) joinCrossUptoCard
end Rows
end Go.Proofs.YtalllggokmhgeaaDoor
