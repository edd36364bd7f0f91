/-
  DERIVED. GIVEN WITH THE SEED: THE CARDS: each row of YtnfljohddpadhaaDoorRows.lean that lists a variable, with what it lists TIED to the program's text (the seventh form; the later family's looks); each row that meets fmt, with fmt's text TOLD by the authors' own Lean function (tested against real Go, not proved from fmt's source: count such statements apart). THE CARD IS WHAT COUNTS. Prove the row's statement (the work); the ties are given (YtnfljohddpadhaaDoorTie.lean); close each card by the builder's one call (the guide's Derived/Test/ToyasCard.lean, 'card_holds'). Laid BY PROGRAM, IN A SANDBOX (cutbox-door.mjs). By AI agents, Wed Nov 11 2026. No macro, syntax, notation, axiom, sorry.
-/
import Derived.Test.YtnfljohddpadhaaDoorRows
import GoSem.ClaimSeven
namespace Go.Proofs.YtnfljohddpadhaaDoor
namespace Rows

/-- THE TIED CARD OF 'pleacherlaw.StairWalks'. -/
def stairWalksCard : Claim7 := { stood := { row := stairWalksRow, standIns := [], harness := (true, "34956c56d80a67a14b42556b8ff6b570e61d3414d69710ec2ba9b5de7fe56af9"), looks := false }, kinds := [], alts := [], laidByText := true, laidKinds := [.data, .pinned], laidTests := true, laidLooks := .later }
def StairWalksCardSaid : Prop := Claim7.holds Tryd.pinned (.plain (OpenSpec.ofChange stairWalksSpec)) stairWalksCard

/-- THE SECOND FORM's CARD OF 'pleacherlaw.StairWalks'. -/
def stairWalksUptoCard : Claim7 := { stood := { row := stairWalksUptoRow, standIns := [], harness := (true, "34956c56d80a67a14b42556b8ff6b570e61d3414d69710ec2ba9b5de7fe56af9"), looks := false }, kinds := [], alts := [], laidByText := true, laidKinds := [.data, .pinned], laidTests := true, laidLooks := .later }
def StairWalksUptoCardSaid : Prop := Claim7.holds Tryd.pinned (.plain (OpenSpec.upto stairWalksSpec)) stairWalksUptoCard
end Rows
end Go.Proofs.YtnfljohddpadhaaDoor
