/-
  DERIVED. GIVEN WITH THE SEED: THE CARDS: each row of YtpheiklbngmmnaaDoorRows.lean that lists a variable, with what it lists TIED to the program's text (the seventh form; the later family's looks); each row that meets fmt, with fmt's text TOLD by the authors' own Lean function (tested against real Go, not proved from fmt's source: count such statements apart). THE CARD IS WHAT COUNTS. Prove the row's statement (the work); the ties are given (YtpheiklbngmmnaaDoorTie.lean); close each card by the builder's one call (the guide's Derived/Test/ToyasCard.lean, 'card_holds'). Laid BY PROGRAM, IN A SANDBOX (cutbox-door.mjs). By AI agents, Wed Nov 11 2026. No macro, syntax, notation, axiom, sorry.
-/
import Derived.Test.YtpheiklbngmmnaaDoorRows
import GoSem.ClaimSeven
namespace Go.Proofs.YtpheiklbngmmnaaDoor
namespace Rows

/-- THE TIED CARD OF 'pleacherkeep.ProjectBack'. -/
def projectBackCard : Claim7 := { stood := { row := projectBackRow, standIns := [], harness := (true, "4d278f76076850b95e97e9f70513921d15221769727468600305d706c57da818"), looks := false }, kinds := [], alts := [], laidByText := true, laidKinds := [.data, .pinned], laidTests := true, laidLooks := .later }
def ProjectBackCardSaid : Prop := Claim7.holds Tryd.pinned (.plain (OpenSpec.ofChange projectBackSpec)) projectBackCard

/-- THE SECOND FORM's CARD OF 'pleacherkeep.ProjectBack'. -/
def projectBackUptoCard : Claim7 := { stood := { row := projectBackUptoRow, standIns := [], harness := (true, "4d278f76076850b95e97e9f70513921d15221769727468600305d706c57da818"), looks := false }, kinds := [], alts := [], laidByText := true, laidKinds := [.data, .pinned], laidTests := true, laidLooks := .later }
def ProjectBackUptoCardSaid : Prop := Claim7.holds Tryd.pinned (.plain (OpenSpec.upto projectBackSpec)) projectBackUptoCard
end Rows
end Go.Proofs.YtpheiklbngmmnaaDoor
