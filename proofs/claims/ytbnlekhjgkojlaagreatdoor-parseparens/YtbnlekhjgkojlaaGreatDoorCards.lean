/-
  DERIVED. GIVEN WITH THE SEED: THE CARDS: each row of YtbnlekhjgkojlaaGreatDoorRows.lean that lists a variable, with what it lists TIED to the program's text (the seventh form; the later family's looks); each row that meets fmt, with fmt's text TOLD by the authors' own Lean function (tested against real Go, not proved from fmt's source: count such statements apart). THE CARD IS WHAT COUNTS. Prove the row's statement (the work); the ties are given (YtbnlekhjgkojlaaGreatDoorTie.lean); close each card by the builder's one call (the guide's Derived/Test/ToyasCard.lean, 'card_holds'). Laid BY PROGRAM, IN A SANDBOX (cutbox-door.mjs). By AI agents, Wed Nov 11 2026. No macro, syntax, notation, axiom, sorry.
-/
import Derived.Test.YtbnlekhjgkojlaaGreatDoorRows
import GoSem.ClaimSeven
namespace Go.Proofs.YtbnlekhjgkojlaaGreatDoor
namespace Rows

/-- THE TIED CARD OF 'pleacherkeep.ParseTorn'. -/
def parseTornCard : Claim7 := { stood := { row := parseTornRow, standIns := [], harness := (true, "c6f3a4d417b93f23add465bdf19caf5be947d7719c0fe9a899ada6b0c5d083d2"), looks := false }, kinds := [], alts := [], laidByText := true, laidKinds := [.data, .data, .data, .data, .data, .data, .data, .data, .pinned], laidTests := true, laidLooks := .later }
def ParseTornCardSaid : Prop := Claim7.holds Tryz.pinned (.plain (OpenSpec.ofChange parseTornSpec)) parseTornCard

/-- THE TIED CARD OF 'pleacherkeep.ParseMore'. -/
def parseMoreCard : Claim7 := { stood := { row := parseMoreRow, standIns := [], harness := (true, "c6f3a4d417b93f23add465bdf19caf5be947d7719c0fe9a899ada6b0c5d083d2"), looks := false }, kinds := [], alts := [], laidByText := true, laidKinds := [.data, .data, .data, .data, .data, .data, .data, .data, .pinned], laidTests := true, laidLooks := .later }
def ParseMoreCardSaid : Prop := Claim7.holds Tryz.pinned (.plain (OpenSpec.ofChange parseMoreSpec)) parseMoreCard

/-- THE TIED CARD OF 'pleacherkeep.ParseParens'. -/
def parseParensCard : Claim7 := { stood := { row := parseParensRow, standIns := [], harness := (true, "c6f3a4d417b93f23add465bdf19caf5be947d7719c0fe9a899ada6b0c5d083d2"), looks := false }, kinds := [], alts := [], laidByText := true, laidKinds := [.data, .data, .data, .data, .data, .data, .data, .data, .pinned], laidTests := true, laidLooks := .later }
def ParseParensCardSaid : Prop := Claim7.holds Tryz.pinned (.plain (OpenSpec.ofChange parseParensSpec)) parseParensCard

/-- THE SECOND FORM's CARD OF 'pleacherkeep.ParseTorn'. -/
def parseTornUptoCard : Claim7 := { stood := { row := parseTornUptoRow, standIns := [], harness := (true, "c6f3a4d417b93f23add465bdf19caf5be947d7719c0fe9a899ada6b0c5d083d2"), looks := false }, kinds := [], alts := [], laidByText := true, laidKinds := [.data, .data, .data, .data, .data, .data, .data, .data, .pinned], laidTests := true, laidLooks := .later }
def ParseTornUptoCardSaid : Prop := Claim7.holds Tryz.pinned (.plain (OpenSpec.upto parseTornSpec)) parseTornUptoCard

/-- THE SECOND FORM's CARD OF 'pleacherkeep.ParseMore'. -/
def parseMoreUptoCard : Claim7 := { stood := { row := parseMoreUptoRow, standIns := [], harness := (true, "c6f3a4d417b93f23add465bdf19caf5be947d7719c0fe9a899ada6b0c5d083d2"), looks := false }, kinds := [], alts := [], laidByText := true, laidKinds := [.data, .data, .data, .data, .data, .data, .data, .data, .pinned], laidTests := true, laidLooks := .later }
def ParseMoreUptoCardSaid : Prop := Claim7.holds Tryz.pinned (.plain (OpenSpec.upto parseMoreSpec)) parseMoreUptoCard

/-- THE SECOND FORM's CARD OF 'pleacherkeep.ParseParens'. -/
def parseParensUptoCard : Claim7 := { stood := { row := parseParensUptoRow, standIns := [], harness := (true, "c6f3a4d417b93f23add465bdf19caf5be947d7719c0fe9a899ada6b0c5d083d2"), looks := false }, kinds := [], alts := [], laidByText := true, laidKinds := [.data, .data, .data, .data, .data, .data, .data, .data, .pinned], laidTests := true, laidLooks := .later }
def ParseParensUptoCardSaid : Prop := Claim7.holds Tryz.pinned (.plain (OpenSpec.upto parseParensSpec)) parseParensUptoCard
end Rows
end Go.Proofs.YtbnlekhjgkojlaaGreatDoor
