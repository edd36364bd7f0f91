/-
  DERIVED. GIVEN WITH THE SEED: THE CARDS: each row of YtcbpjgnbdpfiiaaGreatDoorRows.lean that lists a variable, with what it lists TIED to the program's text (the seventh form; the later family's looks); each row that meets fmt, with fmt's text TOLD by the authors' own Lean function (tested against real Go, not proved from fmt's source: count such statements apart). THE CARD IS WHAT COUNTS. Prove the row's statement (the work); the ties are given (YtcbpjgnbdpfiiaaGreatDoorTie.lean); close each card by the builder's one call (the guide's Derived/Test/ToyasCard.lean, 'card_holds'). Laid BY PROGRAM, IN A SANDBOX (cutbox-door.mjs). By AI agents, Wed Nov 11 2026. No macro, syntax, notation, axiom, sorry.
-/
import Derived.Test.YtcbpjgnbdpfiiaaGreatDoorRows
import GoSem.ClaimSeven
namespace Go.Proofs.YtcbpjgnbdpfiiaaGreatDoor
namespace Rows

/-- THE TIED CARD OF 'pleacherkeep.LowerCalls'. -/
def lowerCallsCard : Claim7 := { stood := { row := lowerCallsRow, standIns := [], harness := (true, "4da5b665752630936ed97ef2f0bb4e503bf9112e22cd1ef21aa21e4d8fe7aeb1"), looks := false }, kinds := [], alts := [], laidByText := true, laidKinds := [.data, .data, .data, .data, .data, .pinned], laidTests := true, laidLooks := .later }
def LowerCallsCardSaid : Prop := Claim7.holds Tryz.pinned (.plain (OpenSpec.ofChange lowerCallsSpec)) lowerCallsCard

/-- THE TIED CARD OF 'pleacherkeep.LowerMany'. -/
def lowerManyCard : Claim7 := { stood := { row := lowerManyRow, standIns := [], harness := (true, "4da5b665752630936ed97ef2f0bb4e503bf9112e22cd1ef21aa21e4d8fe7aeb1"), looks := false }, kinds := [], alts := [], laidByText := true, laidKinds := [.data, .data, .data, .data, .data, .pinned], laidTests := true, laidLooks := .later }
def LowerManyCardSaid : Prop := Claim7.holds Tryz.pinned (.plain (OpenSpec.ofChange lowerManySpec)) lowerManyCard

/-- THE SECOND FORM's CARD OF 'pleacherkeep.LowerCalls'. -/
def lowerCallsUptoCard : Claim7 := { stood := { row := lowerCallsUptoRow, standIns := [], harness := (true, "4da5b665752630936ed97ef2f0bb4e503bf9112e22cd1ef21aa21e4d8fe7aeb1"), looks := false }, kinds := [], alts := [], laidByText := true, laidKinds := [.data, .data, .data, .data, .data, .pinned], laidTests := true, laidLooks := .later }
def LowerCallsUptoCardSaid : Prop := Claim7.holds Tryz.pinned (.plain (OpenSpec.upto lowerCallsSpec)) lowerCallsUptoCard

/-- THE SECOND FORM's CARD OF 'pleacherkeep.LowerMany'. -/
def lowerManyUptoCard : Claim7 := { stood := { row := lowerManyUptoRow, standIns := [], harness := (true, "4da5b665752630936ed97ef2f0bb4e503bf9112e22cd1ef21aa21e4d8fe7aeb1"), looks := false }, kinds := [], alts := [], laidByText := true, laidKinds := [.data, .data, .data, .data, .data, .pinned], laidTests := true, laidLooks := .later }
def LowerManyUptoCardSaid : Prop := Claim7.holds Tryz.pinned (.plain (OpenSpec.upto lowerManySpec)) lowerManyUptoCard
end Rows
end Go.Proofs.YtcbpjgnbdpfiiaaGreatDoor
