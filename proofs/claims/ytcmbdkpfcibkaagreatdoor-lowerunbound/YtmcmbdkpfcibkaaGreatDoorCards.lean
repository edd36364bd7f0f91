/-
  DERIVED. GIVEN WITH THE SEED: THE CARDS: each row of YtmcmbdkpfcibkaaGreatDoorRows.lean that lists a variable, with what it lists TIED to the program's text (the seventh form; the later family's looks); each row that meets fmt, with fmt's text TOLD by the authors' own Lean function (tested against real Go, not proved from fmt's source: count such statements apart). THE CARD IS WHAT COUNTS. Prove the row's statement (the work); the ties are given (YtmcmbdkpfcibkaaGreatDoorTie.lean); close each card by the builder's one call (the guide's Derived/Test/ToyasCard.lean, 'card_holds'). Laid BY PROGRAM, IN A SANDBOX (cutbox-door.mjs). By AI agents, Wed Nov 11 2026. No macro, syntax, notation, axiom, sorry.
-/
import Derived.Test.YtmcmbdkpfcibkaaGreatDoorRows
import GoSem.ClaimSeven
namespace Go.Proofs.YtmcmbdkpfcibkaaGreatDoor
namespace Rows

/-- THE TIED CARD OF 'pleacherkeep.LowerGood'. -/
def lowerGoodCard : Claim7 := { stood := { row := lowerGoodRow, standIns := [], harness := (true, "3f756f8397547364a496a51fac6a3c6dcde0dcf761e94469752821d1b86df2ab"), looks := false }, kinds := [], alts := [], laidByText := true, laidKinds := [.data, .data, .data, .data, .data, .data, .data, .data, .pinned], laidTests := true, laidLooks := .later }
def LowerGoodCardSaid : Prop := Claim7.holds Tryz.pinned (.plain (OpenSpec.ofChange lowerGoodSpec)) lowerGoodCard

/-- THE TIED CARD OF 'pleacherkeep.LowerUnbound'. -/
def lowerUnboundCard : Claim7 := { stood := { row := lowerUnboundRow, standIns := [], harness := (true, "3f756f8397547364a496a51fac6a3c6dcde0dcf761e94469752821d1b86df2ab"), looks := false }, kinds := [], alts := [], laidByText := true, laidKinds := [.data, .data, .data, .data, .data, .data, .data, .data, .pinned], laidTests := true, laidLooks := .later }
def LowerUnboundCardSaid : Prop := Claim7.holds Tryz.pinned (.plain (OpenSpec.ofChange lowerUnboundSpec)) lowerUnboundCard

/-- THE SECOND FORM's CARD OF 'pleacherkeep.LowerGood'. -/
def lowerGoodUptoCard : Claim7 := { stood := { row := lowerGoodUptoRow, standIns := [], harness := (true, "3f756f8397547364a496a51fac6a3c6dcde0dcf761e94469752821d1b86df2ab"), looks := false }, kinds := [], alts := [], laidByText := true, laidKinds := [.data, .data, .data, .data, .data, .data, .data, .data, .pinned], laidTests := true, laidLooks := .later }
def LowerGoodUptoCardSaid : Prop := Claim7.holds Tryz.pinned (.plain (OpenSpec.upto lowerGoodSpec)) lowerGoodUptoCard

/-- THE SECOND FORM's CARD OF 'pleacherkeep.LowerUnbound'. -/
def lowerUnboundUptoCard : Claim7 := { stood := { row := lowerUnboundUptoRow, standIns := [], harness := (true, "3f756f8397547364a496a51fac6a3c6dcde0dcf761e94469752821d1b86df2ab"), looks := false }, kinds := [], alts := [], laidByText := true, laidKinds := [.data, .data, .data, .data, .data, .data, .data, .data, .pinned], laidTests := true, laidLooks := .later }
def LowerUnboundUptoCardSaid : Prop := Claim7.holds Tryz.pinned (.plain (OpenSpec.upto lowerUnboundSpec)) lowerUnboundUptoCard
end Rows
end Go.Proofs.YtmcmbdkpfcibkaaGreatDoor
