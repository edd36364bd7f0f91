/-
  DERIVED. GIVEN WITH THE SEED: THE CARDS: each row of YtogmjonbmlkahaaDoorRows.lean that lists a variable, with what it lists TIED to the program's text (the seventh form; the later family's looks); each row that meets fmt, with fmt's text TOLD by the authors' own Lean function (tested against real Go, not proved from fmt's source: count such statements apart). THE CARD IS WHAT COUNTS. Prove the row's statement (the work); the ties are given (YtogmjonbmlkahaaDoorTie.lean); close each card by the builder's one call (the guide's Derived/Test/ToyasCard.lean, 'card_holds'). Laid BY PROGRAM, IN A SANDBOX (cutbox-door.mjs). By AI agents, Wed Nov 11 2026. No macro, syntax, notation, axiom, sorry.
-/
import Derived.Test.YtogmjonbmlkahaaDoorRows
import GoSem.ClaimSeven
namespace Go.Proofs.YtogmjonbmlkahaaDoor
namespace Rows

/-- THE TIED CARD OF 'pleacherkeep.XmlBad'. -/
def xmlBadCard : Claim7 := { stood := { row := xmlBadRow, standIns := [], harness := (true, "ee57be57094d76479927051b30a2ebb23b338cb9b4dbd5996cc15004f846264d"), looks := false }, kinds := [], alts := [], laidByText := true, laidKinds := [.data, .data, .pinned], laidTests := true, laidLooks := .later }
def XmlBadCardSaid : Prop := Claim7.holds Tryd.pinned (.plain (OpenSpec.ofChange xmlBadSpec)) xmlBadCard

/-- THE SECOND FORM's CARD OF 'pleacherkeep.XmlBad'. -/
def xmlBadUptoCard : Claim7 := { stood := { row := xmlBadUptoRow, standIns := [], harness := (true, "ee57be57094d76479927051b30a2ebb23b338cb9b4dbd5996cc15004f846264d"), looks := false }, kinds := [], alts := [], laidByText := true, laidKinds := [.data, .data, .pinned], laidTests := true, laidLooks := .later }
def XmlBadUptoCardSaid : Prop := Claim7.holds Tryd.pinned (.plain (OpenSpec.upto xmlBadSpec)) xmlBadUptoCard
end Rows
end Go.Proofs.YtogmjonbmlkahaaDoor
