/-
  DERIVED. GIVEN WITH THE SEED: THE CARDS: each row of YtabnaeppcnfhhaaDoorRows.lean that lists a variable, with what it lists TIED to the program's text (the seventh form; the later family's looks); each row that meets fmt, with fmt's text TOLD by the authors' own Lean function (tested against real Go, not proved from fmt's source: count such statements apart). THE CARD IS WHAT COUNTS. Prove the row's statement (the work); the ties are given (YtabnaeppcnfhhaaDoorTie.lean); close each card by the builder's one call (the guide's Derived/Test/ToyasCard.lean, 'card_holds'). Laid BY PROGRAM, IN A SANDBOX (cutbox-door.mjs). By AI agents, Wed Nov 11 2026. No macro, syntax, notation, axiom, sorry.
-/
import Derived.Test.YtabnaeppcnfhhaaDoorRows
import GoSem.ClaimSeven
namespace Go.Proofs.YtabnaeppcnfhhaaDoor
namespace Rows

/-- THE TIED CARD OF 'pleacherlaw.StoreEvents'. -/
def storeEventsCard : Claim7 := { stood := { row := storeEventsRow, standIns := [], harness := (true, "0d92d8de8d5fb16dfec995e51ac4f4baece2a1f3fc4bfded779fe25d8c92990e"), looks := false }, kinds := [], alts := [], laidByText := true, laidKinds := [.data, .pinned], laidTests := true, laidLooks := .later }
def StoreEventsCardSaid : Prop := Claim7.holds Tryd.pinned (.plain (OpenSpec.ofChange storeEventsSpec)) storeEventsCard

/-- THE SECOND FORM's CARD OF 'pleacherlaw.StoreEvents'. -/
def storeEventsUptoCard : Claim7 := { stood := { row := storeEventsUptoRow, standIns := [], harness := (true, "0d92d8de8d5fb16dfec995e51ac4f4baece2a1f3fc4bfded779fe25d8c92990e"), looks := false }, kinds := [], alts := [], laidByText := true, laidKinds := [.data, .pinned], laidTests := true, laidLooks := .later }
def StoreEventsUptoCardSaid : Prop := Claim7.holds Tryd.pinned (.plain (OpenSpec.upto storeEventsSpec)) storeEventsUptoCard
end Rows
end Go.Proofs.YtabnaeppcnfhhaaDoor
