/-
  DERIVED. GIVEN WITH THE SEED: THE CARDS: each row of YtjgihlmefaakkaaDoorRows.lean that lists a variable, with what it lists TIED to the program's text (the seventh form; the later family's looks); each row that meets fmt, with fmt's text TOLD by the authors' own Lean function (tested against real Go, not proved from fmt's source: count such statements apart). THE CARD IS WHAT COUNTS. Prove the row's statement (the work); the ties are given (YtjgihlmefaakkaaDoorTie.lean); close each card by the builder's one call (the guide's Derived/Test/ToyasCard.lean, 'card_holds'). Laid BY PROGRAM, IN A SANDBOX (cutbox-door.mjs). By AI agents, Wed Nov 11 2026. No macro, syntax, notation, axiom, sorry.
-/
import Derived.Test.YtjgihlmefaakkaaDoorRows
import GoSem.ClaimSeven
namespace Go.Proofs.YtjgihlmefaakkaaDoor
namespace Rows

/-- THE TIED CARD OF 'pleacherlaw.RelGroups'. -/
def relGroupsCard : Claim7 := { stood := { row := relGroupsRow, standIns := [], harness := (true, "06b966fd8d3a670a91e6bb609970a05951e33a9022542f2dac3f09b4f4c5bf27"), looks := false }, kinds := [], alts := [], laidByText := true, laidKinds := [.data, .pinned], laidTests := true, laidLooks := .later }
def RelGroupsCardSaid : Prop := Claim7.holds Tryd.pinned (.plain (OpenSpec.ofChange relGroupsSpec)) relGroupsCard

/-- THE SECOND FORM's CARD OF 'pleacherlaw.RelGroups'. -/
def relGroupsUptoCard : Claim7 := { stood := { row := relGroupsUptoRow, standIns := [], harness := (true, "06b966fd8d3a670a91e6bb609970a05951e33a9022542f2dac3f09b4f4c5bf27"), looks := false }, kinds := [], alts := [], laidByText := true, laidKinds := [.data, .pinned], laidTests := true, laidLooks := .later }
def RelGroupsUptoCardSaid : Prop := Claim7.holds Tryd.pinned (.plain (OpenSpec.upto relGroupsSpec)) relGroupsUptoCard
end Rows
end Go.Proofs.YtjgihlmefaakkaaDoor
