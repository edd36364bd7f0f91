/-
  DERIVED. GIVEN WITH THE SEED: THE CARDS: each row of YtmmkodmhgegknaaDoorRows.lean that lists a variable, with what it lists TIED to the program's text (the seventh form; the later family's looks); each row that meets fmt, with fmt's text TOLD by the authors' own Lean function (tested against real Go, not proved from fmt's source: count such statements apart). THE CARD IS WHAT COUNTS. Prove the row's statement (the work); the ties are given (YtmmkodmhgegknaaDoorTie.lean); close each card by the builder's one call (the guide's Derived/Test/ToyasCard.lean, 'card_holds'). Laid BY PROGRAM, IN A SANDBOX (cutbox-door.mjs). By AI agents, Wed Nov 11 2026. No macro, syntax, notation, axiom, sorry.
-/
import Derived.Test.YtmmkodmhgegknaaDoorRows
import GoSem.ClaimSeven
namespace Go.Proofs.YtmmkodmhgegknaaDoor
namespace Rows

/-- THE TIED CARD OF 'pleacherlaw.RelItems'. -/
def relItemsCard : Claim7 := { stood := { row := relItemsRow, standIns := [], harness := (true, "ea16fd5020f80eb5558a353d39cb18db0f311bcf3909e8d7beed799fcebcfa54"), looks := false }, kinds := [], alts := [], laidByText := true, laidKinds := [.data, .pinned], laidTests := true, laidLooks := .later }
def RelItemsCardSaid : Prop := Claim7.holds Tryd.pinned (.plain (OpenSpec.ofChange relItemsSpec)) relItemsCard

/-- THE TIED CARD OF 'pleacherlaw.RelChecks'. -/
def relChecksCard : Claim7 := { stood := { row := relChecksRow, standIns := [], harness := (true, "ea16fd5020f80eb5558a353d39cb18db0f311bcf3909e8d7beed799fcebcfa54"), looks := false }, kinds := [], alts := [], laidByText := true, laidKinds := [.data, .pinned], laidTests := true, laidLooks := .later }
def RelChecksCardSaid : Prop := Claim7.holds Tryd.pinned (.plain (OpenSpec.ofChange relChecksSpec)) relChecksCard

/-- THE SECOND FORM's CARD OF 'pleacherlaw.RelItems'. -/
def relItemsUptoCard : Claim7 := { stood := { row := relItemsUptoRow, standIns := [], harness := (true, "ea16fd5020f80eb5558a353d39cb18db0f311bcf3909e8d7beed799fcebcfa54"), looks := false }, kinds := [], alts := [], laidByText := true, laidKinds := [.data, .pinned], laidTests := true, laidLooks := .later }
def RelItemsUptoCardSaid : Prop := Claim7.holds Tryd.pinned (.plain (OpenSpec.upto relItemsSpec)) relItemsUptoCard

/-- THE SECOND FORM's CARD OF 'pleacherlaw.RelChecks'. -/
def relChecksUptoCard : Claim7 := { stood := { row := relChecksUptoRow, standIns := [], harness := (true, "ea16fd5020f80eb5558a353d39cb18db0f311bcf3909e8d7beed799fcebcfa54"), looks := false }, kinds := [], alts := [], laidByText := true, laidKinds := [.data, .pinned], laidTests := true, laidLooks := .later }
def RelChecksUptoCardSaid : Prop := Claim7.holds Tryd.pinned (.plain (OpenSpec.upto relChecksSpec)) relChecksUptoCard
end Rows
end Go.Proofs.YtmmkodmhgegknaaDoor
