/-
  DERIVED. GIVEN WITH THE SEED: THE CARDS: each row of YtpikhoilligkdaaDoorRows.lean that lists a variable, with what it lists TIED to the program's text (the seventh form; the later family's looks); each row that meets fmt, with fmt's text TOLD by the authors' own Lean function (tested against real Go, not proved from fmt's source: count such statements apart). THE CARD IS WHAT COUNTS. Prove the row's statement (the work); the ties are given (YtpikhoilligkdaaDoorTie.lean); close each card by the builder's one call (the guide's Derived/Test/ToyasCard.lean, 'card_holds'). Laid BY PROGRAM, IN A SANDBOX (cutbox-door.mjs). By AI agents, Wed Nov 11 2026. No macro, syntax, notation, axiom, sorry.
-/
import Derived.Test.YtpikhoilligkdaaDoorRows
import GoSem.ClaimSeven
namespace Go.Proofs.YtpikhoilligkdaaDoor
namespace Rows

/-- THE TIED CARD OF 'pleacherlaw.RelExcepts'. -/
def relExceptsCard : Claim7 := { stood := { row := relExceptsRow, standIns := [], harness := (true, "1fea3a59259e513ceacac0993197cc758a9fd74961df51c27f168f0da2de1ecb"), looks := false }, kinds := [], alts := [], laidByText := true, laidKinds := [.data, .pinned], laidTests := true, laidLooks := .later }
def RelExceptsCardSaid : Prop := Claim7.holds Tryd.pinned (.plain (OpenSpec.ofChange relExceptsSpec)) relExceptsCard

/-- THE TIED CARD OF 'pleacherlaw.RelUniques'. -/
def relUniquesCard : Claim7 := { stood := { row := relUniquesRow, standIns := [], harness := (true, "1fea3a59259e513ceacac0993197cc758a9fd74961df51c27f168f0da2de1ecb"), looks := false }, kinds := [], alts := [], laidByText := true, laidKinds := [.data, .pinned], laidTests := true, laidLooks := .later }
def RelUniquesCardSaid : Prop := Claim7.holds Tryd.pinned (.plain (OpenSpec.ofChange relUniquesSpec)) relUniquesCard

/-- THE SECOND FORM's CARD OF 'pleacherlaw.RelExcepts'. -/
def relExceptsUptoCard : Claim7 := { stood := { row := relExceptsUptoRow, standIns := [], harness := (true, "1fea3a59259e513ceacac0993197cc758a9fd74961df51c27f168f0da2de1ecb"), looks := false }, kinds := [], alts := [], laidByText := true, laidKinds := [.data, .pinned], laidTests := true, laidLooks := .later }
def RelExceptsUptoCardSaid : Prop := Claim7.holds Tryd.pinned (.plain (OpenSpec.upto relExceptsSpec)) relExceptsUptoCard

/-- THE SECOND FORM's CARD OF 'pleacherlaw.RelUniques'. -/
def relUniquesUptoCard : Claim7 := { stood := { row := relUniquesUptoRow, standIns := [], harness := (true, "1fea3a59259e513ceacac0993197cc758a9fd74961df51c27f168f0da2de1ecb"), looks := false }, kinds := [], alts := [], laidByText := true, laidKinds := [.data, .pinned], laidTests := true, laidLooks := .later }
def RelUniquesUptoCardSaid : Prop := Claim7.holds Tryd.pinned (.plain (OpenSpec.upto relUniquesSpec)) relUniquesUptoCard
end Rows
end Go.Proofs.YtpikhoilligkdaaDoor
