/-
  DERIVED. GIVEN WITH THE SEED: THE CARDS: each row of YtcfjgoconmgpcaaDoorRows.lean that lists a variable, with what it lists TIED to the program's text (the seventh form; the later family's looks); each row that meets fmt, with fmt's text TOLD by the authors' own Lean function (tested against real Go, not proved from fmt's source: count such statements apart). THE CARD IS WHAT COUNTS. Prove the row's statement (the work); the ties are given (YtcfjgoconmgpcaaDoorTie.lean); close each card by the builder's one call (the guide's Derived/Test/ToyasCard.lean, 'card_holds'). Laid BY PROGRAM, IN A SANDBOX (cutbox-door.mjs). By AI agents, Wed Nov 11 2026. No macro, syntax, notation, axiom, sorry.
-/
import Derived.Test.YtcfjgoconmgpcaaDoorRows
import GoSem.ClaimSeven
namespace Go.Proofs.YtcfjgoconmgpcaaDoor
namespace Rows

/-- THE TIED CARD OF 'pleacherlaw.RelProjects'. -/
def relProjectsCard : Claim7 := { stood := { row := relProjectsRow, standIns := [], harness := (true, "1fa9db2aa0ea41781f8fd865d88d930bc0d1fbead6c205e4b858447cd379ee68"), looks := false }, kinds := [], alts := [], laidByText := true, laidKinds := [.data, .pinned], laidTests := true, laidLooks := .later }
def RelProjectsCardSaid : Prop := Claim7.holds Tryd.pinned (.plain (OpenSpec.ofChange relProjectsSpec)) relProjectsCard

/-- THE TIED CARD OF 'pleacherlaw.RelSelects'. -/
def relSelectsCard : Claim7 := { stood := { row := relSelectsRow, standIns := [], harness := (true, "1fa9db2aa0ea41781f8fd865d88d930bc0d1fbead6c205e4b858447cd379ee68"), looks := false }, kinds := [], alts := [], laidByText := true, laidKinds := [.data, .pinned], laidTests := true, laidLooks := .later }
def RelSelectsCardSaid : Prop := Claim7.holds Tryd.pinned (.plain (OpenSpec.ofChange relSelectsSpec)) relSelectsCard

/-- THE TIED CARD OF 'pleacherlaw.RelJoins'. -/
def relJoinsCard : Claim7 := { stood := { row := relJoinsRow, standIns := [], harness := (true, "1fa9db2aa0ea41781f8fd865d88d930bc0d1fbead6c205e4b858447cd379ee68"), looks := false }, kinds := [], alts := [], laidByText := true, laidKinds := [.data, .pinned], laidTests := true, laidLooks := .later }
def RelJoinsCardSaid : Prop := Claim7.holds Tryd.pinned (.plain (OpenSpec.ofChange relJoinsSpec)) relJoinsCard

/-- THE TIED CARD OF 'pleacherlaw.RelCrosses'. -/
def relCrossesCard : Claim7 := { stood := { row := relCrossesRow, standIns := [], harness := (true, "1fa9db2aa0ea41781f8fd865d88d930bc0d1fbead6c205e4b858447cd379ee68"), looks := false }, kinds := [], alts := [], laidByText := true, laidKinds := [.data, .pinned], laidTests := true, laidLooks := .later }
def RelCrossesCardSaid : Prop := Claim7.holds Tryd.pinned (.plain (OpenSpec.ofChange relCrossesSpec)) relCrossesCard

/-- THE TIED CARD OF 'pleacherlaw.RelUnions'. -/
def relUnionsCard : Claim7 := { stood := { row := relUnionsRow, standIns := [], harness := (true, "1fa9db2aa0ea41781f8fd865d88d930bc0d1fbead6c205e4b858447cd379ee68"), looks := false }, kinds := [], alts := [], laidByText := true, laidKinds := [.data, .pinned], laidTests := true, laidLooks := .later }
def RelUnionsCardSaid : Prop := Claim7.holds Tryd.pinned (.plain (OpenSpec.ofChange relUnionsSpec)) relUnionsCard

/-- THE SECOND FORM's CARD OF 'pleacherlaw.RelProjects'. -/
def relProjectsUptoCard : Claim7 := { stood := { row := relProjectsUptoRow, standIns := [], harness := (true, "1fa9db2aa0ea41781f8fd865d88d930bc0d1fbead6c205e4b858447cd379ee68"), looks := false }, kinds := [], alts := [], laidByText := true, laidKinds := [.data, .pinned], laidTests := true, laidLooks := .later }
def RelProjectsUptoCardSaid : Prop := Claim7.holds Tryd.pinned (.plain (OpenSpec.upto relProjectsSpec)) relProjectsUptoCard

/-- THE SECOND FORM's CARD OF 'pleacherlaw.RelSelects'. -/
def relSelectsUptoCard : Claim7 := { stood := { row := relSelectsUptoRow, standIns := [], harness := (true, "1fa9db2aa0ea41781f8fd865d88d930bc0d1fbead6c205e4b858447cd379ee68"), looks := false }, kinds := [], alts := [], laidByText := true, laidKinds := [.data, .pinned], laidTests := true, laidLooks := .later }
def RelSelectsUptoCardSaid : Prop := Claim7.holds Tryd.pinned (.plain (OpenSpec.upto relSelectsSpec)) relSelectsUptoCard

/-- THE SECOND FORM's CARD OF 'pleacherlaw.RelJoins'. -/
def relJoinsUptoCard : Claim7 := { stood := { row := relJoinsUptoRow, standIns := [], harness := (true, "1fa9db2aa0ea41781f8fd865d88d930bc0d1fbead6c205e4b858447cd379ee68"), looks := false }, kinds := [], alts := [], laidByText := true, laidKinds := [.data, .pinned], laidTests := true, laidLooks := .later }
def RelJoinsUptoCardSaid : Prop := Claim7.holds Tryd.pinned (.plain (OpenSpec.upto relJoinsSpec)) relJoinsUptoCard

/-- THE SECOND FORM's CARD OF 'pleacherlaw.RelCrosses'. -/
def relCrossesUptoCard : Claim7 := { stood := { row := relCrossesUptoRow, standIns := [], harness := (true, "1fa9db2aa0ea41781f8fd865d88d930bc0d1fbead6c205e4b858447cd379ee68"), looks := false }, kinds := [], alts := [], laidByText := true, laidKinds := [.data, .pinned], laidTests := true, laidLooks := .later }
def RelCrossesUptoCardSaid : Prop := Claim7.holds Tryd.pinned (.plain (OpenSpec.upto relCrossesSpec)) relCrossesUptoCard

/-- THE SECOND FORM's CARD OF 'pleacherlaw.RelUnions'. -/
def relUnionsUptoCard : Claim7 := { stood := { row := relUnionsUptoRow, standIns := [], harness := (true, "1fa9db2aa0ea41781f8fd865d88d930bc0d1fbead6c205e4b858447cd379ee68"), looks := false }, kinds := [], alts := [], laidByText := true, laidKinds := [.data, .pinned], laidTests := true, laidLooks := .later }
def RelUnionsUptoCardSaid : Prop := Claim7.holds Tryd.pinned (.plain (OpenSpec.upto relUnionsSpec)) relUnionsUptoCard
end Rows
end Go.Proofs.YtcfjgoconmgpcaaDoor
