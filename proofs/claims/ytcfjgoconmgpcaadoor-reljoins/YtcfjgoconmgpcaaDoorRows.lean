/-
  NARROWER THAN 'FOR EVERY INPUT', by the rows' own cells (each row's printed sentence says how): RelProjects: laid · RelSelects: laid · RelJoins: laid · RelCrosses: laid · RelUnions: laid.
  DERIVED. THE GIVEN ROWS OF THIS SEAT. 5 by the template 'for every input the law returns true; each argument reads behind the call as it read before'; 0 by the template 'total and deterministic' (their statements: YtcfjgoconmgpcaaDoorTotals.lean).
  GIVEN WITH THE SEED: the statements are not yours to turn. If you find one false, say at which input.
  Laid BY PROGRAM, IN A SANDBOX (cutbox-rows.mjs): the forced cells as the released guide's own fill.sh prints them over the translation fb94f2a82ead414b… (all of the seat's roots in one cut). By AI agents, Wed Nov 11 2026. No macro, syntax, notation, axiom, sorry.
-/
import Derived.Test.YtcfjgoconmgpcaaDoorChecked
import GoSem.PinnedTables
import GoSem.Claim
import GoSem.ClaimJoined
import GoSem.ClaimMapViews
import Derived.JoinedTies
import Derived.KernelRfl
namespace Go.Proofs.YtcfjgoconmgpcaaDoor
/- THE CELL 'sum', in the pinned program and in every row, IS THE sha256 OF THE DUMP (.gsa) THAT YtcfjgoconmgpcaaDoorProg.lean LOADS. Nothing in Lean hashes anything: it is a label: what it is worth is what the hold of that sum in a sandbox is worth. -/
noncomputable def Tryd.pinned : Pinned := { name := "ytcfjgoconmgpcaadoor", sum := "fb94f2a82ead414b415db0bc79794e40c38059a7e37144312506da1402551c61", checked := Tryd.checked }
namespace Rows
def none {H : Type} : Left H := { results := [], args := [] }

/- WHAT THE LISTED PACKAGE-LEVEL VARIABLES READ AS WHEN THE CALL BEGINS. Each datum BY PROGRAM (the guide's laid-datum.mjs) off the statement by which the dump's own 'gosem.cut.vars' lays the variable. In a bare row this is a premise. The card (YtcfjgoconmgpcaaDoorCards.lean) ties it to the program's text. -/
def laid_unicode_utf8_acceptRanges {H : Type} : DataW H := .agg [.agg [.lit (.int .u8 128), .lit (.int .u8 191)], .agg [.lit (.int .u8 160), .lit (.int .u8 191)], .agg [.lit (.int .u8 128), .lit (.int .u8 159)], .agg [.lit (.int .u8 144), .lit (.int .u8 191)], .agg [.lit (.int .u8 128), .lit (.int .u8 143)], .agg [.lit (.int .u8 0), .lit (.int .u8 0)], .agg [.lit (.int .u8 0), .lit (.int .u8 0)], .agg [.lit (.int .u8 0), .lit (.int .u8 0)], .agg [.lit (.int .u8 0), .lit (.int .u8 0)], .agg [.lit (.int .u8 0), .lit (.int .u8 0)], .agg [.lit (.int .u8 0), .lit (.int .u8 0)], .agg [.lit (.int .u8 0), .lit (.int .u8 0)], .agg [.lit (.int .u8 0), .lit (.int .u8 0)], .agg [.lit (.int .u8 0), .lit (.int .u8 0)], .agg [.lit (.int .u8 0), .lit (.int .u8 0)], .agg [.lit (.int .u8 0), .lit (.int .u8 0)]]
/-- One of Go's own tables, pinned by name: the form's constant. -/
def laid_unicode_utf8_first : DataW Unit := Go.Pinned.utf8First

/-- 'pleacherlaw.RelProjects': WHATEVER THE INPUT: true; the input reads as it did. -/
def relProjectsSpec : ChangeSpec := { name := "relProjects", fn := fun _ => fun
  | [d1, d2, d3] => { results := [.lit (.bool true)], args := [d1, d2, d3] }
  | _ => none }
def relProjectsRow : OpenClaim := { program := "ytcfjgoconmgpcaadoor", sum := "fb94f2a82ead414b415db0bc79794e40c38059a7e37144312506da1402551c61", func := "pleacher/pleacherlaw.RelProjects", spec := "relProjects", named := ["unicode/utf8.first", "unicode/utf8.acceptRanges"], plainKeys := false, apart := false, laid := [("unicode/utf8.acceptRanges", laid_unicode_utf8_acceptRanges), ("unicode/utf8.first", laid_unicode_utf8_first)] }
def RelProjectsSaid : Prop := relProjectsRow.holds Tryd.pinned (OpenSpec.ofChange relProjectsSpec)

/-- ITS FALSE NEIGHBOUR: 'it returns false'. Refute it at one input. -/
def relProjectsWrong : ChangeSpec := { name := "relProjects", fn := fun _ => fun
  | [d1, d2, d3] => { results := [.lit (.bool false)], args := [d1, d2, d3] }
  | _ => none }
def RelProjectsWrongFalsely : Prop := relProjectsRow.holds Tryd.pinned (OpenSpec.ofChange relProjectsWrong)

/-- 'pleacherlaw.RelSelects': WHATEVER THE INPUT: true; the input reads as it did. -/
def relSelectsSpec : ChangeSpec := { name := "relSelects", fn := fun _ => fun
  | [d1, d2] => { results := [.lit (.bool true)], args := [d1, d2] }
  | _ => none }
def relSelectsRow : OpenClaim := { program := "ytcfjgoconmgpcaadoor", sum := "fb94f2a82ead414b415db0bc79794e40c38059a7e37144312506da1402551c61", func := "pleacher/pleacherlaw.RelSelects", spec := "relSelects", unfollowed := true, recurses := true, named := ["unicode/utf8.first", "unicode/utf8.acceptRanges"], plainKeys := false, apart := false, laid := [("unicode/utf8.acceptRanges", laid_unicode_utf8_acceptRanges), ("unicode/utf8.first", laid_unicode_utf8_first)] }
def RelSelectsSaid : Prop := relSelectsRow.holds Tryd.pinned (OpenSpec.ofChange relSelectsSpec)

/-- ITS FALSE NEIGHBOUR: 'it returns false'. Refute it at one input. -/
def relSelectsWrong : ChangeSpec := { name := "relSelects", fn := fun _ => fun
  | [d1, d2] => { results := [.lit (.bool false)], args := [d1, d2] }
  | _ => none }
def RelSelectsWrongFalsely : Prop := relSelectsRow.holds Tryd.pinned (OpenSpec.ofChange relSelectsWrong)

/-- 'pleacherlaw.RelJoins': WHATEVER THE INPUT: true; the input reads as it did. -/
def relJoinsSpec : ChangeSpec := { name := "relJoins", fn := fun _ => fun
  | [d1, d2, d3, d4] => { results := [.lit (.bool true)], args := [d1, d2, d3, d4] }
  | _ => none }
def relJoinsRow : OpenClaim := { program := "ytcfjgoconmgpcaadoor", sum := "fb94f2a82ead414b415db0bc79794e40c38059a7e37144312506da1402551c61", func := "pleacher/pleacherlaw.RelJoins", spec := "relJoins", unfollowed := true, recurses := true, named := ["unicode/utf8.first", "unicode/utf8.acceptRanges"], plainKeys := false, apart := false, laid := [("unicode/utf8.acceptRanges", laid_unicode_utf8_acceptRanges), ("unicode/utf8.first", laid_unicode_utf8_first)] }
def RelJoinsSaid : Prop := relJoinsRow.holds Tryd.pinned (OpenSpec.ofChange relJoinsSpec)

/-- ITS FALSE NEIGHBOUR: 'it returns false'. Refute it at one input. -/
def relJoinsWrong : ChangeSpec := { name := "relJoins", fn := fun _ => fun
  | [d1, d2, d3, d4] => { results := [.lit (.bool false)], args := [d1, d2, d3, d4] }
  | _ => none }
def RelJoinsWrongFalsely : Prop := relJoinsRow.holds Tryd.pinned (OpenSpec.ofChange relJoinsWrong)

/-- 'pleacherlaw.RelCrosses': WHATEVER THE INPUT: true; the input reads as it did. -/
def relCrossesSpec : ChangeSpec := { name := "relCrosses", fn := fun _ => fun
  | [d1, d2] => { results := [.lit (.bool true)], args := [d1, d2] }
  | _ => none }
def relCrossesRow : OpenClaim := { program := "ytcfjgoconmgpcaadoor", sum := "fb94f2a82ead414b415db0bc79794e40c38059a7e37144312506da1402551c61", func := "pleacher/pleacherlaw.RelCrosses", spec := "relCrosses", unfollowed := true, recurses := true, named := ["unicode/utf8.first", "unicode/utf8.acceptRanges"], plainKeys := false, apart := false, laid := [("unicode/utf8.acceptRanges", laid_unicode_utf8_acceptRanges), ("unicode/utf8.first", laid_unicode_utf8_first)] }
def RelCrossesSaid : Prop := relCrossesRow.holds Tryd.pinned (OpenSpec.ofChange relCrossesSpec)

/-- ITS FALSE NEIGHBOUR: 'it returns false'. Refute it at one input. -/
def relCrossesWrong : ChangeSpec := { name := "relCrosses", fn := fun _ => fun
  | [d1, d2] => { results := [.lit (.bool false)], args := [d1, d2] }
  | _ => none }
def RelCrossesWrongFalsely : Prop := relCrossesRow.holds Tryd.pinned (OpenSpec.ofChange relCrossesWrong)

/-- 'pleacherlaw.RelUnions': WHATEVER THE INPUT: true; the input reads as it did. -/
def relUnionsSpec : ChangeSpec := { name := "relUnions", fn := fun _ => fun
  | [d1, d2] => { results := [.lit (.bool true)], args := [d1, d2] }
  | _ => none }
def relUnionsRow : OpenClaim := { program := "ytcfjgoconmgpcaadoor", sum := "fb94f2a82ead414b415db0bc79794e40c38059a7e37144312506da1402551c61", func := "pleacher/pleacherlaw.RelUnions", spec := "relUnions", named := ["unicode/utf8.first", "unicode/utf8.acceptRanges"], plainKeys := false, apart := false, laid := [("unicode/utf8.acceptRanges", laid_unicode_utf8_acceptRanges), ("unicode/utf8.first", laid_unicode_utf8_first)] }
def RelUnionsSaid : Prop := relUnionsRow.holds Tryd.pinned (OpenSpec.ofChange relUnionsSpec)

/-- ITS FALSE NEIGHBOUR: 'it returns false'. Refute it at one input. -/
def relUnionsWrong : ChangeSpec := { name := "relUnions", fn := fun _ => fun
  | [d1, d2] => { results := [.lit (.bool false)], args := [d1, d2] }
  | _ => none }
def RelUnionsWrongFalsely : Prop := relUnionsRow.holds Tryd.pinned (OpenSpec.ofChange relUnionsWrong)

/- THE SECOND FORM. 'bulk': how many values and letters a reading holds, each counted each time it is reached (what is shared counts as often as it is met; a slice's spare places count too). A statement '..UptoSaid' is the law's where the arguments, and the package variables that the reading takes, are together of bulk at most 1048576: NARROWER than '..Said'. Prove '..Said' where nothing that the law and all that it calls make is longer than what came in: it says more and counts as full. Else prove '..UptoSaid'. A law counts once. -/
mutual
def uptoBulk {H : Type} : DataW H → Nat
  | .lit (.string bytes) => bytes.length + 1
  | .lit _ => 1
  | .nil => 1
  | .ptr d => uptoBulk d + 1
  | .slice elems spare => uptoBulkAll elems + uptoBulkAll spare + 1
  | .agg parts => uptoBulkAll parts + 1
  | .iface _ d => uptoBulk d + 1
  | .map entries => uptoBulkEntries entries + 1
  | .held _ => 1
def uptoBulkAll {H : Type} : List (DataW H) → Nat
  | [] => 0
  | d :: r => uptoBulk d + uptoBulkAll r
def uptoBulkEntries {H : Type} : List (Lit × DataW H) → Nat
  | [] => 0
  | x :: r => uptoBulkEntry x + uptoBulkEntries r
def uptoBulkEntry {H : Type} : Lit × DataW H → Nat
  | (.string bytes, d) => bytes.length + uptoBulk d + 1
  | (_, d) => uptoBulk d + 1
 end
def uptoSmall : (H : Type) → List (DataW H) → Bool := fun _ ds => decide (uptoBulkAll ds ≤ 1048576)
def OpenSpec.upto (s : _root_.Go.ChangeSpec) : _root_.Go.OpenSpec := { _root_.Go.OpenSpec.ofChange s with cond := some uptoSmall }

/-- 'pleacherlaw.RelProjects', WHERE WHAT IT READS IS OF BULK AT MOST 1048576: true; the input reads as it did. -/
def relProjectsUptoRow : OpenClaim := { program := "ytcfjgoconmgpcaadoor", sum := "fb94f2a82ead414b415db0bc79794e40c38059a7e37144312506da1402551c61", func := "pleacher/pleacherlaw.RelProjects", spec := "relProjects", named := ["unicode/utf8.first", "unicode/utf8.acceptRanges"], plainKeys := false, apart := false, laid := [("unicode/utf8.acceptRanges", laid_unicode_utf8_acceptRanges), ("unicode/utf8.first", laid_unicode_utf8_first)], narrowed := true }
def RelProjectsUptoSaid : Prop := relProjectsUptoRow.holds Tryd.pinned (OpenSpec.upto relProjectsSpec)

/-- 'pleacherlaw.RelSelects', WHERE WHAT IT READS IS OF BULK AT MOST 1048576: true; the input reads as it did. -/
def relSelectsUptoRow : OpenClaim := { program := "ytcfjgoconmgpcaadoor", sum := "fb94f2a82ead414b415db0bc79794e40c38059a7e37144312506da1402551c61", func := "pleacher/pleacherlaw.RelSelects", spec := "relSelects", unfollowed := true, recurses := true, named := ["unicode/utf8.first", "unicode/utf8.acceptRanges"], plainKeys := false, apart := false, laid := [("unicode/utf8.acceptRanges", laid_unicode_utf8_acceptRanges), ("unicode/utf8.first", laid_unicode_utf8_first)], narrowed := true }
def RelSelectsUptoSaid : Prop := relSelectsUptoRow.holds Tryd.pinned (OpenSpec.upto relSelectsSpec)

/-- 'pleacherlaw.RelJoins', WHERE WHAT IT READS IS OF BULK AT MOST 1048576: true; the input reads as it did. -/
def relJoinsUptoRow : OpenClaim := { program := "ytcfjgoconmgpcaadoor", sum := "fb94f2a82ead414b415db0bc79794e40c38059a7e37144312506da1402551c61", func := "pleacher/pleacherlaw.RelJoins", spec := "relJoins", unfollowed := true, recurses := true, named := ["unicode/utf8.first", "unicode/utf8.acceptRanges"], plainKeys := false, apart := false, laid := [("unicode/utf8.acceptRanges", laid_unicode_utf8_acceptRanges), ("unicode/utf8.first", laid_unicode_utf8_first)], narrowed := true }
def RelJoinsUptoSaid : Prop := relJoinsUptoRow.holds Tryd.pinned (OpenSpec.upto relJoinsSpec)

/-- 'pleacherlaw.RelCrosses', WHERE WHAT IT READS IS OF BULK AT MOST 1048576: true; the input reads as it did. -/
def relCrossesUptoRow : OpenClaim := { program := "ytcfjgoconmgpcaadoor", sum := "fb94f2a82ead414b415db0bc79794e40c38059a7e37144312506da1402551c61", func := "pleacher/pleacherlaw.RelCrosses", spec := "relCrosses", unfollowed := true, recurses := true, named := ["unicode/utf8.first", "unicode/utf8.acceptRanges"], plainKeys := false, apart := false, laid := [("unicode/utf8.acceptRanges", laid_unicode_utf8_acceptRanges), ("unicode/utf8.first", laid_unicode_utf8_first)], narrowed := true }
def RelCrossesUptoSaid : Prop := relCrossesUptoRow.holds Tryd.pinned (OpenSpec.upto relCrossesSpec)

/-- 'pleacherlaw.RelUnions', WHERE WHAT IT READS IS OF BULK AT MOST 1048576: true; the input reads as it did. -/
def relUnionsUptoRow : OpenClaim := { program := "ytcfjgoconmgpcaadoor", sum := "fb94f2a82ead414b415db0bc79794e40c38059a7e37144312506da1402551c61", func := "pleacher/pleacherlaw.RelUnions", spec := "relUnions", named := ["unicode/utf8.first", "unicode/utf8.acceptRanges"], plainKeys := false, apart := false, laid := [("unicode/utf8.acceptRanges", laid_unicode_utf8_acceptRanges), ("unicode/utf8.first", laid_unicode_utf8_first)], narrowed := true }
def RelUnionsUptoSaid : Prop := relUnionsUptoRow.holds Tryd.pinned (OpenSpec.upto relUnionsSpec)

end Rows
end Go.Proofs.YtcfjgoconmgpcaaDoor
