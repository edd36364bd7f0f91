/-
  NARROWER THAN 'FOR EVERY INPUT', by the rows' own cells (each row's printed sentence says how): XmlTexts: laid · XmlChecks: laid · XmlEscapes: laid · XmlShows: laid · XmlParses: laid.
  DERIVED. THE GIVEN ROWS OF THIS SEAT. 5 by the template 'for every input the law returns true; each argument reads behind the call as it read before'; 0 by the template 'total and deterministic' (their statements: YtjhmkffihindlaaDoorTotals.lean).
  GIVEN WITH THE SEED: the statements are not yours to turn. If you find one false, say at which input.
  Laid BY PROGRAM, IN A SANDBOX (cutbox-rows.mjs): the forced cells as the released guide's own fill.sh prints them over the translation f0e6f5c1671fc005… (all of the seat's roots in one cut). By AI agents, Wed Nov 11 2026. No macro, syntax, notation, axiom, sorry.
-/
import Derived.Test.YtjhmkffihindlaaDoorChecked
import GoSem.PinnedTables
import GoSem.Claim
import GoSem.ClaimJoined
import GoSem.ClaimMapViews
import Derived.JoinedTies
import Derived.KernelRfl
namespace Go.Proofs.YtjhmkffihindlaaDoor
/- THE CELL 'sum', in the pinned program and in every row, IS THE sha256 OF THE DUMP (.gsa) THAT YtjhmkffihindlaaDoorProg.lean LOADS. Nothing in Lean hashes anything: it is a label: what it is worth is what the hold of that sum in a sandbox is worth. -/
noncomputable def Tryd.pinned : Pinned := { name := "ytjhmkffihindlaadoor", sum := "f0e6f5c1671fc005f4ff3500f644b87b222479d36c46ab831ca674d9bc9eacfe", checked := Tryd.checked }
namespace Rows
def none {H : Type} : Left H := { results := [], args := [] }

/- WHAT THE LISTED PACKAGE-LEVEL VARIABLES READ AS WHEN THE CALL BEGINS. Each datum BY PROGRAM (the guide's laid-datum.mjs) off the statement by which the dump's own 'gosem.cut.vars' lays the variable. In a bare row this is a premise. The card (YtjhmkffihindlaaDoorCards.lean) ties it to the program's text. -/
def laid_unicode_utf8_acceptRanges {H : Type} : DataW H := .agg [.agg [.lit (.int .u8 128), .lit (.int .u8 191)], .agg [.lit (.int .u8 160), .lit (.int .u8 191)], .agg [.lit (.int .u8 128), .lit (.int .u8 159)], .agg [.lit (.int .u8 144), .lit (.int .u8 191)], .agg [.lit (.int .u8 128), .lit (.int .u8 143)], .agg [.lit (.int .u8 0), .lit (.int .u8 0)], .agg [.lit (.int .u8 0), .lit (.int .u8 0)], .agg [.lit (.int .u8 0), .lit (.int .u8 0)], .agg [.lit (.int .u8 0), .lit (.int .u8 0)], .agg [.lit (.int .u8 0), .lit (.int .u8 0)], .agg [.lit (.int .u8 0), .lit (.int .u8 0)], .agg [.lit (.int .u8 0), .lit (.int .u8 0)], .agg [.lit (.int .u8 0), .lit (.int .u8 0)], .agg [.lit (.int .u8 0), .lit (.int .u8 0)], .agg [.lit (.int .u8 0), .lit (.int .u8 0)], .agg [.lit (.int .u8 0), .lit (.int .u8 0)]]
/-- One of Go's own tables, pinned by name: the form's constant. -/
def laid_unicode_utf8_first : DataW Unit := Go.Pinned.utf8First
def laid_pleacher_xml_escapes {H : Type} : DataW H := .agg [.agg [.lit (.int .u8 38), .lit (.string [38, 97, 109, 112, 59])], .agg [.lit (.int .u8 60), .lit (.string [38, 108, 116, 59])], .agg [.lit (.int .u8 62), .lit (.string [38, 103, 116, 59])], .agg [.lit (.int .u8 34), .lit (.string [38, 113, 117, 111, 116, 59])]]

/-- 'pleacherlaw.XmlTexts': WHATEVER THE INPUT: true; the input reads as it did. -/
def xmlTextsSpec : ChangeSpec := { name := "xmlTexts", fn := fun _ => fun
  | [d] => { results := [.lit (.bool true)], args := [d] }
  | _ => none }
def xmlTextsRow : OpenClaim := { program := "ytjhmkffihindlaadoor", sum := "f0e6f5c1671fc005f4ff3500f644b87b222479d36c46ab831ca674d9bc9eacfe", func := "pleacher/pleacherlaw.XmlTexts", spec := "xmlTexts", named := ["unicode/utf8.first", "unicode/utf8.acceptRanges"], apart := false, laid := [("unicode/utf8.acceptRanges", laid_unicode_utf8_acceptRanges), ("unicode/utf8.first", laid_unicode_utf8_first)] }
def XmlTextsSaid : Prop := xmlTextsRow.holds Tryd.pinned (OpenSpec.ofChange xmlTextsSpec)

/-- ITS FALSE NEIGHBOUR: 'it returns false'. Refute it at one input. -/
def xmlTextsWrong : ChangeSpec := { name := "xmlTexts", fn := fun _ => fun
  | [d] => { results := [.lit (.bool false)], args := [d] }
  | _ => none }
def XmlTextsWrongFalsely : Prop := xmlTextsRow.holds Tryd.pinned (OpenSpec.ofChange xmlTextsWrong)

/-- 'pleacherlaw.XmlChecks': WHATEVER THE INPUT: true; the input reads as it did. -/
def xmlChecksSpec : ChangeSpec := { name := "xmlChecks", fn := fun _ => fun
  | [d] => { results := [.lit (.bool true)], args := [d] }
  | _ => none }
def xmlChecksRow : OpenClaim := { program := "ytjhmkffihindlaadoor", sum := "f0e6f5c1671fc005f4ff3500f644b87b222479d36c46ab831ca674d9bc9eacfe", func := "pleacher/pleacherlaw.XmlChecks", spec := "xmlChecks", inPlace := ["internal/bytealg.IndexByteString", "internal/bytealg.IndexString"], named := ["unicode/utf8.first", "unicode/utf8.acceptRanges", "internal/bytealg.MaxLen"], apart := false, laid := [("unicode/utf8.acceptRanges", laid_unicode_utf8_acceptRanges), ("unicode/utf8.first", laid_unicode_utf8_first)] }
def XmlChecksSaid : Prop := xmlChecksRow.holds Tryd.pinned (OpenSpec.ofChange xmlChecksSpec)

/-- ITS FALSE NEIGHBOUR: 'it returns false'. Refute it at one input. -/
def xmlChecksWrong : ChangeSpec := { name := "xmlChecks", fn := fun _ => fun
  | [d] => { results := [.lit (.bool false)], args := [d] }
  | _ => none }
def XmlChecksWrongFalsely : Prop := xmlChecksRow.holds Tryd.pinned (OpenSpec.ofChange xmlChecksWrong)

/-- 'pleacherlaw.XmlEscapes': WHATEVER THE INPUT: true; the input reads as it did. -/
def xmlEscapesSpec : ChangeSpec := { name := "xmlEscapes", fn := fun _ => fun
  | [d] => { results := [.lit (.bool true)], args := [d] }
  | _ => none }
def xmlEscapesRow : OpenClaim := { program := "ytjhmkffihindlaadoor", sum := "f0e6f5c1671fc005f4ff3500f644b87b222479d36c46ab831ca674d9bc9eacfe", func := "pleacher/pleacherlaw.XmlEscapes", spec := "xmlEscapes", inPlace := ["internal/abi.NoEscape"], named := ["pleacher/xml.escapes"], apart := false, laid := [("pleacher/xml.escapes", laid_pleacher_xml_escapes)] }
def XmlEscapesSaid : Prop := xmlEscapesRow.holds Tryd.pinned (OpenSpec.ofChange xmlEscapesSpec)

/-- ITS FALSE NEIGHBOUR: 'it returns false'. Refute it at one input. -/
def xmlEscapesWrong : ChangeSpec := { name := "xmlEscapes", fn := fun _ => fun
  | [d] => { results := [.lit (.bool false)], args := [d] }
  | _ => none }
def XmlEscapesWrongFalsely : Prop := xmlEscapesRow.holds Tryd.pinned (OpenSpec.ofChange xmlEscapesWrong)

/-- 'pleacherlaw.XmlShows': WHATEVER THE INPUT: true; the input reads as it did. -/
def xmlShowsSpec : ChangeSpec := { name := "xmlShows", fn := fun _ => fun
  | [d] => { results := [.lit (.bool true)], args := [d] }
  | _ => none }
def xmlShowsRow : OpenClaim := { program := "ytjhmkffihindlaadoor", sum := "f0e6f5c1671fc005f4ff3500f644b87b222479d36c46ab831ca674d9bc9eacfe", func := "pleacher/pleacherlaw.XmlShows", spec := "xmlShows", inPlace := ["internal/bytealg.IndexByteString", "internal/bytealg.IndexString", "internal/abi.NoEscape"], named := ["unicode/utf8.first", "unicode/utf8.acceptRanges", "internal/bytealg.MaxLen", "pleacher/xml.escapes"], apart := false, laid := [("unicode/utf8.acceptRanges", laid_unicode_utf8_acceptRanges), ("pleacher/xml.escapes", laid_pleacher_xml_escapes), ("unicode/utf8.first", laid_unicode_utf8_first)] }
def XmlShowsSaid : Prop := xmlShowsRow.holds Tryd.pinned (OpenSpec.ofChange xmlShowsSpec)

/-- ITS FALSE NEIGHBOUR: 'it returns false'. Refute it at one input. -/
def xmlShowsWrong : ChangeSpec := { name := "xmlShows", fn := fun _ => fun
  | [d] => { results := [.lit (.bool false)], args := [d] }
  | _ => none }
def XmlShowsWrongFalsely : Prop := xmlShowsRow.holds Tryd.pinned (OpenSpec.ofChange xmlShowsWrong)

/-- 'pleacherlaw.XmlParses': WHATEVER THE INPUT: true; the input reads as it did. -/
def xmlParsesSpec : ChangeSpec := { name := "xmlParses", fn := fun _ => fun
  | [d] => { results := [.lit (.bool true)], args := [d] }
  | _ => none }
def xmlParsesRow : OpenClaim := { program := "ytjhmkffihindlaadoor", sum := "f0e6f5c1671fc005f4ff3500f644b87b222479d36c46ab831ca674d9bc9eacfe", func := "pleacher/pleacherlaw.XmlParses", spec := "xmlParses", inPlace := ["internal/abi.NoEscape", "internal/bytealg.IndexByteString", "internal/bytealg.IndexString"], named := ["pleacher/xml.escapes", "internal/bytealg.MaxLen", "unicode/utf8.first", "unicode/utf8.acceptRanges"], apart := false, laid := [("unicode/utf8.acceptRanges", laid_unicode_utf8_acceptRanges), ("pleacher/xml.escapes", laid_pleacher_xml_escapes), ("unicode/utf8.first", laid_unicode_utf8_first)] }
def XmlParsesSaid : Prop := xmlParsesRow.holds Tryd.pinned (OpenSpec.ofChange xmlParsesSpec)

/-- ITS FALSE NEIGHBOUR: 'it returns false'. Refute it at one input. -/
def xmlParsesWrong : ChangeSpec := { name := "xmlParses", fn := fun _ => fun
  | [d] => { results := [.lit (.bool false)], args := [d] }
  | _ => none }
def XmlParsesWrongFalsely : Prop := xmlParsesRow.holds Tryd.pinned (OpenSpec.ofChange xmlParsesWrong)

/- THE SECOND FORM. 'bulk': how many values and letters a reading holds, each counted each time it is reached (what is shared counts as often as it is met; a slice's spare places count too). A statement '..UptoSaid' is the law's where the arguments, and the package variables that the reading takes, are together of bulk at most 1048576: NARROWER than '..Said'. Prove '..Said' where nothing that the law and all that it calls make is longer than what came in: it says more and counts as full. Else prove '..UptoSaid'. A law counts once. -/
mutual
def uptoBulk {H : Type} : DataW H → Nat
  | .lit (.string bytes) => bytes.length + 1
  | .lit _ => 1
  | .nil => 1
  | .ptr d => uptoBulk d + 1
  | .slice elems spare => uptoBulkAll elems + uptoBulkAll spare + 1
  | .agg parts => uptoBulkAll parts + 1
  | .iface _ d => uptoBulk d + 1
  | .map entries => uptoBulkEntries entries + 1
  | .held _ => 1
def uptoBulkAll {H : Type} : List (DataW H) → Nat
  | [] => 0
  | d :: r => uptoBulk d + uptoBulkAll r
def uptoBulkEntries {H : Type} : List (Lit × DataW H) → Nat
  | [] => 0
  | x :: r => uptoBulkEntry x + uptoBulkEntries r
def uptoBulkEntry {H : Type} : Lit × DataW H → Nat
  | (.string bytes, d) => bytes.length + uptoBulk d + 1
  | (_, d) => uptoBulk d + 1
 end
def uptoSmall : (H : Type) → List (DataW H) → Bool := fun _ ds => decide (uptoBulkAll ds ≤ 1048576)
def OpenSpec.upto (s : _root_.Go.ChangeSpec) : _root_.Go.OpenSpec := { _root_.Go.OpenSpec.ofChange s with cond := some uptoSmall }

/-- 'pleacherlaw.XmlTexts', WHERE WHAT IT READS IS OF BULK AT MOST 1048576: true; the input reads as it did. -/
def xmlTextsUptoRow : OpenClaim := { program := "ytjhmkffihindlaadoor", sum := "f0e6f5c1671fc005f4ff3500f644b87b222479d36c46ab831ca674d9bc9eacfe", func := "pleacher/pleacherlaw.XmlTexts", spec := "xmlTexts", named := ["unicode/utf8.first", "unicode/utf8.acceptRanges"], apart := false, laid := [("unicode/utf8.acceptRanges", laid_unicode_utf8_acceptRanges), ("unicode/utf8.first", laid_unicode_utf8_first)], narrowed := true }
def XmlTextsUptoSaid : Prop := xmlTextsUptoRow.holds Tryd.pinned (OpenSpec.upto xmlTextsSpec)

/-- 'pleacherlaw.XmlChecks', WHERE WHAT IT READS IS OF BULK AT MOST 1048576: true; the input reads as it did. -/
def xmlChecksUptoRow : OpenClaim := { program := "ytjhmkffihindlaadoor", sum := "f0e6f5c1671fc005f4ff3500f644b87b222479d36c46ab831ca674d9bc9eacfe", func := "pleacher/pleacherlaw.XmlChecks", spec := "xmlChecks", inPlace := ["internal/bytealg.IndexByteString", "internal/bytealg.IndexString"], named := ["unicode/utf8.first", "unicode/utf8.acceptRanges", "internal/bytealg.MaxLen"], apart := false, laid := [("unicode/utf8.acceptRanges", laid_unicode_utf8_acceptRanges), ("unicode/utf8.first", laid_unicode_utf8_first)], narrowed := true }
def XmlChecksUptoSaid : Prop := xmlChecksUptoRow.holds Tryd.pinned (OpenSpec.upto xmlChecksSpec)

/-- 'pleacherlaw.XmlEscapes', WHERE WHAT IT READS IS OF BULK AT MOST 1048576: true; the input reads as it did. -/
def xmlEscapesUptoRow : OpenClaim := { program := "ytjhmkffihindlaadoor", sum := "f0e6f5c1671fc005f4ff3500f644b87b222479d36c46ab831ca674d9bc9eacfe", func := "pleacher/pleacherlaw.XmlEscapes", spec := "xmlEscapes", inPlace := ["internal/abi.NoEscape"], named := ["pleacher/xml.escapes"], apart := false, laid := [("pleacher/xml.escapes", laid_pleacher_xml_escapes)], narrowed := true }
def XmlEscapesUptoSaid : Prop := xmlEscapesUptoRow.holds Tryd.pinned (OpenSpec.upto xmlEscapesSpec)

/-- 'pleacherlaw.XmlShows', WHERE WHAT IT READS IS OF BULK AT MOST 1048576: true; the input reads as it did. -/
def xmlShowsUptoRow : OpenClaim := { program := "ytjhmkffihindlaadoor", sum := "f0e6f5c1671fc005f4ff3500f644b87b222479d36c46ab831ca674d9bc9eacfe", func := "pleacher/pleacherlaw.XmlShows", spec := "xmlShows", inPlace := ["internal/bytealg.IndexByteString", "internal/bytealg.IndexString", "internal/abi.NoEscape"], named := ["unicode/utf8.first", "unicode/utf8.acceptRanges", "internal/bytealg.MaxLen", "pleacher/xml.escapes"], apart := false, laid := [("unicode/utf8.acceptRanges", laid_unicode_utf8_acceptRanges), ("pleacher/xml.escapes", laid_pleacher_xml_escapes), ("unicode/utf8.first", laid_unicode_utf8_first)], narrowed := true }
def XmlShowsUptoSaid : Prop := xmlShowsUptoRow.holds Tryd.pinned (OpenSpec.upto xmlShowsSpec)

/-- 'pleacherlaw.XmlParses', WHERE WHAT IT READS IS OF BULK AT MOST 1048576: true; the input reads as it did. -/
def xmlParsesUptoRow : OpenClaim := { program := "ytjhmkffihindlaadoor", sum := "f0e6f5c1671fc005f4ff3500f644b87b222479d36c46ab831ca674d9bc9eacfe", func := "pleacher/pleacherlaw.XmlParses", spec := "xmlParses", inPlace := ["internal/abi.NoEscape", "internal/bytealg.IndexByteString", "internal/bytealg.IndexString"], named := ["pleacher/xml.escapes", "internal/bytealg.MaxLen", "unicode/utf8.first", "unicode/utf8.acceptRanges"], apart := false, laid := [("unicode/utf8.acceptRanges", laid_unicode_utf8_acceptRanges), ("pleacher/xml.escapes", laid_pleacher_xml_escapes), ("unicode/utf8.first", laid_unicode_utf8_first)], narrowed := true }
def XmlParsesUptoSaid : Prop := xmlParsesUptoRow.holds Tryd.pinned (OpenSpec.upto xmlParsesSpec)

end Rows
end Go.Proofs.YtjhmkffihindlaaDoor
