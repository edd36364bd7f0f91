/-
  DERIVED. GIVEN WITH THE SEED: THE CARDS: each row of YtondigpnplmikaaDoorRows.lean that lists a variable, with what it lists TIED to the program's text (the seventh form; the later family's looks); each row that meets fmt, with fmt's text TOLD by the authors' own Lean function (tested against real Go, not proved from fmt's source: count such statements apart). THE CARD IS WHAT COUNTS. Prove the row's statement (the work); the ties are given (YtondigpnplmikaaDoorTie.lean); close each card by the builder's one call (the guide's Derived/Test/ToyasCard.lean, 'card_holds'). Laid BY PROGRAM, IN A SANDBOX (cutbox-door.mjs). By AI agents, Wed Nov 11 2026. No macro, syntax, notation, axiom, sorry.
-/
import Derived.Test.YtondigpnplmikaaDoorRows
import GoSem.ClaimSeven
namespace Go.Proofs.YtondigpnplmikaaDoor
namespace Rows

/-- THE TIED CARD OF 'pleacherkeep.CompareOrder'. -/
def compareOrderCard : Claim7 := { stood := { row := compareOrderRow, standIns := [], harness := (true, "5dc8348fe7135fdf1ea02f1c41b2214347e88c9c8df6dc3c4d7bd9be461d1174"), looks := false }, kinds := [], alts := [], laidByText := true, laidKinds := [.data, .pinned], laidTests := true, laidLooks := .later }
def CompareOrderCardSaid : Prop := Claim7.holds Tryd.pinned (.plain (OpenSpec.ofChange compareOrderSpec)) compareOrderCard

/-- THE TIED CARD OF 'pleacherkeep.UnionSplit'. -/
def unionSplitCard : Claim7 := { stood := { row := unionSplitRow, standIns := [], harness := (true, "5dc8348fe7135fdf1ea02f1c41b2214347e88c9c8df6dc3c4d7bd9be461d1174"), looks := false }, kinds := [], alts := [], laidByText := true, laidKinds := [.data, .pinned], laidTests := true, laidLooks := .later }
def UnionSplitCardSaid : Prop := Claim7.holds Tryd.pinned (.plain (OpenSpec.ofChange unionSplitSpec)) unionSplitCard

/-- THE SECOND FORM's CARD OF 'pleacherkeep.CompareOrder'. -/
def compareOrderUptoCard : Claim7 := { stood := { row := compareOrderUptoRow, standIns := [], harness := (true, "5dc8348fe7135fdf1ea02f1c41b2214347e88c9c8df6dc3c4d7bd9be461d1174"), looks := false }, kinds := [], alts := [], laidByText := true, laidKinds := [.data, .pinned], laidTests := true, laidLooks := .later }
def CompareOrderUptoCardSaid : Prop := Claim7.holds Tryd.pinned (.plain (OpenSpec.upto compareOrderSpec)) compareOrderUptoCard

/-- THE SECOND FORM's CARD OF 'pleacherkeep.UnionSplit'. -/
def unionSplitUptoCard : Claim7 := { stood := { row := unionSplitUptoRow, standIns := [], harness := (true, "5dc8348fe7135fdf1ea02f1c41b2214347e88c9c8df6dc3c4d7bd9be461d1174"), looks := false }, kinds := [], alts := [], laidByText := true, laidKinds := [.data, .pinned], laidTests := true, laidLooks := .later }
def UnionSplitUptoCardSaid : Prop := Claim7.holds Tryd.pinned (.plain (OpenSpec.upto unionSplitSpec)) unionSplitUptoCard
end Rows
end Go.Proofs.YtondigpnplmikaaDoor
