/-
  DERIVED. GIVEN WITH THE SEED: THE CARDS: each row of YthfpgfliniccdaaDoorRows.lean that lists a variable, with what it lists TIED to the program's text (the seventh form; the later family's looks); each row that meets fmt, with fmt's text TOLD by the authors' own Lean function (tested against real Go, not proved from fmt's source: count such statements apart). THE CARD IS WHAT COUNTS. Prove the row's statement (the work); the ties are given (YthfpgfliniccdaaDoorTie.lean); close each card by the builder's one call (the guide's Derived/Test/ToyasCard.lean, 'card_holds'). Laid BY PROGRAM, IN A SANDBOX (cutbox-door.mjs). By AI agents, Wed Nov 11 2026. No macro, syntax, notation, axiom, sorry.
-/
import Derived.Test.YthfpgfliniccdaaDoorRows
import GoSem.ClaimSeven
namespace Go.Proofs.YthfpgfliniccdaaDoor
namespace Rows

/-- THE TIED CARD OF 'pleacherkeep.UniqueOnce'. -/
def uniqueOnceCard : Claim7 := { stood := { row := uniqueOnceRow, standIns := [], harness := (true, "1c7fa45651acecf061f339c863a11e08ca711ee3ce68c0da6518437278380c76"), looks := false }, kinds := [], alts := [], laidByText := true, laidKinds := [.data, .pinned], laidTests := true, laidLooks := .later }
def UniqueOnceCardSaid : Prop := Claim7.holds Tryd.pinned (.plain (OpenSpec.ofChange uniqueOnceSpec)) uniqueOnceCard

/-- THE SECOND FORM's CARD OF 'pleacherkeep.UniqueOnce'. -/
def uniqueOnceUptoCard : Claim7 := { stood := { row := uniqueOnceUptoRow, standIns := [], harness := (true, "1c7fa45651acecf061f339c863a11e08ca711ee3ce68c0da6518437278380c76"), looks := false }, kinds := [], alts := [], laidByText := true, laidKinds := [.data, .pinned], laidTests := true, laidLooks := .later }
def UniqueOnceUptoCardSaid : Prop := Claim7.holds Tryd.pinned (.plain (OpenSpec.upto uniqueOnceSpec)) uniqueOnceUptoCard
end Rows
end Go.Proofs.YthfpgfliniccdaaDoor
