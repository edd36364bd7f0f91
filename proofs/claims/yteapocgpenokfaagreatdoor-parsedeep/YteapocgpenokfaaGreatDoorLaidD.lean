/-
  THE TABLES OF ParseDeep's ROW: a world in which all that is listed lies, for the witness.
-/
import Derived.Test.YteapocgpenokfaaGreatDoorPaOps
import Derived.Test.YteapocgpenokfaaGreatDoorLaidS
namespace Go.Proofs.YteapocgpenokfaaGreatDoor
open Go.ChangeShapes Go.WideShapes Go.ChangeAt Go.RowKit

def litD : DataW Unit → Value
  | .lit (.int k n) => .int k n
  | .lit (.string l) => .string ⟨l.toArray⟩
  | _ => .int .i64 0
def aggD : DataW Unit → Array Value
  | .agg l => (l.map litD).toArray
  | _ => #[]
noncomputable def laidWorldD (os : Os) : World :=
  let w0 := World.holding Tryz.prog os ⟨#[], #[], []⟩
  let put (h : Array Obj) (g : Nat) (cs : Array Value) : Array Obj := h.modify g fun
    | .cells _ t frozen => .cells cs t frozen
    | o => o
  let h1 := put w0.heap (Tryz.laysValid_ren.g 3) (Lib.firstTab.map fun z => Value.int .u8 z).toArray
  let h2 := put h1 (Tryz.laysValid_ren.g 4) ((List.range 16).flatMap fun i => [Value.int .u8 (Lib.accLo i), Value.int .u8 (Lib.accHi i)]).toArray
  let h3 := put h2 0 mkCells
  let h4 := put h3 4 opCells
  let h5 := put h4 5 (aggD Rows.laid_pleacher_read_axes)
  let h6 := put h5 6 (aggD Rows.laid_pleacher_read_kindTests)
  { w0 with heap := h6 }
end Go.Proofs.YteapocgpenokfaaGreatDoor
