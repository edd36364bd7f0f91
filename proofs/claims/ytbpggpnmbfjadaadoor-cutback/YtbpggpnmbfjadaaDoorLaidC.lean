/-
  THE TABLES OF CutBad's ROW: a world in which all that is listed lies, for the witness.
-/
import Derived.Test.YtbpggpnmbfjadaaDoorTkOpen
import Derived.Test.YtbpggpnmbfjadaaDoorLaidS
namespace Go.Proofs.YtbpggpnmbfjadaaDoor
open Go.ChangeShapes Go.WideShapes Go.ChangeAt Go.RowKit

def litV : DataW Unit → Value
  | .lit (.int k n) => .int k n
  | _ => .int .i64 0
def aggV : DataW Unit → Array Value
  | .agg l => (l.map litV).toArray
  | _ => #[]
noncomputable def laidWorldC (os : Os) : World :=
  let w0 := World.holding Tryd.prog os ⟨#[], #[], []⟩
  let put (h : Array Obj) (g : Nat) (cs : Array Value) : Array Obj := h.modify g fun
    | .cells _ t frozen => .cells cs t frozen
    | o => o
  let h1 := put w0.heap (Tryd.laysValid_ren.g 3) (Lib.firstTab.map fun z => Value.int .u8 z).toArray
  let h2 := put h1 (Tryd.laysValid_ren.g 4) ((List.range 16).flatMap fun i => [Value.int .u8 (Lib.accLo i), Value.int .u8 (Lib.accHi i)]).toArray
  let h3 := put h2 0 mkCells
  let h4 := put h3 5 (aggV Rows.laid_math_bits_deBruijn32tab)
  let h5 := put h4 6 (aggV Rows.laid_math_bits_deBruijn64tab)
  let h6 := put h5 4 (aggV Rows.laid_internal_strconv_uint64pow10)
  { w0 with heap := h6 }
end Go.Proofs.YtbpggpnmbfjadaaDoor
