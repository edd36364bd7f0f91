/-
  THE PARSER's call.
-/
import Derived.Test.YtcbpjgnbdpfiiaaGreatDoorPtCons
set_option linter.unusedVariables false
namespace Go.Proofs.YtcbpjgnbdpfiiaaGreatDoor
set_option maxRecDepth 100000
open Go.RowKit

end Go.Proofs.YtcbpjgnbdpfiiaaGreatDoor
