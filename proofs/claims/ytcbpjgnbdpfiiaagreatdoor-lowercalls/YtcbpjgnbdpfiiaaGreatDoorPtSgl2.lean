/-
  THE PARSER's single where a clause, a quantifier or a condition begins.
-/
import Derived.Test.YtcbpjgnbdpfiiaaGreatDoorPtSgl
set_option linter.unusedVariables false
namespace Go.Proofs.YtcbpjgnbdpfiiaaGreatDoor
set_option maxRecDepth 100000
open Go.RowKit

end Go.Proofs.YtcbpjgnbdpfiiaaGreatDoor
