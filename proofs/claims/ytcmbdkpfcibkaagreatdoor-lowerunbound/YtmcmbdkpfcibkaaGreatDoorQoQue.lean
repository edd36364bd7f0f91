import Derived.Test.YtmcmbdkpfcibkaaGreatDoorCkSt
import Derived.Laws.Concat
set_option linter.unusedVariables false
namespace Go.Proofs.YtmcmbdkpfcibkaaGreatDoor
set_option maxRecDepth 100000
open Go.RowKit
end Go.Proofs.YtmcmbdkpfcibkaaGreatDoor
