import Derived.Test.YtmcmbdkpfcibkaaGreatDoorLxV
import Derived.Test.YtmcmbdkpfcibkaaGreatDoorQoAst
set_option linter.unusedVariables false
namespace Go.Proofs.YtmcmbdkpfcibkaaGreatDoor
set_option maxRecDepth 100000
open Go.RowKit
theorem MdK.to {X:List UInt8} {K K':List Tok} (h:MdK X K) (e:K=K'):MdK X K':=e ▸ h
end Go.Proofs.YtmcmbdkpfcibkaaGreatDoor
