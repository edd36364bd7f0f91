/-
  CONTRACTS: what is said of an item (rel.CheckItem, and the document's answer ItemFault).
-/
import Derived.Test.YtfgiocpgeainjaaDoorRlItem
set_option linter.unusedVariables false
namespace Go.Proofs.YtfgiocpgeainjaaDoor
open Go.RowKit

/-- what is said of an item -/
def itemF (x : It) : Int := if mayI x = true then 0 else 12
end Go.Proofs.YtfgiocpgeainjaaDoor
