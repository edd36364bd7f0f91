/-
  CONTRACTS: what may stand in a name (xml.isNameByte, xml.CheckName, and the document's answer to both): each returns what the plain function says; the world is as it was.
-/
import Derived.Test.YteapocgpenokfaaGreatDoorRows
import Derived.Test.YteapocgpenokfaaGreatDoorPlain
import Derived.WalkKit
import Derived.WalkSpells
import Derived.WalkLawsBesides
import Derived.Outline
namespace Go.Proofs.YteapocgpenokfaaGreatDoor
open Go.RowKit

end Go.Proofs.YteapocgpenokfaaGreatDoor
