/-
  CONTRACT of the document's answer ProjectedOf.
-/
import Derived.Test.YtpheiklbngmmnaaDoorRlPicks
import Derived.Test.YtpheiklbngmmnaaDoorRlPick
import Derived.Test.YtpheiklbngmmnaaDoorRlFound
set_option linter.unusedVariables false
namespace Go.Proofs.YtpheiklbngmmnaaDoor
set_option maxRecDepth 100000
open Go.RowKit Go.WideShapes

/-- the rows that are made -/
def prR (C : Nat → ByteArray) (n : Nat) (O : Nat → ByteArray) (k : Nat) (R : Nat → Row) (i : Nat) : Row := ⟨k, fun t => (R i).at_ (prP C n O t)⟩
/-- what is told -/
def prF (C : Nat → ByteArray) (n : Nat) (R : Nat → Row) (m : Nat) (D : Nat → ByteArray) (kd : Nat) (O : Nat → ByteArray) (ko : Nat) : Int :=
  if relF C n R m = 0 then (if kd = ko ∧ foundB C n O ko = true then madeF D kd m else 9) else relF C n R m
end Go.Proofs.YtpheiklbngmmnaaDoor
