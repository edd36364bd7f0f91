/-
  CONTRACTS of the document's answers on columns and relations (colsFault, RelFault).
-/
import Derived.Test.YtfgiocpgeainjaaDoorRlRel
set_option linter.unusedVariables false
namespace Go.Proofs.YtfgiocpgeainjaaDoor
open Go.RowKit

theorem below_drawn {B : Nat} {a w : World} (h : Below B a w) : ∀ q, Below B a (w.drewN q)
  | 0 => h
  | q + 1 => (below_drawn h q).drew

theorem madeF_cols {C : Nat → ByteArray} {n m : Nat} (h : colsF C n ≠ 0) : madeF C n m = colsF C n := by unfold madeF; rw [if_neg h]
theorem madeF_rows {C : Nat → ByteArray} {n m : Nat} (h : colsF C n = 0) : madeF C n m = if 1000000 < m then 1 else 0 := by unfold madeF; rw [if_pos h]

end Go.Proofs.YtfgiocpgeainjaaDoor
