/-
  CONTRACT of rel.Union.
-/
import Derived.Test.YtjgihlmefaakkaaDoorRlRoom
import Derived.Test.YtjgihlmefaakkaaDoorRlUnited
import Derived.Deep.RegionLaw
set_option linter.unusedVariables false
namespace Go.Proofs.YtjgihlmefaakkaaDoor
set_option maxRecDepth 100000
open Go.RowKit Go.WideShapes

theorem take_same (C C' : Nat → ByteArray) (n : Nat) : decide (((List.range n).map C).take n = ((List.range n).map C').take n) = colsB C C' n n := by
  rw [List.take_of_length_le (by simp), List.take_of_length_le (by simp), Bool.eq_iff_iff]
  unfold colsB
  rw [decide_eq_true rfl, Bool.true_and, List.all_eq_true, decide_eq_true_eq]
  constructor
  · intro h i hi
    have hi' := List.mem_range.1 hi
    rw [Lib.bytes_beq_iff]
    have h2 : ((List.range n).map C)[i]? = ((List.range n).map C')[i]? := by rw [h]
    simpa [hi'] using h2
  · intro h
    apply List.map_congr_left
    intro i hi
    exact (Lib.bytes_beq_iff _ _).1 (h i hi)
/-- how many rows there are, ahead of the k-th list -/
def cntU (m m' k : Nat) : Nat := if k = 0 then 0 else if k = 1 then m else m + m'
end Go.Proofs.YtjgihlmefaakkaaDoor
