/-
  CONTRACTS: the document's small functions about expressions of the core.
-/
import Derived.Test.YtkhlfdnlpimojaaDoorCkSt
import Derived.Test.YtkhlfdnlpimojaaDoorNames
set_option linter.unusedVariables false
namespace Go.Proofs.YtkhlfdnlpimojaaDoor
set_option maxRecDepth 100000
open Go.RowKit Go.WideShapes

theorem same_comm (x y : ByteArray) : (x.toList == y.toList) = (y.toList == x.toList) := Bool.eq_iff_iff.2 (same_iff.trans (eq_comm.trans same_iff.symm))
/-- a scope: a list of texts -/
def ScIs (w : World) (v : Value) (L : List ByteArray) : Prop :=
  ∃ a cap, v = .slice a L.length cap ∧ L.length ≤ cap ∧ cap ≤ maxLen ∧ (0 < L.length → ∃ b off, a = some ⟨b, off, none⟩ ∧ b < w.heap.size ∧ ∀ i (h : i < L.length), w.cell? ⟨b, off + i, none⟩ = some (.string L[i]))
theorem ScIs.nil (w : World) : ScIs w (.slice none 0 0) [] := ⟨none, 0, rfl, Nat.le_refl _, Nat.zero_le _, fun h => absurd h (Nat.lt_irrefl 0)⟩
theorem ScIs.below {w w' : World} {v : Value} {L : List ByteArray} (h : ScIs w v L) (hb : Below w.heap.size w w') : ScIs w' v L := by
  obtain ⟨a, cap, h1, h2, h3, h4⟩ := h
  refine ⟨a, cap, h1, h2, h3, fun h0 => ?_⟩
  obtain ⟨b, off, k1, k2, k3⟩ := h4 h0
  exact ⟨b, off, k1, Nat.lt_of_lt_of_le k2 hb.size, fun i hi => (hb.cell (p := ⟨b, off + i, none⟩) k2).trans (k3 i hi)⟩
theorem hasB_take {L : List ByteArray} {k : Nat} (h : k < L.length) (s : ByteArray) : hasB (L.take (k + 1)) s = (hasB (L.take k) s || (s.toList == L[k].toList)) := by
  unfold hasB
  rw [List.take_succ_eq_append_getElem h, List.any_append]
  simp
end Go.Proofs.YtkhlfdnlpimojaaDoor
