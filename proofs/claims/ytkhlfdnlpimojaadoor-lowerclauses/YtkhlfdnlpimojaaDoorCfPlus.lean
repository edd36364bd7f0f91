/-
  CONTRACTS: lists of texts put together (the document's texts, plus).
-/
import Derived.Test.YtkhlfdnlpimojaaDoorCfSmall
import Derived.Laws.OwnMore
import Derived.Laws.AppendOwnNone
import Derived.Maps.AppendAt
import Derived.OwnWalk
import Derived.ProofKit
set_option linter.unusedVariables false
namespace Go.Proofs.YtkhlfdnlpimojaaDoor
set_option maxRecDepth 100000
open Go.RowKit Go.Deep Go.ChangeShapes Go.WideShapes

def cellsT (L : List ByteArray) : List Value := L.map .string
theorem own_shape {w : World} {base : Nat} {e : TypeId} {size : Nat} {v : Value} {n : Nat} {xs : List Value} (h : w.ownsRow base e size v n xs) : ∃ a c, v = .slice a n c := by
  rcases h with ⟨_, ⟨h1, h2⟩ | ⟨g, cap, cur, h1, _⟩⟩
  · exact ⟨none, 0, by rw [h1, h2]⟩
  · exact ⟨_, _, h1⟩
theorem own_scope {w : World} {base : Nat} {v : Value} {L : List ByteArray} (h : w.ownsRow base 9 1 v L.length (cellsT L)) : ScIs w v L := by
  rcases h with ⟨_, ⟨h1, h2⟩ | ⟨g, cap, cur, h1, h2, h3, h4, h5, h6, h7⟩⟩
  · have e : L = [] := List.length_eq_zero_iff.1 h2
    subst e
    exact ⟨none, 0, h1, Nat.le_refl _, Nat.zero_le _, fun h => absurd h (Nat.lt_irrefl 0)⟩
  · refine ⟨_, cap, h1, h4, h5, fun _ => ⟨g, 0, rfl, (Array.getElem?_eq_some_iff.1 h3).1, fun i hi => ?_⟩⟩
    rw [Nat.zero_add, Lib.cell_of_heap h3]
    have h8 : (cur.toList.take (L.length * 1))[i]? = some (.string L[i]) := by rw [h7]; simp [cellsT, hi]
    rw [List.getElem?_take_of_lt (by omega)] at h8
    simpa using h8
/-- lists in memory -/
def SeqsT (w : World) (b off : Nat) (LL : List (List ByteArray)) : Prop := ∀ i (h : i < LL.length), ∃ u, w.cell? ⟨b, off + i, none⟩ = some u ∧ ScIs w u LL[i]
theorem SeqsT.below {w w' : World} {b off : Nat} {LL : List (List ByteArray)} (h : SeqsT w b off LL) (hB : b < w.heap.size) (hb : Below w.heap.size w w') : SeqsT w' b off LL := fun i hi => by
  obtain ⟨u, h1, h2⟩ := h i hi
  exact ⟨u, (hb.cell (p := ⟨b, off + i, none⟩) hB).trans h1, h2.below hb⟩
theorem elem_in {w : World} (x : ByteArray) : ∀ j u, ([Value.string x] : List Value)[j]? = some u → (w.alloc (.cells #[.string x] 9)).cell? ((⟨w.heap.size, 0, none⟩ : Addr).add j) = some u := by
  intro j u hj
  have hj3 : j < 1 := (List.getElem?_eq_some_iff.1 hj).1
  match j, hj3 with
  | 0, _ => simp at hj; subst hj; simp [Addr.add]
theorem elem_one (x : ByteArray) : ∀ u ∈ ([Value.string x] : List Value), u.oneCell' = true := by
  intro u hu
  simp at hu
  rw [hu]; rfl
theorem infoStr : (Tryd.prog.info? 9).map (fun i => (i.zero, i.size, i.bytes)) = some (some (.string ByteArray.empty), 1, 16) := by kernel_rfl
theorem cellsT_take {L : List ByteArray} {q : Nat} (h : q < L.length) : cellsT (L.take (q + 1)) = cellsT (L.take q) ++ [Value.string L[q]] := by
  unfold cellsT
  rw [List.take_succ_eq_append_getElem h, List.map_append]
  rfl
theorem flat_take {LL : List (List ByteArray)} {k : Nat} (h : k < LL.length) : (LL.take (k + 1)).flatten = (LL.take k).flatten ++ LL[k] := by
  rw [List.take_succ_eq_append_getElem h, List.flatten_append]
  simp
theorem flat_mono (LL : List (List ByteArray)) (k : Nat) : (LL.take k).flatten.length ≤ LL.flatten.length := by
  have h : LL.flatten = (LL.take k).flatten ++ (LL.drop k).flatten := by rw [← List.flatten_append, List.take_append_drop]
  rw [h, List.length_append]
  omega
end Go.Proofs.YtkhlfdnlpimojaaDoor
