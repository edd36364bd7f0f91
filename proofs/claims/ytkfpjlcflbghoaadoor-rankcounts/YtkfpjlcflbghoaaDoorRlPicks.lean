/-
  CONTRACTS of the document's answers picks (a row's items at some places) and colsAt (the places of columns).
-/
import Derived.Test.YtkfpjlcflbghoaaDoorRlInts
import Derived.Test.YtkfpjlcflbghoaaDoorRlLists
import Derived.Deep.QuietTactic
import Derived.BigQuiet
import Derived.Deep.RegionHeld3
set_option linter.unusedVariables false
namespace Go.Proofs.YtkfpjlcflbghoaaDoor
set_option maxRecDepth 100000
open Go.RowKit Go.WideShapes

/-- the cells of numbers -/
def intCells (P : Nat → Nat) (n : Nat) : List Value := (List.range n).map fun j => .int .i64 (P j : Int)
def elemN (p : Nat) : List Value := [.int .i64 (p : Int)]
theorem intCells_succ (P : Nat → Nat) (n : Nat) : intCells P (n + 1) = intCells P n ++ elemN (P n) := by
  unfold intCells elemN
  simp [List.range_succ]
theorem elemN_in {w : World} (p : Nat) : ∀ j u, (elemN p)[j]? = some u → (w.alloc (.cells #[.int .i64 (p : Int)] 3)).cell? ((⟨w.heap.size, 0, none⟩ : Addr).add j) = some u := by
  intro j u hj
  have hj3 : j < 1 := (List.getElem?_eq_some_iff.1 hj).1
  match j, hj3 with
  | 0, _ => simp [elemN] at hj; subst hj; simp [Addr.add]
theorem elemN_one (p : Nat) : ∀ u ∈ elemN p, u.oneCell' = true := by
  intro u hu
  simp [elemN] at hu
  subst hu; rfl
theorem ints_of {w : World} {base : Nat} {v : Value} {n : Nat} {P : Nat → Nat} (h : w.ownsRow base 3 1 v n (intCells P n)) : IntsIs w v n P := by
  have h8 := h
  obtain ⟨hl, ⟨rfl, h2⟩ | ⟨b, cap, cur, rfl, q1, q2, q3, q4, _⟩⟩ := h
  · subst h2
    exact ⟨none, 0, rfl, Nat.le_refl _, Nat.zero_le _, fun h => absurd h (Nat.lt_irrefl _)⟩
  · refine ⟨_, cap, rfl, q3, q4, fun h0 => ⟨b, 0, rfl, (Array.getElem?_eq_some_iff.1 q2).1, fun i hi => ?_⟩⟩
    rw [Nat.zero_add, h8.cellAt _ (by omega)]
    simp [intCells, hi]
theorem own_below {w w' : World} {base : Nat} {e : TypeId} {size : Nat} {v : Value} {n : Nat} {xs : List Value} (h : w.ownsRow base e size v n xs) (hb : Below w.heap.size w w') : w'.ownsRow base e size v n xs := by
  refine ⟨h.1, ?_⟩
  rcases h.2 with h1 | ⟨g, cap, cur, h1, h2, h3, h4⟩
  · exact .inl h1
  · refine .inr ⟨g, cap, cur, h1, h2, ?_, h4⟩
    rw [hb.block g (Array.getElem?_eq_some_iff.1 h3).1]
    exact h3
theorem infoInt : (Tryd.prog.info? 3).map (fun i => (i.zero, i.size, i.bytes)) = some (some (.int .i64 0), 1, 8) := by kernel_rfl
end Go.Proofs.YtkfpjlcflbghoaaDoor
