/-
  CONTRACTS of the document's answers items and texts (lists put together, one by one).
-/
import Derived.Test.YtmoeipdchapodaaGreatDoorRlCat
set_option linter.unusedVariables false
namespace Go.Proofs.YtmoeipdchapodaaGreatDoor
set_option maxRecDepth 100000
open Go.RowKit Go.WideShapes

def elemI (x : It) : List Value := [.int .i64 x.kind, .int .i64 x.n, .string x.s]
theorem itCells_succ (X : Nat → It) (n : Nat) : itCells X (n + 1) = itCells X n ++ elemI (X n) := by
  unfold itCells elemI
  rw [show (n + 1) * 3 = n * 3 + 1 + 1 + 1 by omega]
  simp only [List.range_succ, List.map_append, List.map_cons, List.map_nil, List.append_assoc, List.cons_append, List.nil_append]
  rw [show n * 3 / 3 = n by omega, show n * 3 % 3 = 0 by omega, show (n * 3 + 1) / 3 = n by omega, show (n * 3 + 1) % 3 = 1 by omega, show (n * 3 + 1 + 1) / 3 = n by omega, show (n * 3 + 1 + 1) % 3 = 2 by omega]
  rfl
theorem elemI_in {w : World} (x : It) : ∀ j u, (elemI x)[j]? = some u → (w.alloc (.cells #[.int .i64 x.kind, .int .i64 x.n, .string x.s] 24)).cell? ((⟨w.heap.size, 0, none⟩ : Addr).add j) = some u := by
  intro j u hj
  have hj3 : j < 3 := (List.getElem?_eq_some_iff.1 hj).1
  match j, hj3 with
  | 0, _ => simp [elemI] at hj; subst hj; simp [Addr.add]
  | 1, _ => simp [elemI] at hj; subst hj; simp [Addr.add]
  | 2, _ => simp [elemI] at hj; subst hj; simp [Addr.add]
theorem elemI_one (x : It) : ∀ u ∈ elemI x, u.oneCell' = true := by
  intro u hu
  simp [elemI] at hu
  rcases hu with rfl | rfl | rfl <;> rfl
def elemS (x : ByteArray) : List Value := [.string x]
theorem strCells_succ (X : Nat → ByteArray) (n : Nat) : strCells X (n + 1) = strCells X n ++ elemS (X n) := by
  unfold strCells elemS
  simp [List.range_succ]
theorem elemS_in {w : World} (x : ByteArray) : ∀ j u, (elemS x)[j]? = some u → (w.alloc (.cells #[.string x] 9)).cell? ((⟨w.heap.size, 0, none⟩ : Addr).add j) = some u := by
  intro j u hj
  have hj3 : j < 1 := (List.getElem?_eq_some_iff.1 hj).1
  match j, hj3 with
  | 0, _ => simp [elemS] at hj; subst hj; simp [Addr.add]
theorem elemS_one (x : ByteArray) : ∀ u ∈ elemS x, u.oneCell' = true := by
  intro u hu
  simp [elemS] at hu
  rw [hu]; rfl
end Go.Proofs.YtmoeipdchapodaaGreatDoor
