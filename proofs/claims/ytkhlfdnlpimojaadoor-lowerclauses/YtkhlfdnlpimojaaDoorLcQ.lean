/-
  Lower of the clauses of LowerClauses.
-/
import Derived.Test.YtkhlfdnlpimojaaDoorLcP
import Derived.Test.YtkhlfdnlpimojaaDoorLcN
set_option linter.unusedVariables false
namespace Go.Proofs.YtkhlfdnlpimojaaDoor
set_option maxRecDepth 100000
open Go.RowKit Go.WideShapes Go.Shelf
attribute [local go_sem] Oper.semAt_some

theorem low_0 (ab n : Nat) (w : World) (h : w.heap[n]? = some (.cells cll0 31)) :
    Calls Tryd.prog 6 #[.agg #[.int .i64 28, .int .i64 0, .int .i64 0, .string ⟨#[]⟩, .string ⟨#[]⟩, .int .i64 0, .int .i64 0, .int .i64 0, .string ⟨#[]⟩, .slice (some ⟨ab, 0, none⟩) 1 1, .slice (some ⟨n, 0, none⟩) 2 2]] w fun e w' => e = .returned (.tuple #[.agg #[.int .i64 0, .int .i64 0, .int .i64 0, .string ⟨#[]⟩, .string ⟨#[]⟩, .string ⟨#[]⟩, .int .i64 0, .int .i64 0, .int .i64 0, .string ⟨#[]⟩, .slice none 0 0], .int .i64 4]) ∧ Below w.heap.size w w' := by
  have hF : clF 2 (fun j => if j = 0 then 3 else 1) (fun j => if j = 0 then ⟨#[]⟩ else ⟨#[120]⟩) (fun j => if j = 0 then ⟨#[]⟩ else ⟨#[]⟩) = 4 := by decide +kernel
  have hc : ∀ i, i < 2 → ClAt w n (0 + i * 15) ((fun j => if j = 0 then 3 else 1) i) ((fun j => if j = 0 then ⟨#[]⟩ else ⟨#[120]⟩) i) ((fun j => if j = 0 then ⟨#[]⟩ else ⟨#[]⟩) i) := fun i hi => by
    obtain rfl | rfl : i = 0 ∨ i = 1 := by omega
    all_goals exact clAt_of h rfl rfl rfl (by decide) (by decide)
  have g := Lower_bad ⟨0, 0, ⟨#[]⟩⟩ ⟨#[]⟩ 0 0 0 ⟨#[]⟩ (some ⟨ab, 0, none⟩) 1 n 0 2 2 _ _ _ w (Nat.le_refl _) (by decide) hc (Array.getElem?_eq_some_iff.1 h).1 (by rw [hF]; decide)
  rw [hF] at g
  exact g
theorem low_1 (ab n : Nat) (w : World) (h : w.heap[n]? = some (.cells cll1 31)) :
    Calls Tryd.prog 6 #[.agg #[.int .i64 28, .int .i64 0, .int .i64 0, .string ⟨#[]⟩, .string ⟨#[]⟩, .int .i64 0, .int .i64 0, .int .i64 0, .string ⟨#[]⟩, .slice (some ⟨ab, 0, none⟩) 1 1, .slice (some ⟨n, 0, none⟩) 1 1]] w fun e w' => e = .returned (.tuple #[.agg #[.int .i64 0, .int .i64 0, .int .i64 0, .string ⟨#[]⟩, .string ⟨#[]⟩, .string ⟨#[]⟩, .int .i64 0, .int .i64 0, .int .i64 0, .string ⟨#[]⟩, .slice none 0 0], .int .i64 4]) ∧ Below w.heap.size w w' := by
  have hF : clF 1 (fun _ => 4) (fun _ => ⟨#[]⟩) (fun _ => ⟨#[]⟩) = 4 := by decide +kernel
  have hc : ∀ i, i < 1 → ClAt w n (0 + i * 15) ((fun _ => 4) i) ((fun _ => ⟨#[]⟩) i) ((fun _ => ⟨#[]⟩) i) := fun i hi => by
    obtain rfl : i = 0 := by omega
    all_goals exact clAt_of h rfl rfl rfl (by decide) (by decide)
  have g := Lower_bad ⟨0, 0, ⟨#[]⟩⟩ ⟨#[]⟩ 0 0 0 ⟨#[]⟩ (some ⟨ab, 0, none⟩) 1 n 0 1 1 _ _ _ w (Nat.le_refl _) (by decide) hc (Array.getElem?_eq_some_iff.1 h).1 (by rw [hF]; decide)
  rw [hF] at g
  exact g
theorem low_2 (ab n : Nat) (w : World) (h : w.heap[n]? = some (.cells cll2 31)) :
    Calls Tryd.prog 6 #[.agg #[.int .i64 28, .int .i64 0, .int .i64 0, .string ⟨#[]⟩, .string ⟨#[]⟩, .int .i64 0, .int .i64 0, .int .i64 0, .string ⟨#[]⟩, .slice (some ⟨ab, 0, none⟩) 1 1, .slice (some ⟨n, 0, none⟩) 3 3]] w fun e w' => e = .returned (.tuple #[.agg #[.int .i64 0, .int .i64 0, .int .i64 0, .string ⟨#[]⟩, .string ⟨#[]⟩, .string ⟨#[]⟩, .int .i64 0, .int .i64 0, .int .i64 0, .string ⟨#[]⟩, .slice none 0 0], .int .i64 4]) ∧ Below w.heap.size w w' := by
  have hF : clF 3 (fun j => if j = 0 then 1 else if j = 1 then 1 else 4) (fun j => if j = 0 then ⟨#[120]⟩ else if j = 1 then ⟨#[121]⟩ else ⟨#[]⟩) (fun j => if j = 0 then ⟨#[]⟩ else if j = 1 then ⟨#[]⟩ else ⟨#[]⟩) = 4 := by decide +kernel
  have hc : ∀ i, i < 3 → ClAt w n (0 + i * 15) ((fun j => if j = 0 then 1 else if j = 1 then 1 else 4) i) ((fun j => if j = 0 then ⟨#[120]⟩ else if j = 1 then ⟨#[121]⟩ else ⟨#[]⟩) i) ((fun j => if j = 0 then ⟨#[]⟩ else if j = 1 then ⟨#[]⟩ else ⟨#[]⟩) i) := fun i hi => by
    obtain rfl | rfl | rfl : i = 0 ∨ i = 1 ∨ i = 2 := by omega
    all_goals exact clAt_of h rfl rfl rfl (by decide) (by decide)
  have g := Lower_bad ⟨0, 0, ⟨#[]⟩⟩ ⟨#[]⟩ 0 0 0 ⟨#[]⟩ (some ⟨ab, 0, none⟩) 1 n 0 3 3 _ _ _ w (Nat.le_refl _) (by decide) hc (Array.getElem?_eq_some_iff.1 h).1 (by rw [hF]; decide)
  rw [hF] at g
  exact g
theorem low_3 (ab n : Nat) (w : World) (h : w.heap[n]? = some (.cells cll3 31)) :
    Calls Tryd.prog 6 #[.agg #[.int .i64 28, .int .i64 0, .int .i64 0, .string ⟨#[]⟩, .string ⟨#[]⟩, .int .i64 0, .int .i64 0, .int .i64 0, .string ⟨#[]⟩, .slice (some ⟨ab, 0, none⟩) 1 1, .slice (some ⟨n, 0, none⟩) 2 2]] w fun e w' => e = .returned (.tuple #[.agg #[.int .i64 0, .int .i64 0, .int .i64 0, .string ⟨#[]⟩, .string ⟨#[]⟩, .string ⟨#[]⟩, .int .i64 0, .int .i64 0, .int .i64 0, .string ⟨#[]⟩, .slice none 0 0], .int .i64 4]) ∧ Below w.heap.size w w' := by
  have hF : clF 2 (fun j => if j = 0 then 4 else 1) (fun j => if j = 0 then ⟨#[]⟩ else ⟨#[120]⟩) (fun j => if j = 0 then ⟨#[]⟩ else ⟨#[]⟩) = 4 := by decide +kernel
  have hc : ∀ i, i < 2 → ClAt w n (0 + i * 15) ((fun j => if j = 0 then 4 else 1) i) ((fun j => if j = 0 then ⟨#[]⟩ else ⟨#[120]⟩) i) ((fun j => if j = 0 then ⟨#[]⟩ else ⟨#[]⟩) i) := fun i hi => by
    obtain rfl | rfl : i = 0 ∨ i = 1 := by omega
    all_goals exact clAt_of h rfl rfl rfl (by decide) (by decide)
  have g := Lower_bad ⟨0, 0, ⟨#[]⟩⟩ ⟨#[]⟩ 0 0 0 ⟨#[]⟩ (some ⟨ab, 0, none⟩) 1 n 0 2 2 _ _ _ w (Nat.le_refl _) (by decide) hc (Array.getElem?_eq_some_iff.1 h).1 (by rw [hF]; decide)
  rw [hF] at g
  exact g
theorem low_4 (ab n : Nat) (w : World) (h : w.heap[n]? = some (.cells cll4 31)) :
    Calls Tryd.prog 6 #[.agg #[.int .i64 28, .int .i64 0, .int .i64 0, .string ⟨#[]⟩, .string ⟨#[]⟩, .int .i64 0, .int .i64 0, .int .i64 0, .string ⟨#[]⟩, .slice (some ⟨ab, 0, none⟩) 1 1, .slice (some ⟨n, 0, none⟩) 3 3]] w fun e w' => e = .returned (.tuple #[.agg #[.int .i64 0, .int .i64 0, .int .i64 0, .string ⟨#[]⟩, .string ⟨#[]⟩, .string ⟨#[]⟩, .int .i64 0, .int .i64 0, .int .i64 0, .string ⟨#[]⟩, .slice none 0 0], .int .i64 4]) ∧ Below w.heap.size w w' := by
  have hF : clF 3 (fun j => if j = 0 then 1 else if j = 1 then 4 else 3) (fun j => if j = 0 then ⟨#[120]⟩ else if j = 1 then ⟨#[]⟩ else ⟨#[]⟩) (fun j => if j = 0 then ⟨#[]⟩ else if j = 1 then ⟨#[]⟩ else ⟨#[]⟩) = 4 := by decide +kernel
  have hc : ∀ i, i < 3 → ClAt w n (0 + i * 15) ((fun j => if j = 0 then 1 else if j = 1 then 4 else 3) i) ((fun j => if j = 0 then ⟨#[120]⟩ else if j = 1 then ⟨#[]⟩ else ⟨#[]⟩) i) ((fun j => if j = 0 then ⟨#[]⟩ else if j = 1 then ⟨#[]⟩ else ⟨#[]⟩) i) := fun i hi => by
    obtain rfl | rfl | rfl : i = 0 ∨ i = 1 ∨ i = 2 := by omega
    all_goals exact clAt_of h rfl rfl rfl (by decide) (by decide)
  have g := Lower_bad ⟨0, 0, ⟨#[]⟩⟩ ⟨#[]⟩ 0 0 0 ⟨#[]⟩ (some ⟨ab, 0, none⟩) 1 n 0 3 3 _ _ _ w (Nat.le_refl _) (by decide) hc (Array.getElem?_eq_some_iff.1 h).1 (by rw [hF]; decide)
  rw [hF] at g
  exact g
theorem low_5 (ab n : Nat) (w : World) (h : w.heap[n]? = some (.cells cll5 31)) :
    Calls Tryd.prog 6 #[.agg #[.int .i64 28, .int .i64 0, .int .i64 0, .string ⟨#[]⟩, .string ⟨#[]⟩, .int .i64 0, .int .i64 0, .int .i64 0, .string ⟨#[]⟩, .slice (some ⟨ab, 0, none⟩) 1 1, .slice (some ⟨n, 0, none⟩) 1 1]] w fun e w' => e = .returned (.tuple #[.agg #[.int .i64 0, .int .i64 0, .int .i64 0, .string ⟨#[]⟩, .string ⟨#[]⟩, .string ⟨#[]⟩, .int .i64 0, .int .i64 0, .int .i64 0, .string ⟨#[]⟩, .slice none 0 0], .int .i64 3]) ∧ Below w.heap.size w w' := by
  have hF : clF 1 (fun _ => 5) (fun _ => ⟨#[120]⟩) (fun _ => ⟨#[]⟩) = 3 := by decide +kernel
  have hc : ∀ i, i < 1 → ClAt w n (0 + i * 15) ((fun _ => 5) i) ((fun _ => ⟨#[120]⟩) i) ((fun _ => ⟨#[]⟩) i) := fun i hi => by
    obtain rfl : i = 0 := by omega
    all_goals exact clAt_of h rfl rfl rfl (by decide) (by decide)
  have g := Lower_bad ⟨0, 0, ⟨#[]⟩⟩ ⟨#[]⟩ 0 0 0 ⟨#[]⟩ (some ⟨ab, 0, none⟩) 1 n 0 1 1 _ _ _ w (Nat.le_refl _) (by decide) hc (Array.getElem?_eq_some_iff.1 h).1 (by rw [hF]; decide)
  rw [hF] at g
  exact g
theorem low_6 (ab n : Nat) (w : World) (h : w.heap[n]? = some (.cells cll6 31)) :
    Calls Tryd.prog 6 #[.agg #[.int .i64 28, .int .i64 0, .int .i64 0, .string ⟨#[]⟩, .string ⟨#[]⟩, .int .i64 0, .int .i64 0, .int .i64 0, .string ⟨#[]⟩, .slice (some ⟨ab, 0, none⟩) 1 1, .slice (some ⟨n, 0, none⟩) 1 1]] w fun e w' => e = .returned (.tuple #[.agg #[.int .i64 0, .int .i64 0, .int .i64 0, .string ⟨#[]⟩, .string ⟨#[]⟩, .string ⟨#[]⟩, .int .i64 0, .int .i64 0, .int .i64 0, .string ⟨#[]⟩, .slice none 0 0], .int .i64 10]) ∧ Below w.heap.size w w' := by
  have hF : clF 1 (fun _ => 1) (fun _ => ⟨#[]⟩) (fun _ => ⟨#[]⟩) = 10 := by decide +kernel
  have hc : ∀ i, i < 1 → ClAt w n (0 + i * 15) ((fun _ => 1) i) ((fun _ => ⟨#[]⟩) i) ((fun _ => ⟨#[]⟩) i) := fun i hi => by
    obtain rfl : i = 0 := by omega
    all_goals exact clAt_of h rfl rfl rfl (by decide) (by decide)
  have g := Lower_bad ⟨0, 0, ⟨#[]⟩⟩ ⟨#[]⟩ 0 0 0 ⟨#[]⟩ (some ⟨ab, 0, none⟩) 1 n 0 1 1 _ _ _ w (Nat.le_refl _) (by decide) hc (Array.getElem?_eq_some_iff.1 h).1 (by rw [hF]; decide)
  rw [hF] at g
  exact g
theorem low_7 (ab n : Nat) (w : World) (h : w.heap[n]? = some (.cells cll7 31)) :
    Calls Tryd.prog 6 #[.agg #[.int .i64 28, .int .i64 0, .int .i64 0, .string ⟨#[]⟩, .string ⟨#[]⟩, .int .i64 0, .int .i64 0, .int .i64 0, .string ⟨#[]⟩, .slice (some ⟨ab, 0, none⟩) 1 1, .slice (some ⟨n, 0, none⟩) 1 1]] w fun e w' => e = .returned (.tuple #[.agg #[.int .i64 0, .int .i64 0, .int .i64 0, .string ⟨#[]⟩, .string ⟨#[]⟩, .string ⟨#[]⟩, .int .i64 0, .int .i64 0, .int .i64 0, .string ⟨#[]⟩, .slice none 0 0], .int .i64 7]) ∧ Below w.heap.size w w' := by
  have hF : clF 1 (fun _ => 1) (fun _ => ⟨#[120]⟩) (fun _ => ⟨#[120]⟩) = 7 := by decide +kernel
  have hc : ∀ i, i < 1 → ClAt w n (0 + i * 15) ((fun _ => 1) i) ((fun _ => ⟨#[120]⟩) i) ((fun _ => ⟨#[120]⟩) i) := fun i hi => by
    obtain rfl : i = 0 := by omega
    all_goals exact clAt_of h rfl rfl rfl (by decide) (by decide)
  have g := Lower_bad ⟨0, 0, ⟨#[]⟩⟩ ⟨#[]⟩ 0 0 0 ⟨#[]⟩ (some ⟨ab, 0, none⟩) 1 n 0 1 1 _ _ _ w (Nat.le_refl _) (by decide) hc (Array.getElem?_eq_some_iff.1 h).1 (by rw [hF]; decide)
  rw [hF] at g
  exact g
theorem low_8 (ab n : Nat) (w : World) (hT : Tabs w) (h : w.heap[n]? = some (.cells cll8 31)) (ha : w.heap[ab]? = some (.cells #[.int .i64 1, .int .i64 2, .int .i64 1, .string ⟨#[]⟩, .string ⟨#[]⟩, .int .i64 0, .int .i64 0, .int .i64 0, .string ⟨#[]⟩, .slice none 0 0, .slice none 0 0] 29)) :
    Calls Tryd.prog 6 #[.agg #[.int .i64 28, .int .i64 0, .int .i64 0, .string ⟨#[]⟩, .string ⟨#[]⟩, .int .i64 0, .int .i64 0, .int .i64 0, .string ⟨#[]⟩, .slice (some ⟨ab, 0, none⟩) 1 1, .slice (some ⟨n, 0, none⟩) 3 3]] w fun e w' => ∃ n13 : Nat, e = .returned (.tuple #[.agg #[.int .i64 6, .int .i64 0, .int .i64 0, .string ⟨#[]⟩, .string ⟨#[120]⟩, .string ⟨#[]⟩, .int .i64 0, .int .i64 0, .int .i64 0, .string ⟨#[]⟩, .slice (some ⟨n13, 0, none⟩) 3 3], .int .i64 0]) ∧ Below w.heap.size w w' := by
  have hF : clF 3 (fun j => if j = 0 then 1 else if j = 1 then 3 else 4) (fun j => if j = 0 then ⟨#[120]⟩ else if j = 1 then ⟨#[]⟩ else ⟨#[]⟩) (fun j => if j = 0 then ⟨#[]⟩ else if j = 1 then ⟨#[]⟩ else ⟨#[]⟩) = 0 := by decide +kernel
  have hc : ∀ i, i < 3 → ClAt w n (0 + i * 15) ((fun j => if j = 0 then 1 else if j = 1 then 3 else 4) i) ((fun j => if j = 0 then ⟨#[120]⟩ else if j = 1 then ⟨#[]⟩ else ⟨#[]⟩) i) ((fun j => if j = 0 then ⟨#[]⟩ else if j = 1 then ⟨#[]⟩ else ⟨#[]⟩) i) := fun i hi => by
    obtain rfl | rfl | rfl : i = 0 ∨ i = 1 ∨ i = 2 := by omega
    all_goals exact clAt_of h rfl rfl rfl (by decide) (by decide)
  have he : ∀ jj, jj < 3 → ∃ nm k ax tk tn cv, PhAt w n (0 + jj * 15 + 4) 1 ⟨2, 1, ⟨#[]⟩⟩ nm k ax tk tn (.slice none 0 0) cv := fun i hi => by
    obtain rfl | rfl | rfl : i = 0 ∨ i = 1 ∨ i = 2 := by omega
    all_goals exact ⟨⟨#[]⟩, 0, 0, 0, ⟨#[]⟩, .slice none 0 0, phOf h rfl rfl rfl rfl rfl rfl rfl rfl rfl rfl rfl⟩
  exact Lower_three ⟨2, 1, ⟨#[]⟩⟩ ⟨0, 0, ⟨#[]⟩⟩ ⟨#[120]⟩ ⟨#[]⟩ ⟨#[]⟩ 0 0 0 ⟨#[]⟩ ab 0 1 n 0 3 _ _ _ w hT hc he (Array.getElem?_eq_some_iff.1 h).1 ⟨⟨#[]⟩, 0, 0, 0, ⟨#[]⟩, .slice none 0 0, phAt_of (it := ⟨2, 1, ⟨#[]⟩⟩) ha⟩ (Array.getElem?_eq_some_iff.1 ha).1 rfl rfl rfl rfl rfl (by decide) (by decide) ((Lib.cell_of_heap h _).trans rfl) (by decide) (by decide) (by decide) (by decide) hF (by decide +kernel)
end Go.Proofs.YtkhlfdnlpimojaaDoor
