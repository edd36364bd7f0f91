/-
  CONTRACTS of package pleacherkeep: the clause that LowerClauses' own function makes.
-/
import Derived.Test.YtkhlfdnlpimojaaDoorLcB
set_option linter.unusedVariables false
namespace Go.Proofs.YtkhlfdnlpimojaaDoor
set_option maxRecDepth 100000
open Go.RowKit Go.WideShapes

set_option maxHeartbeats 1600000 in
theorem clause_made (ob : Nat) (k : Int) (nm : ByteArray) (w : World) (h : w.heap[ob]? = some (.cells #[.int .i64 1, .int .i64 2, .int .i64 1, .string ⟨#[]⟩, .string ⟨#[]⟩, .int .i64 0, .int .i64 0, .int .i64 0, .string ⟨#[]⟩, .slice none 0 0, .slice none 0 0] 29)) :
    Calls Tryd.prog 4 #[.int .i64 k, .string nm, .pointer (some ⟨ob, 0, none⟩)] w fun e w' => e = .returned (.agg #[.int .i64 k, .string nm, .string ⟨#[]⟩, .bool false, .int .i64 1, .int .i64 2, .int .i64 1, .string ⟨#[]⟩, .string ⟨#[]⟩, .int .i64 0, .int .i64 0, .int .i64 0, .string ⟨#[]⟩, .slice none 0 0, .slice none 0 0]) ∧ Below w.heap.size w w' := by
  obtain ⟨c0, c1, c2, c3, c4, c5, c6, c7, c8, c9, c10, _, hb⟩ := bk11 h
  clear h
  go_enter Tryd.func4, Tryd.ntmps4
  go_wp2
  refine bodyPost_ret (v := .agg #[.int .i64 k, .string nm, .string ⟨#[]⟩, .bool false, .int .i64 1, .int .i64 2, .int .i64 1, .string ⟨#[]⟩, .string ⟨#[]⟩, .int .i64 0, .int .i64 0, .int .i64 0, .string ⟨#[]⟩, .slice none 0 0, .slice none 0 0]) (by simp [results, Tryd.results4, go_sem]) rfl ?_
  exact ⟨rfl, (Below.refl _ _).alloc (Nat.le_refl _) _⟩
end Go.Proofs.YtkhlfdnlpimojaaDoor
