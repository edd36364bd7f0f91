/-
  CONTRACTS: what is said of an item (rel.CheckItem, and the document's answer ItemFault).
-/
import Derived.Test.YtkhlfdnlpimojaaDoorRlItem
set_option linter.unusedVariables false
namespace Go.Proofs.YtkhlfdnlpimojaaDoor
open Go.RowKit

/-- what is said of an item -/
def itemF (x : It) : Int := if mayI x = true then 0 else 12
set_option maxHeartbeats 400000 in
theorem checkItem_any (k n : Int) (s : ByteArray) (w : World) (hs : s.size ≤ maxLen) (hT : Tabs w) :
    Calls Tryd.prog 56 #[.agg #[.int .i64 k, .int .i64 n, .string s]] w fun e w' => e = .returned (.int .i64 (itemF ⟨k, n, s⟩)) ∧ Below w.heap.size w w' := by
  have CM : Hid (∀ o, Calls Tryd.prog 68 #[.agg #[.int .i64 k, .int .i64 n, .string s]] (w.alloc o) fun e w' => e = .returned (.bool (mayI ⟨k, n, s⟩)) ∧ Below (w.alloc o).heap.size (w.alloc o) w') :=
    fun o => mayBe_any k n s _ hs (Utf8Tabs_below hT ((Below.refl _ _).alloc (Nat.le_refl _) _))
  have HF : Hid (itemF ⟨k, n, s⟩ = if mayI ⟨k, n, s⟩ = true then 0 else 12) := rfl
  generalize itemF ⟨k, n, s⟩ = F at *
  generalize mayI ⟨k, n, s⟩ = M at *
  clear hT hs
  cases M
  all_goals
    go_enter Tryd.func56, Tryd.ntmps56
    go_wp2_with (first | (go_at_call 68; refine (CM.out _).mono ?_; rintro e w2 ⟨rfl, hb⟩))
    go_ret
    exact ⟨ret_int (by rw [HF.out]; rfl), ((Below.refl _ _).alloc (Nat.le_refl _) _).trans (hb.mono (by simp))⟩
end Go.Proofs.YtkhlfdnlpimojaaDoor
