/-
  CONTRACT of the document's answer ComparedOf.
-/
import Derived.Test.YtkcfhpfhlpokdaaRlCmp
set_option linter.unusedVariables false
namespace Go.Proofs.Ytkcfhpfhlpokdaa
open Go.RowKit

theorem bcellC {W w1 : World} (hb : Below W.heap.size W w1) : (∀ b o, b < W.heap.size → w1.cell? ⟨b, o, none⟩ = W.cell? ⟨b, o, none⟩) ∧ (∀ b o, b < W.heap.size → w1.frozen? ⟨b, o, none⟩ = W.frozen? ⟨b, o, none⟩) :=
  ⟨fun b o h => hb.cell (p := ⟨b, o, none⟩) h, fun b o h => hb.frozen (p := ⟨b, o, none⟩) h⟩
set_option maxHeartbeats 800000 in
theorem comparedOf_any (k n : Int) (s : ByteArray) (k' n' : Int) (s' : ByteArray) (w : World) :
    Calls Try.prog 5 #[.agg #[.int .i64 k, .int .i64 n, .string s], .agg #[.int .i64 k', .int .i64 n', .string s']] w fun e w' => e = .returned (.int .i64 (cmpI k n s k' n' s')) ∧ Below w.heap.size w w' := by
  have HB : Hid (∀ o o', Below w.heap.size w ((w.alloc o).alloc o')) := fun o o' => ((Below.refl _ _).alloc (Nat.le_refl _) _).alloc (by simp) _
  have C1 : Hid (∀ W, Calls Try.prog 8 #[.agg #[.int .i64 k, .int .i64 n, .string s], .agg #[.int .i64 k', .int .i64 n', .string s']] W fun e w' => e = .returned (.bool (lessI k n s k' n' s')) ∧ Below W.heap.size W w') := fun W => lessItem_any k n s k' n' s' W
  have C2 : Hid (∀ W, Calls Try.prog 8 #[.agg #[.int .i64 k', .int .i64 n', .string s'], .agg #[.int .i64 k, .int .i64 n, .string s]] W fun e w' => e = .returned (.bool (lessI k' n' s' k n s)) ∧ Below W.heap.size W w') := fun W => lessItem_any k' n' s' k n s W
  have HR : Hid (cmpI k n s k' n' s' = if lessI k n s k' n' s' = true then -1 else if lessI k' n' s' k n s = true then 1 else 0) := cmp_less k n s k' n' s'
  generalize cmpI k n s k' n' s' = R at *
  generalize lessI k n s k' n' s' = A at *
  generalize lessI k' n' s' k n s = B at *
  cases A
  · cases B
    all_goals
      go_enter Try.func5, Try.ntmps5
      go_wp2_with (first | (go_at_call 8; refine (C1.out _).mono ?_; rintro e w1 ⟨rfl, hb1⟩; clear C1; have HB1 : Hid (Below w.heap.size w w1) := (HB.out _ _).trans (hb1.mono (by simp; omega)); obtain ⟨hc, hf⟩ := bcellC hb1; clear hb1) | (go_at_call 8; refine (C2.out _).mono ?_; rintro e w2 ⟨rfl, hb2⟩))
      go_ret
      exact ⟨ret_intC (by rw [HR.out]; rfl), HB1.out.trans (hb2.mono HB1.out.size)⟩
  · go_enter Try.func5, Try.ntmps5
    go_wp2_with (first | (go_at_call 8; refine (C1.out _).mono ?_; rintro e w1 ⟨rfl, hb1⟩))
    go_ret
    exact ⟨ret_intC (by rw [HR.out]; rfl), (HB.out _ _).trans (hb1.mono (by simp; omega))⟩
end Go.Proofs.Ytkcfhpfhlpokdaa
