/-
  THE LOOPS of LowerMany: what Lower answers.
-/
import Derived.Test.YtcbpjgnbdpfiiaaGreatDoorLxQ
import Derived.Test.YtcbpjgnbdpfiiaaGreatDoorLxU
set_option linter.unusedVariables false
namespace Go.Proofs.YtcbpjgnbdpfiiaaGreatDoor
set_option maxRecDepth 100000
open Go.RowKit Go.WideShapes

theorem e_loop : ∀ (k : Nat) (N : ByteArray → Nat) (p : Nat), p + 2 * k + 1 ≤ 600 → (∀ y, N y + 2 * k ≤ 100000) → RunE (loopP k) N p (p + 2 * k + 1) (loopE k)
  | 0, N, p, h, _ => e_lit ⟨2, 2, ⟨#[]⟩⟩ N p (by omega) (by decide) (by decide +kernel) ⟨#[]⟩ 0 0 0 ⟨#[]⟩
  | k + 1, N, p, h, hN => by
    have h0 : RunE (litN 1) N p (p + 1) (exN 1 ⟨2, 1, ⟨#[]⟩⟩ ⟨#[]⟩ ⟨#[]⟩ 0 0 (fun _ => .no)) := e_lit ⟨2, 1, ⟨#[]⟩⟩ N p (by omega) (by decide) (by decide +kernel) ⟨#[]⟩ 0 0 0 ⟨#[]⟩
    have h1 := e_loop k (inN N ⟨#[120]⟩) (p + 1) (by omega) (fun y => by
      have e1 := hN y
      have e2 := inN_le (nm := ⟨#[120]⟩) (m := N y) (N := fun _ => N y) (fun _ => Nat.le_refl _) y
      have e3 : inN N ⟨#[120]⟩ y = inN (fun _ => N y) ⟨#[120]⟩ y := rfl
      omega)
    have h2 := flwor_for (nm := ⟨#[120]⟩) (n := 1) h0 h1 (by omega) (by omega) (by decide) (fun y => by have := hN y; omega)
    have h3 : RunE (forP ⟨#[120]⟩ 1 (loopP k)) N p (p + 1 + 2 * k + 1 + 1) (exN 5 ⟨0, 0, ⟨#[]⟩⟩ ⟨#[120]⟩ ⟨#[]⟩ 0 2 (fun j => if j = 0 then exN 1 ⟨2, 1, ⟨#[]⟩⟩ ⟨#[]⟩ ⟨#[]⟩ 0 0 (fun _ => .no) else loopE k)) := expr_for (alone_forP (by decide) (by decide +kernel)) h2
    rw [show p + 2 * (k + 1) + 1 = p + 1 + 2 * k + 1 + 1 by omega]
    exact h3
theorem loop_low (k : Nat) (h1 : 1 ≤ k) (h2 : k ≤ 9) (v : List Value) (w : World) (lo : Nat) (hv : Tre w lo (loopP k) v) (hT : Tabs w) :
    Calls Tryz.prog 10 #[.agg v.toArray] w fun e w' => ∃ x, ExV x ∧ e = .returned (.tuple #[x, .int .i64 (manyC k)]) ∧ Below w.heap.size w w' :=
  lower_ok (loopP k) v w (Ph.V.keep (fun b q => q.2) (fun _ _ => rfl) hv) hT (e_loop k (fun _ => 0) 0 (by omega) (fun _ => by omega)) (by omega) (loop_core k h1 h2).2 _ (loop_core k h1 h2).1
end Go.Proofs.YtcbpjgnbdpfiiaaGreatDoor
