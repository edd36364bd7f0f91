/-
  A LOOP WALKED ROUND BY ROUND: so many rounds as are named, at most.
-/
import Derived.Tactics
set_option linter.unusedVariables false
namespace Go.Proofs.YtkhlfdnlpimojaaDoor
open Go

/-- the loop ends within n rounds -/
def LoopN (P : Program) (c : Code) (Q : Exit → Act → World → Prop) : Nat → Act → World → Prop
  | 0 => fun _ _ => False
  | n + 1 => fun a w => c.wp P (Exit.then (LoopN P c Q n) Q) a w
theorem least_of {p : Nat → Prop} (h : ∃ n, p n) : ∃ m, p m ∧ ∀ k, k < m → ¬ p k := by
  obtain ⟨n, hn⟩ := h
  induction n using Nat.strongRecOn with
  | ind n ih =>
    by_cases hx : ∃ k, k < n ∧ p k
    · obtain ⟨k, hk, hp⟩ := hx
      exact ih k hk hp
    · exact ⟨n, hn, fun k hk hp => hx ⟨k, hk, hp⟩⟩
open Classical in
noncomputable def leastN (p : Nat → Prop) : Nat := if h : ∃ n, p n then Classical.choose (least_of h) else 0
theorem leastN_is {p : Nat → Prop} (h : ∃ n, p n) : p (leastN p) ∧ ∀ k, p k → leastN p ≤ k := by
  have e : leastN p = Classical.choose (least_of h) := dif_pos h
  rw [e]
  have hs := Classical.choose_spec (least_of h)
  exact ⟨hs.1, fun k hk => Classical.byContradiction fun hn => hs.2 k (by omega) hk⟩
theorem LoopN.next {P : Program} {c : Code} {Q : Exit → Act → World → Prop} {n : Nat} {a : Act} {w : World} (h : c.wp P (Exit.then (LoopN P c Q n) Q) a w) : LoopN P c Q (n + 1) a w := h
theorem LoopN.wp {P : Program} {c : Code} {Q : Exit → Act → World → Prop} (n : Nat) {a : Act} {w : World} (h : LoopN P c Q n a w) : (Code.loop c).wp P Q a w := by
  refine wp_loop (fun a w => ∃ n, LoopN P c Q n a w) (fun a w => leastN fun n => LoopN P c Q n a w) ⟨n, h⟩ ?_
  intro a w hI
  obtain ⟨h1, _⟩ := leastN_is hI
  generalize hm : leastN (fun n => LoopN P c Q n a w) = m at h1 ⊢
  cases m with
  | zero => exact h1.elim
  | succ m =>
    refine Code.wp_mono (fun e a' w' q => ?_) (show c.wp P (Exit.then (LoopN P c Q m) Q) a w from h1)
    cases e with
    | normal => exact ⟨⟨m, q⟩, Nat.lt_succ_of_le ((leastN_is ⟨m, q⟩).2 m q)⟩
    | _ => exact q
end Go.Proofs.YtkhlfdnlpimojaaDoor
