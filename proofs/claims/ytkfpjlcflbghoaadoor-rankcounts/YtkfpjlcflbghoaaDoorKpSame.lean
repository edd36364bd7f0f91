/-
  CONTRACTS: the same rows (pleacherkeep.sameRows, by slices.EqualFunc and slices.Equal).
-/
import Derived.Test.YtkfpjlcflbghoaaDoorRlMem
import Derived.Deep.QuietTactic
import Derived.BigQuiet
set_option linter.unusedVariables false
namespace Go.Proofs.YtkfpjlcflbghoaaDoor
set_option maxRecDepth 100000
open Go.RowKit

theorem drawn_keep2 {w wr : World} {b o q : Nat} (h : wr = w.drewN q) : wr.cell? ⟨b, o, none⟩ = w.cell? ⟨b, o, none⟩ := by rw [h]; simp
set_option maxHeartbeats 800000 in
theorem equalI_some (b off cap b' off' cap' n : Nat) (X : Nat → It) (w : World) (hm : n ≤ maxLen) (hc : n ≤ cap) (hc' : n ≤ cap') (hE : ItsAt w b off n X) (hE' : ItsAt w b' off' n X) :
    Calls Tryd.prog 6 #[.slice (some ⟨b, off, none⟩) n cap, .slice (some ⟨b', off', none⟩) n cap'] w fun e w' => e = .returned (.bool true) ∧ ∃ q, w' = w.drewN q := by
  have HE : Hid (ItsAt w b off n X) := hE
  have HE' : Hid (ItsAt w b' off' n X) := hE'
  unfold maxLen at hm
  clear hE hE'
  go_enter Tryd.func6, Tryd.ntmps6
  go_wp2
  go_loopw [13] (fun i wr => ∃ k q : Nat, k ≤ n ∧ i = .int .i64 k ∧ wr = w.drewN q) (fun i _ => n - (intOf i).toNat)
  case atStart => exact ⟨0, 0, Nat.zero_le _, rfl, rfl⟩
  case round =>
    obtain ⟨k, q, hk, rfl, hwr⟩ := hrel
    have HW : Hid (wr = w.drewN q) := hwr
    by_cases hlt : k < n
    · have e1 := (drawn_keep2 (b := b) (o := off + k * 3) hwr).trans (HE.out k hlt).1
      have e2 := (drawn_keep2 (b := b) (o := off + k * 3 + 1) hwr).trans (HE.out k hlt).2.1
      have e3 := (drawn_keep2 (b := b) (o := off + k * 3 + 2) hwr).trans (HE.out k hlt).2.2
      have f1 := (drawn_keep2 (b := b') (o := off' + k * 3) hwr).trans (HE'.out k hlt).1
      have f2 := (drawn_keep2 (b := b') (o := off' + k * 3 + 1) hwr).trans (HE'.out k hlt).2.1
      have f3 := (drawn_keep2 (b := b') (o := off' + k * 3 + 2) hwr).trans (HE'.out k hlt).2.2
      have hki : (k : Int) < (n : Int) := by omega
      clear hwr
      go_wp2
      go_quiet (fail)
      go_wp2
      go_roundw
      case rel => exact ⟨k + 1, _, by omega, by go_num, by rw [HW.out, World.drewN_drewN]⟩
      case measure => simp [intOf]; omega
    · clear hwr
      go_wp2
      go_ret
      exact ⟨rfl, q, HW.out⟩
set_option maxHeartbeats 400000 in
theorem equalI_zero (a a' : Option Addr) (cap cap' : Nat) (w : World) :
    Calls Tryd.prog 6 #[.slice a 0 cap, .slice a' 0 cap'] w fun e w' => e = .returned (.bool true) ∧ ∃ q, w' = w.drewN q := by
  go_enter Tryd.func6, Tryd.ntmps6
  go_wp2
  go_loop [13] (fun i => i = .int .i64 0) (fun _ => 0)
  case atStart => rfl
  case round =>
    subst hrel
    go_wp2
    go_ret
    exact ⟨rfl, 0, rfl⟩
theorem equalI_is (u v : Value) (n : Nat) (X : Nat → It) (w : World) (hu : ItsIs w u n X) (hv : ItsIs w v n X) :
    Calls Tryd.prog 6 #[u, v] w fun e w' => e = .returned (.bool true) ∧ ∃ q, w' = w.drewN q := by
  obtain ⟨a, cap, rfl, h1, h2, _, h3⟩ := hu
  obtain ⟨a', cap', rfl, h1', h2', _, h3'⟩ := hv
  rcases Nat.eq_zero_or_pos n with hz | hz
  · subst hz
    exact equalI_zero a a' cap cap' w
  · obtain ⟨b, off, rfl, h4, h5⟩ := h3 hz
    obtain ⟨b', off', rfl, h4', h5'⟩ := h3' hz
    exact equalI_some b off cap b' off' cap' n X w (Nat.le_trans h1 h2) h1 h1' h5 h5'
theorem its_drawn {w : World} {u : Value} {n : Nat} {X : Nat → It} (h : ItsIs w u n X) : ∀ q, ItsIs (w.drewN q) u n X
  | 0 => h
  | q + 1 => (its_drawn h q).drew
end Go.Proofs.YtkfpjlcflbghoaaDoor
