/-
  CONTRACTS: the same rows (pleacherkeep.sameRows, by slices.EqualFunc and slices.Equal).
-/
import Derived.Test.YtdedenggbbppeaaDoorRlMem
import Derived.Deep.QuietTactic
import Derived.BigQuiet
set_option linter.unusedVariables false
namespace Go.Proofs.YtdedenggbbppeaaDoor
set_option maxRecDepth 100000
open Go.RowKit

theorem drawn_keep2 {w wr : World} {b o q : Nat} (h : wr = w.drewN q) : wr.cell? ⟨b, o, none⟩ = w.cell? ⟨b, o, none⟩ := by rw [h]; simp
set_option maxHeartbeats 800000 in
theorem equalI_some (b off cap b' off' cap' n : Nat) (X : Nat → It) (w : World) (hm : n ≤ maxLen) (hc : n ≤ cap) (hc' : n ≤ cap') (hE : ItsAt w b off n X) (hE' : ItsAt w b' off' n X) :
    Calls Tryd.prog 24 #[.slice (some ⟨b, off, none⟩) n cap, .slice (some ⟨b', off', none⟩) n cap'] w fun e w' => e = .returned (.bool true) ∧ ∃ q, w' = w.drewN q := by
  have HE : Hid (ItsAt w b off n X) := hE
  have HE' : Hid (ItsAt w b' off' n X) := hE'
  unfold maxLen at hm
  clear hE hE'
  go_enter Tryd.func24, Tryd.ntmps24
  go_wp2
  go_loopw [13] (fun i wr => ∃ k q : Nat, k ≤ n ∧ i = .int .i64 k ∧ wr = w.drewN q) (fun i _ => n - (intOf i).toNat)
  case atStart => exact ⟨0, 0, Nat.zero_le _, rfl, rfl⟩
  case round =>
    obtain ⟨k, q, hk, rfl, hwr⟩ := hrel
    have HW : Hid (wr = w.drewN q) := hwr
    by_cases hlt : k < n
    · have e1 := (drawn_keep2 (b := b) (o := off + k * 3) hwr).trans (HE.out k hlt).1
      have e2 := (drawn_keep2 (b := b) (o := off + k * 3 + 1) hwr).trans (HE.out k hlt).2.1
      have e3 := (drawn_keep2 (b := b) (o := off + k * 3 + 2) hwr).trans (HE.out k hlt).2.2
      have f1 := (drawn_keep2 (b := b') (o := off' + k * 3) hwr).trans (HE'.out k hlt).1
      have f2 := (drawn_keep2 (b := b') (o := off' + k * 3 + 1) hwr).trans (HE'.out k hlt).2.1
      have f3 := (drawn_keep2 (b := b') (o := off' + k * 3 + 2) hwr).trans (HE'.out k hlt).2.2
      have hki : (k : Int) < (n : Int) := by omega
      clear hwr
      go_wp2
      go_quiet (fail)
      go_wp2
      go_roundw
      case rel => exact ⟨k + 1, _, by omega, by go_num, by rw [HW.out, World.drewN_drewN]⟩
      case measure => simp [intOf]; omega
    · clear hwr
      go_wp2
      go_ret
      exact ⟨rfl, q, HW.out⟩
set_option maxHeartbeats 400000 in
theorem equalI_zero (a a' : Option Addr) (cap cap' : Nat) (w : World) :
    Calls Tryd.prog 24 #[.slice a 0 cap, .slice a' 0 cap'] w fun e w' => e = .returned (.bool true) ∧ ∃ q, w' = w.drewN q := by
  go_enter Tryd.func24, Tryd.ntmps24
  go_wp2
  go_loop [13] (fun i => i = .int .i64 0) (fun _ => 0)
  case atStart => rfl
  case round =>
    subst hrel
    go_wp2
    go_ret
    exact ⟨rfl, 0, rfl⟩
theorem equalI_is (u v : Value) (n : Nat) (X : Nat → It) (w : World) (hu : ItsIs w u n X) (hv : ItsIs w v n X) :
    Calls Tryd.prog 24 #[u, v] w fun e w' => e = .returned (.bool true) ∧ ∃ q, w' = w.drewN q := by
  obtain ⟨a, cap, rfl, h1, h2, _, h3⟩ := hu
  obtain ⟨a', cap', rfl, h1', h2', _, h3'⟩ := hv
  rcases Nat.eq_zero_or_pos n with hz | hz
  · subst hz
    exact equalI_zero a a' cap cap' w
  · obtain ⟨b, off, rfl, h4, h5⟩ := h3 hz
    obtain ⟨b', off', rfl, h4', h5'⟩ := h3' hz
    exact equalI_some b off cap b' off' cap' n X w (Nat.le_trans h1 h2) h1 h1' h5 h5'
set_option maxHeartbeats 400000 in
theorem same1_is (u v : Value) (n : Nat) (X : Nat → It) (w : World) (hu : ItsIs w u n X) (hv : ItsIs w v n X) :
    Calls Tryd.prog 23 #[u, v] w fun e w' => e = .returned (.bool true) ∧ ∃ q, w' = w.drewN q := by
  have C : Hid (Calls Tryd.prog 24 #[u, v] w fun e w' => e = .returned (.bool true) ∧ ∃ q, w' = w.drewN q) := equalI_is u v n X w hu hv
  obtain ⟨a, cap, rfl, _⟩ := hu
  obtain ⟨a', cap', rfl, _⟩ := hv
  go_enter Tryd.func23, Tryd.ntmps23
  go_wp2_with (go_at_call 24; refine C.out.mono ?_; rintro e w1 ⟨rfl, q, rfl⟩)
  go_ret
  exact ⟨rfl, q, rfl⟩
theorem its_drawn {w : World} {u : Value} {n : Nat} {X : Nat → It} (h : ItsIs w u n X) : ∀ q, ItsIs (w.drewN q) u n X
  | 0 => h
  | q + 1 => (its_drawn h q).drew
set_option maxHeartbeats 1600000 in
theorem sameRows_is (u v : Value) (m : Nat) (R S : Nat → Row) (w : World) (hu : RowsIs w u m R) (hv : RowsIs w v m S) (hRS : ∀ i, i < m → R i = S i) :
    Calls Tryd.prog 8 #[u, v] w fun e w' => e = .returned (.bool true) ∧ ∃ q, w' = w.drewN q := by
  obtain ⟨a, cap, rfl, h1, h2, _, h3⟩ := hu
  obtain ⟨a', cap', rfl, h1', h2', _, h3'⟩ := hv
  have HQ : Hid (∀ k q, k < m → ∃ b off b' off' x y, a = some ⟨b, off, none⟩ ∧ a' = some ⟨b', off', none⟩ ∧ (w.drewN q).cell? ⟨b, off + k, none⟩ = some x ∧ (w.drewN q).cell? ⟨b', off' + k, none⟩ = some y ∧ ItsIs (w.drewN q) x (R k).len (R k).at_ ∧ ItsIs (w.drewN q) y (R k).len (R k).at_) := fun k q hk => by
    obtain ⟨b, off, e1, e2, e3⟩ := h3 (by omega)
    obtain ⟨b', off', f1, f2, f3⟩ := h3' (by omega)
    obtain ⟨x, e4, e5⟩ := e3 k hk
    obtain ⟨y, f4, f5⟩ := f3 k hk
    rw [← hRS k hk] at f5
    exact ⟨b, off, b', off', x, y, e1, f1, (drawn_keep2 rfl).trans e4, (drawn_keep2 rfl).trans f4, its_drawn e5 q, its_drawn f5 q⟩
  unfold maxLen at h2
  clear h3 h3' hRS
  go_enter Tryd.func8, Tryd.ntmps8
  go_wp2
  go_loopw [17] (fun i wr => ∃ k q : Nat, k ≤ m ∧ i = .int .i64 k ∧ wr = w.drewN q) (fun i _ => m - (intOf i).toNat)
  case atStart => exact ⟨0, 0, Nat.zero_le _, rfl, rfl⟩
  case round =>
    obtain ⟨k, q, hk, rfl, hwr⟩ := hrel
    by_cases hlt : k < m
    · obtain ⟨b, off, b', off', x, y, rfl, rfl, e1, e2, hx, hy⟩ := HQ.out k q hlt
      rw [← hwr] at e1 e2 hx hy
      have HW : Hid (wr = w.drewN q) := hwr
      have C1 : Hid (Calls Tryd.prog 23 #[x, y] wr fun e w' => e = .returned (.bool true) ∧ ∃ q, w' = wr.drewN q) := same1_is x y _ _ wr hx hy
      obtain ⟨xa, xc, rfl, _⟩ := hx
      obtain ⟨ya, yc, rfl, _⟩ := hy
      have hki : (k : Int) < (m : Int) := by omega
      clear hwr
      go_wp2_with (go_at_call 23; refine C1.out.mono ?_; rintro e w1 ⟨rfl, q1, hw1⟩; have HW1 : Hid (w1 = wr.drewN q1) := hw1; clear hw1)
      go_roundw
      case rel => exact ⟨k + 1, _, by omega, by go_num, by rw [HW1.out, HW.out, World.drewN_drewN]⟩
      case measure => simp [intOf]; omega
    · have HW : Hid (wr = w.drewN q) := hwr
      clear hwr
      go_wp2
      go_ret
      exact ⟨rfl, q, HW.out⟩
end Go.Proofs.YtdedenggbbppeaaDoor
