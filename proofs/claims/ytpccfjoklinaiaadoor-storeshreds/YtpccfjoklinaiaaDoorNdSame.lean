/-
  CONTRACT of the law's own sameNodes, at two lists of the same nodes.
-/
import Derived.Test.YtpccfjoklinaiaaDoorNdAt
import Derived.Deep.QuietTactic
import Derived.BigQuiet
set_option linter.unusedVariables false
namespace Go.Proofs.YtpccfjoklinaiaaDoor
open Go.RowKit

theorem below_drawn {B : Nat} {a w : World} (h : Below B a w) : ∀ q, Below B a (w.drewN q)
  | 0 => h
  | q + 1 => (below_drawn h q).drew
set_option maxHeartbeats 800000 in
theorem same_some (b off cap b' off' cap' n : Nat) (E : Nat → Nd) (w : World) (hm : n ≤ maxLen) (hc : n ≤ cap) (hc' : n ≤ cap') (hb : b < w.heap.size) (hb' : b' < w.heap.size) (hE : NdsAt w b off n E) (hE' : NdsAt w b' off' n E) :
    Calls Tryd.prog 10 #[.slice (some ⟨b, off, none⟩) n cap, .slice (some ⟨b', off', none⟩) n cap'] w fun e w' => e = .returned (.bool true) ∧ Below w.heap.size w w' := by
  have HE : Hid (NdsAt w b off n E) := hE
  have HE' : Hid (NdsAt w b' off' n E) := hE'
  unfold maxLen at hm
  clear hE hE'
  go_enter Tryd.func10, Tryd.ntmps10
  go_wp2
  go_loopw [5] (fun q wr => ∃ k : Nat, k ≤ n ∧ q = .int .i64 k ∧ Below w.heap.size w wr) (fun q _ => n - (intOf q).toNat)
  case atStart => exact ⟨0, Nat.zero_le _, rfl, Below.refl _ _⟩
  case round =>
    obtain ⟨k, hk, rfl, hbr⟩ := hrel
    have HBR : Hid (Below w.heap.size w wr) := hbr
    by_cases hlt : k < n
    · obtain ⟨e1, e2, e3, e4, e5, e6⟩ := HE.out.below hbr hb k hlt
      obtain ⟨f1, f2, f3, f4, f5, f6⟩ := HE'.out.below hbr hb' k hlt
      have hki : (k : Int) < (n : Int) := by omega
      clear hbr
      go_wp2
      go_quiet (fail)
      go_wp2
      go_roundw
      case rel => exact ⟨k + 1, by omega, by go_num, below_drawn HBR.out _⟩
      case measure => simp [intOf]; omega
    · clear hbr
      go_wp2
      go_ret
      exact ⟨rfl, HBR.out⟩
set_option maxHeartbeats 400000 in
theorem same_zero (a a' : Option Addr) (cap cap' : Nat) (w : World) :
    Calls Tryd.prog 10 #[.slice a 0 cap, .slice a' 0 cap'] w fun e w' => e = .returned (.bool true) ∧ Below w.heap.size w w' := by
  go_enter Tryd.func10, Tryd.ntmps10
  go_wp2
  go_loop [5] (fun i => i = .int .i64 0) (fun _ => 0)
  case atStart => rfl
  case round =>
    subst hrel
    go_wp2
    go_ret
    exact ⟨rfl, Below.refl _ _⟩
theorem same_is (u v : Value) (n : Nat) (E : Nat → Nd) (w : World) (hu : NdsIs w u n E) (hv : NdsIs w v n E) :
    Calls Tryd.prog 10 #[u, v] w fun e w' => e = .returned (.bool true) ∧ Below w.heap.size w w' := by
  obtain ⟨a, cap, rfl, h1, h2, h3⟩ := hu
  obtain ⟨a', cap', rfl, h1', h2', h3'⟩ := hv
  rcases Nat.eq_zero_or_pos n with hz | hz
  · subst hz
    exact same_zero a a' cap cap' w
  · obtain ⟨b, off, rfl, h4, h5⟩ := h3 hz
    obtain ⟨b', off', rfl, h4', h5'⟩ := h3' hz
    exact same_some b off cap b' off' cap' n E w (Nat.le_trans h1 h2) h1 h1' h4 h4' h5 h5'
end Go.Proofs.YtpccfjoklinaiaaDoor
