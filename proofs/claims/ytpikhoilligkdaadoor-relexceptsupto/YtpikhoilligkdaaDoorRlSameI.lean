/-
  CONTRACT of the document's sameItems.
-/
import Derived.Test.YtpikhoilligkdaaDoorRlSame
import Derived.Deep.QuietTactic
import Derived.BigQuiet
set_option linter.unusedVariables false
namespace Go.Proofs.YtpikhoilligkdaaDoor
set_option maxRecDepth 100000
open Go.RowKit Go.WideShapes

/-- are two items the same? -/
def itB (x y : It) : Bool := x.kind == y.kind && (x.n == y.n && x.s.toList == y.s.toList)
theorem itB_iff {x y : It} : itB x y = true ↔ x = y := by
  unfold itB
  simp only [Bool.and_eq_true, beq_iff_eq]
  constructor
  · rintro ⟨h1, h2, h3⟩
    cases x
    cases y
    simp only at h1 h2 h3
    rw [h1, h2, (Lib.bytes_beq_iff _ _).1 (beq_iff_eq.2 h3)]
  · rintro rfl
    exact ⟨rfl, rfl, rfl⟩
theorem itB_no {x y : It} (h : itB x y = false) : ¬ x.kind = y.kind ∨ (x.kind = y.kind ∧ ¬ x.n = y.n) ∨ (x.kind = y.kind ∧ x.n = y.n ∧ (x.s.toList == y.s.toList) = false) := by
  by_cases h1 : x.kind = y.kind
  · by_cases h2 : x.n = y.n
    · refine .inr (.inr ⟨h1, h2, ?_⟩)
      unfold itB at h
      rwa [h1, h2, beq_self_eq_true, beq_self_eq_true, Bool.true_and, Bool.true_and] at h
    · exact .inr (.inl ⟨h1, h2⟩)
  · exact .inl h1
/-- are two rows of items the same? -/
def sameB (X Y : Nat → It) (n : Nat) : Bool := (List.range n).all fun i => itB (X i) (Y i)
theorem sameB_iff {X Y : Nat → It} {n : Nat} : sameB X Y n = true ↔ ∀ i, i < n → X i = Y i := by
  unfold sameB
  rw [List.all_eq_true]
  exact ⟨fun h i hi => itB_iff.1 (h i (List.mem_range.2 hi)), fun h i hi => itB_iff.2 (h i (List.mem_range.1 hi))⟩
theorem sameB_no {X Y : Nat → It} {n k : Nat} (hk : k < n) (h : itB (X k) (Y k) = false) : sameB X Y n = false := by
  unfold sameB
  rw [List.all_eq_false]
  exact ⟨k, List.mem_range.2 hk, by simp [h]⟩
set_option maxHeartbeats 1600000 in
theorem refSame_some (b off cap b' off' cap' n : Nat) (X Y : Nat → It) (w : World) (hm : n ≤ maxLen) (hc : n ≤ cap) (hc' : n ≤ cap') (hE : ItsAt w b off n X) (hE' : ItsAt w b' off' n Y) :
    Calls Tryd.prog 18 #[.slice (some ⟨b, off, none⟩) n cap, .slice (some ⟨b', off', none⟩) n cap'] w fun e w' => e = .returned (.bool (sameB X Y n)) ∧ ∃ q, w' = w.drewN q := by
  have HE : Hid (ItsAt w b off n X) := hE
  have HE' : Hid (ItsAt w b' off' n Y) := hE'
  unfold maxLen at hm
  clear hE hE'
  go_enter Tryd.func18, Tryd.ntmps18
  go_wp2
  go_loopw [5] (fun i wr => ∃ k q : Nat, k ≤ n ∧ i = .int .i64 k ∧ wr = w.drewN q ∧ ∀ j, j < k → X j = Y j) (fun i _ => n - (intOf i).toNat)
  case atStart => exact ⟨0, 0, Nat.zero_le _, rfl, rfl, fun j hj => by omega⟩
  case round =>
    obtain ⟨k, q, hk, rfl, hwr, hok⟩ := hrel
    have HW : Hid (wr = w.drewN q) := hwr
    have HOK : Hid (∀ j, j < k → X j = Y j) := hok
    clear hok
    by_cases hlt : k < n
    · have e1 := (drawn_keep (b := b) (o := off + k * 3) hwr).trans (HE.out k hlt).1
      have e2 := (drawn_keep (b := b) (o := off + k * 3 + 1) hwr).trans (HE.out k hlt).2.1
      have e3 := (drawn_keep (b := b) (o := off + k * 3 + 2) hwr).trans (HE.out k hlt).2.2
      have f1 := (drawn_keep (b := b') (o := off' + k * 3) hwr).trans (HE'.out k hlt).1
      have f2 := (drawn_keep (b := b') (o := off' + k * 3 + 1) hwr).trans (HE'.out k hlt).2.1
      have f3 := (drawn_keep (b := b') (o := off' + k * 3 + 2) hwr).trans (HE'.out k hlt).2.2
      have hki : (k : Int) < (n : Int) := by omega
      clear hwr
      cases hs : itB (X k) (Y k)
      · have HF : Hid (sameB X Y n = false) := sameB_no hlt hs
        have hx := itB_no hs
        generalize (X k).kind = xk at *
        generalize (X k).n = xn at *
        generalize (X k).s = xs at *
        generalize (Y k).kind = yk at *
        generalize (Y k).n = yn at *
        generalize (Y k).s = ys at *
        clear hs
        rcases hx with h1 | ⟨h1, h2⟩ | ⟨h1, h2, h3⟩
        · have h1' : (xk == yk) = false := by simpa using h1
          clear h1
          go_wp2
          go_quiet (fail)
          go_wp2
          go_ret
          exact ⟨ret_bool (by simp [HF.out]), _, by rw [HW.out, World.drewN_drewN]⟩
        · subst h1
          have h2' : (xn == yn) = false := by simpa using h2
          clear h2
          go_wp2
          go_quiet (fail)
          go_wp2
          go_ret
          exact ⟨ret_bool (by simp [HF.out]), _, by rw [HW.out, World.drewN_drewN]⟩
        · subst h1
          subst h2
          go_wp2
          go_quiet (fail)
          go_wp2
          go_ret
          exact ⟨ret_bool (by simp [HF.out]), _, by rw [HW.out, World.drewN_drewN]⟩
      · have hx := itB_iff.1 hs
        have HX : Hid (X k = Y k) := hx
        rw [← hx] at f1 f2 f3
        clear hx hs
        go_wp2
        go_quiet (fail)
        go_wp2
        go_roundw
        case rel => exact ⟨k + 1, _, by omega, by go_num, by rw [HW.out, World.drewN_drewN], fun j hj => by
          by_cases e : j = k
          · rw [e]; exact HX.out
          · exact HOK.out j (by omega)⟩
        case measure => simp [intOf]; omega
    · clear hwr
      have e : k = n := by omega
      subst e
      have HF : Hid (sameB X Y k = true) := sameB_iff.2 HOK.out
      go_wp2
      go_ret
      exact ⟨ret_bool (by simp [HF.out]), q, HW.out⟩
set_option maxHeartbeats 400000 in
theorem refSame_zero (a a' : Option Addr) (cap cap' : Nat) (w : World) :
    Calls Tryd.prog 18 #[.slice a 0 cap, .slice a' 0 cap'] w fun e w' => e = .returned (.bool true) ∧ ∃ q, w' = w.drewN q := by
  go_enter Tryd.func18, Tryd.ntmps18
  go_wp2
  go_loop [5] (fun i => i = .int .i64 0) (fun _ => 0)
  case atStart => rfl
  case round =>
    subst hrel
    go_wp2
    go_ret
    exact ⟨rfl, 0, rfl⟩
theorem refSame_is (u v : Value) (n : Nat) (X Y : Nat → It) (w : World) (hu : ItsIs w u n X) (hv : ItsIs w v n Y) :
    Calls Tryd.prog 18 #[u, v] w fun e w' => e = .returned (.bool (sameB X Y n)) ∧ Below w.heap.size w w' := by
  have h : Calls Tryd.prog 18 #[u, v] w fun e w' => e = .returned (.bool (sameB X Y n)) ∧ ∃ q, w' = w.drewN q := by
    obtain ⟨a, cap, rfl, h1, h2, _, h3⟩ := hu
    obtain ⟨a', cap', rfl, h1', h2', _, h3'⟩ := hv
    rcases Nat.eq_zero_or_pos n with hz | hz
    · subst hz
      exact refSame_zero a a' cap cap' w
    · obtain ⟨b, off, rfl, h4, h5⟩ := h3 hz
      obtain ⟨b', off', rfl, h4', h5'⟩ := h3' hz
      exact refSame_some b off cap b' off' cap' n X Y w (Nat.le_trans h1 h2) h1 h1' h5 h5'
  refine h.mono ?_
  rintro e w' ⟨rfl, q, rfl⟩
  exact ⟨rfl, below_drawn (Below.refl _ _) _⟩
end Go.Proofs.YtpikhoilligkdaaDoor
