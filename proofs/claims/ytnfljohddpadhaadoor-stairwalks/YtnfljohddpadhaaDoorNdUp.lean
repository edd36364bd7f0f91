/-
  CONTRACT of store.around: the place of the node that a place is within.
-/
import Derived.Test.YtnfljohddpadhaaDoorRows
import Derived.Test.YtnfljohddpadhaaDoorNd
import Derived.WalkKit
import Derived.WalkSpells
import Derived.WalkLawsBesides
import Derived.Outline
set_option linter.unusedVariables false
namespace Go.Proofs.YtnfljohddpadhaaDoor
open Go.RowKit

set_option maxHeartbeats 800000 in
theorem around_any (b off n cap i : Nat) (E : Nat → Nd) (w : World) (hn : n ≤ 100000) (hcap : n ≤ cap) (hi : i < n) (hE : NdsAt w b off n E) (hf : fitTo E n i) :
    Calls Tryd.prog 49 #[.slice (some ⟨b, off, none⟩) n cap, .int .i64 i] w fun e w' => e = .returned (.int .i64 (upI E i)) ∧ w' = w := by
  have HE : Hid (NdsAt w b off n E) := hE
  have HFT : Hid (fitTo E n i) := hf
  clear hE hf
  go_enter Tryd.func49, Tryd.ntmps49
  go_wp2
  go_loop [5] (fun p => ∃ q : Nat, q ≤ i ∧ p = .int .i64 ((q : Int) - 1) ∧ upW E i q = upW E i i) (fun p => (intOf p + 1).toNat)
  case atStart => exact ⟨i, Nat.le_refl _, by go_num, rfl⟩
  case round =>
    obtain ⟨q, hq, rfl, hu⟩ := hrel
    have HU : Hid (upW E i q = upW E i i) := hu
    clear hu
    cases q with
    | zero =>
      have HZ : Hid (upI E i = -1) := by
        have e : upI E i = -1 := by unfold upI; rw [← HU.out, upW_zero]; rfl
        exact e
      rw [show ((0 : Nat) : Int) - 1 = -1 from rfl]
      go_wp2
      go_ret
      exact ⟨ret_int HZ.out.symm, rfl⟩
    | succ p =>
      rw [show ((p + 1 : Nat) : Int) - 1 = (p : Int) by omega]
      obtain ⟨e1, e2, e3, e4, e5, e6⟩ := HE.out p (by omega)
      have hfp := HFT.out p (by omega)
      obtain ⟨_, s1, s2, _⟩ := fit_parts hfp
      obtain ⟨r, hr, hpar, _⟩ := fit_parent hfp
      have hpn : p < n := by omega
      clear hfp
      by_cases hlt : (p : Int) + (E p).size < i
      · have HG : Hid (upW E i r = upW E i i) := by
          have e : upW E i r = upW E i i := by rw [← HU.out, upW_go hlt hpar hr]
          exact e
        rw [hpar] at e6
        generalize (E p).size = z at *
        clear hpar e1 e2 e3 e5 HU
        go_wp2
        go_round
        case rel => exact ⟨r, by omega, rfl, HG.out⟩
        case measure => simp [intOf]; omega
      · have HZ : Hid (upI E i = p) := by
          have e : upI E i = p := by unfold upI; rw [← HU.out, upW_stay hlt]; omega
          exact e
        generalize (E p).size = z at *
        clear hpar e1 e2 e3 e5 e6 HU
        go_wp2
        go_ret
        exact ⟨ret_int HZ.out.symm, rfl⟩
end Go.Proofs.YtnfljohddpadhaaDoor
