/-
  CONTRACT of store.Check.
-/
import Derived.Test.YtnfljohddpadhaaDoorNdKind
import Derived.Test.YtnfljohddpadhaaDoorNdPlace
set_option linter.unusedVariables false
namespace Go.Proofs.YtnfljohddpadhaaDoor
open Go.RowKit

set_option maxHeartbeats 800000 in
theorem storeCheck_some (b off n cap : Nat) (E : Nat → Nd) (w : World) (hn : n ≤ 100000) (hcap : n ≤ cap) (hT : Tabs w) (hb0 : b < w.heap.size) (hE : NdsAt w b off n E)
    (hsz : ∀ i, i < n → (E i).name.size ≤ Go.maxLen ∧ (E i).value.size ≤ Go.maxLen) :
    Calls Tryd.prog 14 #[.slice (some ⟨b, off, none⟩) n cap] w fun e w' => e = .returned (.int .i64 (nodesF E n)) ∧ Below w.heap.size w w' := by
  have HE : Hid (NdsAt w b off n E) := hE
  have HS : Hid (∀ i, i < n → (E i).name.size ≤ Go.maxLen ∧ (E i).value.size ≤ Go.maxLen) := hsz
  have HV : Hid (Tabs w) := hT
  clear hE hsz hT
  go_enter Tryd.func14, Tryd.ntmps14
  go_wp2
  go_loopw [10] (fun i wr => ∃ k : Nat, k ≤ n ∧ i = .int .i64 k ∧ fitTo E n k ∧ Below w.heap.size w wr) (fun i _ => n - (intOf i).toNat)
  case atStart => exact ⟨0, Nat.zero_le _, rfl, fitTo_zero E n, Below.refl _ _⟩
  case round =>
    obtain ⟨k, hk, rfl, hok, hbr⟩ := hrel
    by_cases hlt : k < n
    · obtain ⟨e1, e2, e3, e4, e5, e6⟩ := HE.out.below hbr hb0 k hlt
      have HOK : Hid (fitTo E n k) := hok
      have HBR : Hid (Below w.heap.size w wr) := hbr
      have CK : Hid (∀ o, Calls Tryd.prog 21 #[.agg #[.int .i64 (E k).kind, .string (E k).name, .string (E k).value, .int .i64 (E k).size, .int .i64 (E k).level, .int .i64 (E k).parent]] (wr.alloc o) fun e w' => e = .returned (.bool (kindB (E k))) ∧ Below (wr.alloc o).heap.size (wr.alloc o) w') :=
        fun o => fitsKind_any (E k).kind (E k).name (E k).value (E k).size (E k).level (E k).parent _ (HS.out k hlt).1 (HS.out k hlt).2 (Utf8Tabs_below HV.out (hbr.alloc hbr.size _))
      have CP : Hid (∀ W, Below w.heap.size w W → Calls Tryd.prog 22 #[.slice (some ⟨b, off, none⟩) n cap, .int .i64 k] W fun e w' => e = .returned (.bool (placeB E n k)) ∧ Below W.heap.size W w') :=
        fun W hW => fitsPlace_any b off n cap k E W hn hcap hlt (Nat.lt_of_lt_of_le hb0 hW.size) (HE.out.below hW hb0) hok
      have HX : Hid (∀ o w1, Below (wr.alloc o).heap.size (wr.alloc o) w1 → Below w.heap.size w w1) := fun o w1 h => (hbr.alloc hbr.size _).trans (h.mono (by have := hbr.size; simp; omega))
      have HFB : Hid (fitB E n k = (kindB (E k) && placeB E n k)) := rfl
      clear hok hbr
      generalize kindB (E k) = A at *
      generalize placeB E n k = B at *
      cases A
      · have HR : Hid (nodesF E n = 4) := nodesF_no (by omega) hlt HFB.out
        go_wp2_with (first | (go_at_call 21; refine (CK.out _).mono ?_; rintro e w1 ⟨rfl, hb1⟩))
        go_ret
        exact ⟨ret_int HR.out.symm, HX.out _ _ hb1⟩
      · cases B
        · have HR : Hid (nodesF E n = 4) := nodesF_no (by omega) hlt HFB.out
          go_wp2_with (first | (go_at_call 21; refine (CK.out _).mono ?_; rintro e w1 ⟨rfl, hb1⟩) | (go_at_call 22; refine (CP.out _ (HX.out _ _ hb1)).mono ?_; rintro e w2 ⟨rfl, hb2⟩))
          go_ret
          exact ⟨ret_int HR.out.symm, (HX.out _ _ hb1).trans (hb2.mono (HX.out _ _ hb1).size)⟩
        · have HO1 : Hid (fitTo E n (k + 1)) := fitTo_succ HOK.out HFB.out
          go_wp2_with (first | (go_at_call 21; refine (CK.out _).mono ?_; rintro e w1 ⟨rfl, hb1⟩) | (go_at_call 22; refine (CP.out _ (HX.out _ _ hb1)).mono ?_; rintro e w2 ⟨rfl, hb2⟩))
          go_roundw
          case rel => exact ⟨k + 1, by omega, by go_num, HO1.out, (HX.out _ _ hb1).trans (hb2.mono (HX.out _ _ hb1).size)⟩
          case measure => simp [intOf]; omega
    · have e : k = n := by omega
      subst e
      have HR : Hid (nodesF E k = 0) := nodesF_ok (by omega) hok
      have HBR : Hid (Below w.heap.size w wr) := hbr
      clear hok hbr
      go_wp2
      go_ret
      exact ⟨ret_int HR.out.symm, HBR.out⟩
set_option maxHeartbeats 400000 in
theorem storeCheck_big (a : Option Addr) (n cap : Nat) (w : World) (hn : 100000 < n) (hm : n ≤ maxLen) :
    Calls Tryd.prog 14 #[.slice a n cap] w fun e w' => e = .returned (.int .i64 1) ∧ Below w.heap.size w w' := by
  unfold maxLen at hm
  go_enter Tryd.func14, Tryd.ntmps14
  go_wp2
  go_ret
  exact ⟨rfl, Below.refl _ _⟩
set_option maxHeartbeats 400000 in
theorem storeCheck_zero (a : Option Addr) (cap : Nat) (w : World) :
    Calls Tryd.prog 14 #[.slice a 0 cap] w fun e w' => e = .returned (.int .i64 0) ∧ Below w.heap.size w w' := by
  go_enter Tryd.func14, Tryd.ntmps14
  go_wp2
  go_loop [10] (fun i => i = .int .i64 0) (fun _ => 0)
  case atStart => rfl
  case round =>
    subst hrel
    go_wp2
    go_ret
    exact ⟨rfl, Below.refl _ _⟩
theorem nodesF_zero (E : Nat → Nd) : nodesF E 0 = 0 := rfl
theorem storeCheck_any (b off n cap : Nat) (E : Nat → Nd) (w : World) (hcap : n ≤ cap) (hm : cap ≤ maxLen) (hT : Tabs w) (hb0 : b < w.heap.size) (hE : NdsAt w b off n E)
    (hsz : ∀ i, i < n → (E i).name.size ≤ Go.maxLen ∧ (E i).value.size ≤ Go.maxLen) :
    Calls Tryd.prog 14 #[.slice (some ⟨b, off, none⟩) n cap] w fun e w' => e = .returned (.int .i64 (nodesF E n)) ∧ Below w.heap.size w w' := by
  by_cases hn : 100000 < n
  · rw [nodesF_size hn]
    exact storeCheck_big _ n cap w hn (Nat.le_trans hcap hm)
  · exact storeCheck_some b off n cap E w (by omega) hcap hT hb0 hE hsz
end Go.Proofs.YtnfljohddpadhaaDoor
