/-
  CONTRACTS of store.checkAt, store.holds, store.within, and of the document's answer nodeFault.
-/
import Derived.Test.YtabnaeppcnfhhaaDoorNdOpen
set_option linter.unusedVariables false
namespace Go.Proofs.YtabnaeppcnfhhaaDoor
open Go.RowKit

/-- what is said of nodes and a place among them -/
def atF (E : Nat → Nd) (n : Nat) (i : Int) : Int := if nodesF E n = 0 then (if 0 ≤ i ∧ i < n then 0 else 6) else nodesF E n
theorem atF_zero {E : Nat → Nd} {n : Nat} {i : Int} (h : atF E n i = 0) : nodesF E n = 0 ∧ ∃ m : Nat, i = m ∧ m < n := by
  unfold atF at h
  by_cases h0 : nodesF E n = 0
  · rw [if_pos h0] at h
    by_cases hi : 0 ≤ i ∧ i < n
    · exact ⟨h0, i.toNat, by omega, by omega⟩
    · rw [if_neg hi] at h; cases h
  · rw [if_neg h0] at h; exact absurd h h0
theorem NdsAt.from {w : World} {b off n : Nat} {E : Nat → Nd} (h : NdsAt w b off n E) (j m : Nat) (hj : j + m ≤ n) : NdsAt w b (off + j * 6) m (fun r => E (j + r)) := by
  intro i hi
  have := h (j + i) (by omega)
  rw [show off + (j + i) * 6 = off + j * 6 + i * 6 by omega] at this
  exact this

set_option maxHeartbeats 400000 in
theorem checkAt_is (v : Value) (n : Nat) (i : Int) (E : Nat → Nd) (w : World) (hv : NdsIs w v n E) (hT : Tabs w) (hf : NdsFine n E) :
    Calls Tryd.prog 8 #[v, .int .i64 i] w fun e w' => e = .returned (.int .i64 (atF E n i)) ∧ Below w.heap.size w w' := by
  have CC : Hid (Calls Tryd.prog 11 #[v] w fun e w' => e = .returned (.int .i64 (nodesF E n)) ∧ Below w.heap.size w w') := storeCheck_is v n E w hv hT hf
  obtain ⟨a, cap, rfl, h1, h2, _⟩ := hv
  unfold maxLen at h2
  by_cases h0 : nodesF E n = 0
  · rw [h0] at CC
    by_cases hi : 0 ≤ i
    · by_cases hi2 : i < n
      · have HR : Hid (atF E n i = 0) := by
          have e : atF E n i = 0 := by unfold atF; rw [if_pos h0, if_pos ⟨hi, hi2⟩]
          exact e
        clear h0
        go_enter Tryd.func8, Tryd.ntmps8
        go_wp2_with (first | (go_at_call 11; refine CC.out.mono ?_; rintro e w1 ⟨rfl, hb1⟩))
        go_ret
        exact ⟨ret_int HR.out.symm, hb1⟩
      · have HR : Hid (atF E n i = 6) := by
          have e : atF E n i = 6 := by unfold atF; rw [if_pos h0, if_neg (fun h => hi2 h.2)]
          exact e
        clear h0
        go_enter Tryd.func8, Tryd.ntmps8
        go_wp2_with (first | (go_at_call 11; refine CC.out.mono ?_; rintro e w1 ⟨rfl, hb1⟩))
        go_ret
        exact ⟨ret_int HR.out.symm, hb1⟩
    · have HR : Hid (atF E n i = 6) := by
        have e : atF E n i = 6 := by unfold atF; rw [if_pos h0, if_neg (fun h => hi h.1)]
        exact e
      have hi' : i < 0 := by omega
      clear h0 hi
      go_enter Tryd.func8, Tryd.ntmps8
      go_wp2_with (first | (go_at_call 11; refine CC.out.mono ?_; rintro e w1 ⟨rfl, hb1⟩))
      go_ret
      exact ⟨ret_int HR.out.symm, hb1⟩
  · have HR : Hid (atF E n i = nodesF E n) := by
      have e : atF E n i = nodesF E n := by unfold atF; rw [if_neg h0]
      exact e
    have hne : (nodesF E n != 0) = true := by simpa using h0
    clear h0
    go_enter Tryd.func8, Tryd.ntmps8
    go_wp2_with (first | (go_at_call 11; refine CC.out.mono ?_; rintro e w1 ⟨rfl, hb1⟩))
    go_ret
    exact ⟨ret_int HR.out.symm, hb1⟩

set_option maxHeartbeats 400000 in
theorem nodeFault_is (v : Value) (n : Nat) (i : Int) (E : Nat → Nd) (w : World) (hv : NdsIs w v n E) (hT : Tabs w) (hf : NdsFine n E) :
    Calls Tryd.prog 9 #[v, .int .i64 i] w fun e w' => e = .returned (.int .i64 (atF E n i)) ∧ Below w.heap.size w w' := by
  have CC : Hid (Calls Tryd.prog 12 #[v] w fun e w' => e = .returned (.int .i64 (nodesF E n)) ∧ Below w.heap.size w w') := nodesFault_is v n E w hv hT hf
  obtain ⟨a, cap, rfl, h1, h2, _⟩ := hv
  unfold maxLen at h2
  by_cases h0 : nodesF E n = 0
  · rw [h0] at CC
    cases hI : inB i 0 ((n : Int) - 1)
    · have HR : Hid (atF E n i = 6) := by
        have e : atF E n i = 6 := by
          have h := of_decide_eq_false hI
          unfold atF; rw [if_pos h0, if_neg (by omega)]
        exact e
      clear h0
      go_enter Tryd.func9, Tryd.ntmps9
      go_wp2_with (first | (go_at_call 12; refine CC.out.mono ?_; rintro e w1 ⟨rfl, hb1⟩) | (go_at_call 13; refine (in_any _ _ _ _).mono ?_; rintro e w2 ⟨rfl, rfl⟩))
      go_ret
      exact ⟨ret_int HR.out.symm, hb1⟩
    · have HR : Hid (atF E n i = 0) := by
        have e : atF E n i = 0 := by
          have h := of_decide_eq_true hI
          unfold atF; rw [if_pos h0, if_pos (by omega)]
        exact e
      clear h0
      go_enter Tryd.func9, Tryd.ntmps9
      go_wp2_with (first | (go_at_call 12; refine CC.out.mono ?_; rintro e w1 ⟨rfl, hb1⟩) | (go_at_call 13; refine (in_any _ _ _ _).mono ?_; rintro e w2 ⟨rfl, rfl⟩))
      go_ret
      exact ⟨ret_int HR.out.symm, hb1⟩
  · have HR : Hid (atF E n i = nodesF E n) := by
      have e : atF E n i = nodesF E n := by unfold atF; rw [if_neg h0]
      exact e
    have hne : (nodesF E n == 0) = false := by simpa using h0
    clear h0
    go_enter Tryd.func9, Tryd.ntmps9
    go_wp2_with (first | (go_at_call 12; refine CC.out.mono ?_; rintro e w1 ⟨rfl, hb1⟩))
    go_ret
    exact ⟨ret_int HR.out.symm, hb1⟩

def holdsB (k : Int) : Bool := decide (k = 1 ∨ k = 6)
end Go.Proofs.YtabnaeppcnfhhaaDoor
