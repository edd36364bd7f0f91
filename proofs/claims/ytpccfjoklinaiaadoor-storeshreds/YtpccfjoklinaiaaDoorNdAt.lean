/-
  CONTRACTS of store.checkAt, store.holds, store.within, and of the document's answer nodeFault.
-/
import Derived.Test.YtpccfjoklinaiaaDoorNdOpen
set_option linter.unusedVariables false
namespace Go.Proofs.YtpccfjoklinaiaaDoor
open Go.RowKit

/-- what is said of nodes and a place among them -/
def atF (E : Nat → Nd) (n : Nat) (i : Int) : Int := if nodesF E n = 0 then (if 0 ≤ i ∧ i < n then 0 else 6) else nodesF E n
theorem atF_zero {E : Nat → Nd} {n : Nat} {i : Int} (h : atF E n i = 0) : nodesF E n = 0 ∧ ∃ m : Nat, i = m ∧ m < n := by
  unfold atF at h
  by_cases h0 : nodesF E n = 0
  · rw [if_pos h0] at h
    by_cases hi : 0 ≤ i ∧ i < n
    · exact ⟨h0, i.toNat, by omega, by omega⟩
    · rw [if_neg hi] at h; cases h
  · rw [if_neg h0] at h; exact absurd h h0
theorem NdsAt.from {w : World} {b off n : Nat} {E : Nat → Nd} (h : NdsAt w b off n E) (j m : Nat) (hj : j + m ≤ n) : NdsAt w b (off + j * 6) m (fun r => E (j + r)) := by
  intro i hi
  have := h (j + i) (by omega)
  rw [show off + (j + i) * 6 = off + j * 6 + i * 6 by omega] at this
  exact this

set_option maxHeartbeats 400000 in
theorem checkAt_is (v : Value) (n : Nat) (i : Int) (E : Nat → Nd) (w : World) (hv : NdsIs w v n E) (hT : Tabs w) (hf : NdsFine n E) :
    Calls Tryd.prog 28 #[v, .int .i64 i] w fun e w' => e = .returned (.int .i64 (atF E n i)) ∧ Below w.heap.size w w' := by
  have CC : Hid (Calls Tryd.prog 11 #[v] w fun e w' => e = .returned (.int .i64 (nodesF E n)) ∧ Below w.heap.size w w') := storeCheck_is v n E w hv hT hf
  obtain ⟨a, cap, rfl, h1, h2, _⟩ := hv
  unfold maxLen at h2
  by_cases h0 : nodesF E n = 0
  · rw [h0] at CC
    by_cases hi : 0 ≤ i
    · by_cases hi2 : i < n
      · have HR : Hid (atF E n i = 0) := by
          have e : atF E n i = 0 := by unfold atF; rw [if_pos h0, if_pos ⟨hi, hi2⟩]
          exact e
        clear h0
        go_enter Tryd.func28, Tryd.ntmps28
        go_wp2_with (first | (go_at_call 11; refine CC.out.mono ?_; rintro e w1 ⟨rfl, hb1⟩))
        go_ret
        exact ⟨ret_int HR.out.symm, hb1⟩
      · have HR : Hid (atF E n i = 6) := by
          have e : atF E n i = 6 := by unfold atF; rw [if_pos h0, if_neg (fun h => hi2 h.2)]
          exact e
        clear h0
        go_enter Tryd.func28, Tryd.ntmps28
        go_wp2_with (first | (go_at_call 11; refine CC.out.mono ?_; rintro e w1 ⟨rfl, hb1⟩))
        go_ret
        exact ⟨ret_int HR.out.symm, hb1⟩
    · have HR : Hid (atF E n i = 6) := by
        have e : atF E n i = 6 := by unfold atF; rw [if_pos h0, if_neg (fun h => hi h.1)]
        exact e
      have hi' : i < 0 := by omega
      clear h0 hi
      go_enter Tryd.func28, Tryd.ntmps28
      go_wp2_with (first | (go_at_call 11; refine CC.out.mono ?_; rintro e w1 ⟨rfl, hb1⟩))
      go_ret
      exact ⟨ret_int HR.out.symm, hb1⟩
  · have HR : Hid (atF E n i = nodesF E n) := by
      have e : atF E n i = nodesF E n := by unfold atF; rw [if_neg h0]
      exact e
    have hne : (nodesF E n != 0) = true := by simpa using h0
    clear h0
    go_enter Tryd.func28, Tryd.ntmps28
    go_wp2_with (first | (go_at_call 11; refine CC.out.mono ?_; rintro e w1 ⟨rfl, hb1⟩))
    go_ret
    exact ⟨ret_int HR.out.symm, hb1⟩

set_option maxHeartbeats 400000 in
theorem nodeFault_is (v : Value) (n : Nat) (i : Int) (E : Nat → Nd) (w : World) (hv : NdsIs w v n E) (hT : Tabs w) (hf : NdsFine n E) :
    Calls Tryd.prog 32 #[v, .int .i64 i] w fun e w' => e = .returned (.int .i64 (atF E n i)) ∧ Below w.heap.size w w' := by
  have CC : Hid (Calls Tryd.prog 13 #[v] w fun e w' => e = .returned (.int .i64 (nodesF E n)) ∧ Below w.heap.size w w') := nodesFault_is v n E w hv hT hf
  obtain ⟨a, cap, rfl, h1, h2, _⟩ := hv
  unfold maxLen at h2
  by_cases h0 : nodesF E n = 0
  · rw [h0] at CC
    cases hI : inB i 0 ((n : Int) - 1)
    · have HR : Hid (atF E n i = 6) := by
        have e : atF E n i = 6 := by
          have h := of_decide_eq_false hI
          unfold atF; rw [if_pos h0, if_neg (by omega)]
        exact e
      clear h0
      go_enter Tryd.func32, Tryd.ntmps32
      go_wp2_with (first | (go_at_call 13; refine CC.out.mono ?_; rintro e w1 ⟨rfl, hb1⟩) | (go_at_call 27; refine (in_any _ _ _ _).mono ?_; rintro e w2 ⟨rfl, rfl⟩))
      go_ret
      exact ⟨ret_int HR.out.symm, hb1⟩
    · have HR : Hid (atF E n i = 0) := by
        have e : atF E n i = 0 := by
          have h := of_decide_eq_true hI
          unfold atF; rw [if_pos h0, if_pos (by omega)]
        exact e
      clear h0
      go_enter Tryd.func32, Tryd.ntmps32
      go_wp2_with (first | (go_at_call 13; refine CC.out.mono ?_; rintro e w1 ⟨rfl, hb1⟩) | (go_at_call 27; refine (in_any _ _ _ _).mono ?_; rintro e w2 ⟨rfl, rfl⟩))
      go_ret
      exact ⟨ret_int HR.out.symm, hb1⟩
  · have HR : Hid (atF E n i = nodesF E n) := by
      have e : atF E n i = nodesF E n := by unfold atF; rw [if_neg h0]
      exact e
    have hne : (nodesF E n == 0) = false := by simpa using h0
    clear h0
    go_enter Tryd.func32, Tryd.ntmps32
    go_wp2_with (first | (go_at_call 13; refine CC.out.mono ?_; rintro e w1 ⟨rfl, hb1⟩))
    go_ret
    exact ⟨ret_int HR.out.symm, hb1⟩

def holdsB (k : Int) : Bool := decide (k = 1 ∨ k = 6)
set_option maxHeartbeats 400000 in
theorem holds_any (k : Int) (n v : ByteArray) (s l p : Int) (w : World) :
    Calls Tryd.prog 29 #[.agg #[.int .i64 k, .string n, .string v, .int .i64 s, .int .i64 l, .int .i64 p]] w fun e w' => e = .returned (.bool (holdsB k)) ∧ Below w.heap.size w w' := by
  go_enter Tryd.func29, Tryd.ntmps29
  go_wp2
  all_goals
    go_ret
    refine ⟨ret_bool ?_, (Below.refl _ _).alloc (Nat.le_refl _) _⟩
    rw [Bool.eq_iff_iff]
    simp_all [holdsB]

set_option maxHeartbeats 400000 in
theorem within_any (b off n cap i z : Nat) (E : Nat → Nd) (w : World) (hn : n ≤ 100000) (hcap : n ≤ cap) (hm : cap ≤ maxLen) (hi : i < n) (hE : NdsAt w b off n E) (hz : (E i).size = (z : Int)) (hzn : i + 1 + z ≤ n) :
    Calls Tryd.prog 30 #[.slice (some ⟨b, off, none⟩) n cap, .int .i64 i] w fun e w' => ∃ o c, e = .returned (.slice (some ⟨b, o, none⟩) z c) ∧ z ≤ c ∧ c ≤ maxLen ∧ NdsAt w' b o z (fun r => E (i + 1 + r)) ∧ w' = w := by
  have HS : Hid (NdsAt w b (off + (i + 1) * 6) z (fun r => E (i + 1 + r))) := hE.from (i + 1) z hzn
  obtain ⟨_, _, _, e4, _, _⟩ := hE i hi
  rw [hz] at e4
  unfold maxLen at hm
  clear hE hz
  go_enter Tryd.func30, Tryd.ntmps30
  go_wp2
  · go_ret
    exact ⟨_, _, rfl, by omega, by unfold maxLen; omega, fun r hr => by omega, rfl⟩
  · go_ret
    exact ⟨_, _, rfl, by omega, by unfold maxLen; omega, HS.out, rfl⟩
end Go.Proofs.YtpccfjoklinaiaaDoor
