/-
  CONTRACTS: a column's place (rel.column, and the document's colAt).
-/
import Derived.Test.YtmoeipdchapodaaGreatDoorRlBase
set_option linter.unusedVariables false
namespace Go.Proofs.YtmoeipdchapodaaGreatDoor
set_option maxRecDepth 100000
open Go.RowKit

/-- the place of a column, or -1 -/
def colI (C : Nat → ByteArray) (n : Nat) (s : ByteArray) : Int := Lib.idxOfS ((List.range n).map C) s
theorem colI_hit {C : Nat → ByteArray} {n k : Nat} {s : ByteArray} (hk : k < n) (h : ((C k).toList == s.toList) = true) (h0 : ∀ j, j < k → ((C j).toList == s.toList) = false) : colI C n s = k := by
  have := Lib.idxOfS_hit ((List.range n).map C) n k s hk (by simp) (by simp [List.getD, hk]; exact (Lib.bytes_beq_iff _ _).1 h) (fun j hj e => by
    have e' : C j = s := by simpa [List.getD, show j < n by omega] using e
    have := h0 j hj
    rw [(Lib.bytes_beq_iff _ _).2 e'] at this
    exact absurd this (by decide))
  rwa [List.take_of_length_le (by simp)] at this
theorem colI_miss {C : Nat → ByteArray} {n : Nat} {s : ByteArray} (h0 : ∀ j, j < n → ((C j).toList == s.toList) = false) : colI C n s = -1 := by
  have := Lib.idxOfS_miss ((List.range n).map C) n s (fun j hj e => by
    have e' : C j = s := by simpa [List.getD, hj] using e
    have := h0 j hj
    rw [(Lib.bytes_beq_iff _ _).2 e'] at this
    exact absurd this (by decide))
  rwa [List.take_of_length_le (by simp)] at this
theorem colI_cases (C : Nat → ByteArray) (n : Nat) (s : ByteArray) : colI C n s = -1 ∨ ∃ k, k < n ∧ colI C n s = (k : Int) := by
  by_cases h : ∃ k, k < n ∧ ((C k).toList == s.toList) = true ∧ ∀ j, j < k → ((C j).toList == s.toList) = false
  · obtain ⟨k, h1, h2, h3⟩ := h
    exact .inr ⟨k, h1, colI_hit h1 h2 h3⟩
  · refine .inl (colI_miss ?_)
    intro j
    induction j using Nat.strongRecOn with
    | _ j ih =>
      intro hj
      cases e : ((C j).toList == s.toList)
      · rfl
      · exact absurd ⟨j, hj, e, fun i hi => ih i hi (by omega)⟩ h
/-- what is told of a column -/
def colF (C : Nat → ByteArray) (n : Nat) (s : ByteArray) : Int := if colI C n s < 0 then 9 else 0
def colV (C : Nat → ByteArray) (n : Nat) (s : ByteArray) : Int := if colI C n s < 0 then 0 else colI C n s
theorem index_is (v : Value) (n : Nat) (C : Nat → ByteArray) (s : ByteArray) (w : World) (hv : StrsIs w v n C) :
    Calls Tryz.prog 83 #[v, .string s] w fun e w' => e = .returned (.int .i64 (colI C n s)) ∧ w' = w := by
  obtain ⟨a, cap, rfl, h1, h2, _, h3⟩ := hv
  rcases Nat.eq_zero_or_pos n with hz | hz
  · subst hz
    exact Tryz.slices_Index_string_empty a cap s w
  · obtain ⟨b, off, rfl, _, h5⟩ := h3 hz
    have := Tryz.slices_Index_string b off n cap ((List.range n).map C) s w (by simp) (by unfold maxLen at h2; omega) (strs_list h5)
    rwa [List.take_of_length_le (by simp)] at this
set_option maxHeartbeats 400000 in
theorem column_is (v : Value) (n : Nat) (C : Nat → ByteArray) (s : ByteArray) (w : World) (hv : StrsIs w v n C) :
    Calls Tryz.prog 147 #[v, .string s] w fun e w' => e = .returned (.tuple #[.int .i64 (colV C n s), .int .i64 (colF C n s)]) ∧ w' = w := by
  have CI : Hid (Calls Tryz.prog 83 #[v, .string s] w fun e w' => e = .returned (.int .i64 (colI C n s)) ∧ w' = w) := index_is v n C s w hv
  obtain ⟨a, cap, rfl, _⟩ := hv
  rcases colI_cases C n s with h | ⟨k, hk, h⟩
  · have HF : Hid (colF C n s = 9 ∧ colV C n s = 0) := by
      have e : colF C n s = 9 ∧ colV C n s = 0 := by unfold colF colV; rw [h]; exact ⟨rfl, rfl⟩
      exact e
    rw [h] at CI
    clear h
    go_enter Tryz.func147, Tryz.ntmps147
    go_wp2_with (first | (go_at_call 83; refine CI.out.mono ?_; rintro e w1 ⟨rfl, rfl⟩))
    exact bodyPost_ret (v := .tuple #[.int .i64 0, .int .i64 9]) (by simp [results, Tryz.results147, go_sem]) rfl ⟨by rw [HF.out.1, HF.out.2], rfl⟩
  · have HF : Hid (colF C n s = 0 ∧ colV C n s = (k : Int)) := by
      have e : colF C n s = 0 ∧ colV C n s = (k : Int) := by unfold colF colV; rw [h, if_neg (by omega), if_neg (by omega)]; exact ⟨rfl, rfl⟩
      exact e
    have hk0 : ¬ ((k : Int) < 0) := by omega
    rw [h] at CI
    clear h hk
    go_enter Tryz.func147, Tryz.ntmps147
    go_wp2_with (first | (go_at_call 83; refine CI.out.mono ?_; rintro e w1 ⟨rfl, rfl⟩))
    exact bodyPost_ret (v := .tuple #[.int .i64 k, .int .i64 0]) (by simp [results, Tryz.results147, go_sem]) rfl ⟨by rw [HF.out.1, HF.out.2], rfl⟩
end Go.Proofs.YtmoeipdchapodaaGreatDoor
