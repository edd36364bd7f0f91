/-
  CONTRACTS: relations (rel.Check, and the document's answers colsFault, RelFault).
-/
import Derived.Test.YtmoeipdchapodaaGreatDoorRlCheck
set_option linter.unusedVariables false
namespace Go.Proofs.YtmoeipdchapodaaGreatDoor
open Go.RowKit

/-- what was boxed is there -/
theorem box2 {w wr : World} {c q : Value} {T : TypeId} (h : Below (w.alloc (.cells #[c, q] T)).heap.size (w.alloc (.cells #[c, q] T)) wr) : wr.cell? ⟨w.heap.size, 0, none⟩ = some c ∧ wr.cell? ⟨w.heap.size, 1, none⟩ = some q ∧ w.heap.size < wr.heap.size := by
  have hs := h.size
  simp at hs
  refine ⟨(h.cell (p := ⟨w.heap.size, 0, none⟩) (by simp)).trans ?_, (h.cell (p := ⟨w.heap.size, 1, none⟩) (by simp)).trans ?_, by omega⟩
  · simp
  · simp
theorem relF_err {C : Nat → ByteArray} {n : Nat} {R : Nat → Row} {m i : Nat} {r : Int} (h0 : madeF C n m = 0) (hi : i < m) (hok : ∀ j, j < i → rowE n R j = 0) (hr : rowE n R i = r) (h1 : r ≠ 0) : relF C n R m = r := by
  unfold relF
  rw [if_pos h0, firstE_err hi hok (by rw [hr]; exact h1), hr]
theorem relF_ok {C : Nat → ByteArray} {n : Nat} {R : Nat → Row} {m : Nat} (h0 : madeF C n m = 0) (hok : ∀ j, j < m → rowE n R j = 0) : relF C n R m = 0 := by
  unfold relF
  rw [if_pos h0, firstE_ok hok]
theorem relF_made {C : Nat → ByteArray} {n : Nat} {R : Nat → Row} {m : Nat} (h0 : madeF C n m ≠ 0) : relF C n R m = madeF C n m := by
  unfold relF; rw [if_neg h0]
theorem rowE_len {n : Nat} {R : Nat → Row} {i : Nat} (h : (R i).len ≠ n) : rowE n R i = 9 := by unfold rowE; rw [if_neg h]
theorem rowE_value {n : Nat} {R : Nat → Row} {i : Nat} (h : (R i).len = n) (ha : allB (R i).at_ (R i).len = false) : rowE n R i = 12 := by unfold rowE; rw [if_pos h, ha]; rfl
theorem rowE_ok {n : Nat} {R : Nat → Row} {i : Nat} (h : (R i).len = n) (ha : allB (R i).at_ (R i).len = true) : rowE n R i = 0 := by unfold rowE; rw [if_pos h, ha]; rfl

set_option maxHeartbeats 800000 in
theorem check_err (c q : Value) (n m : Nat) (C : Nat → ByteArray) (R : Nat → Row) (w : World) (hc : StrsIs w c n C) (hq : RowsIs w q m R) (hf : StrsFine n C) (h0 : madeF C n m ≠ 0) :
    Calls Tryz.prog 107 #[.agg #[c, q]] w fun e w' => e = .returned (.int .i64 (relF C n R m)) ∧ Below w.heap.size w w' := by
  have HF : Hid (relF C n R m = madeF C n m) := relF_made h0
  obtain ⟨qa, qcap, rfl, q1, q2, _, _⟩ := hq
  have HCM : Hid (∀ o, Calls Tryz.prog 144 #[c, .int .i64 m] (w.alloc o) fun e w' => e = .returned (.int .i64 (madeF C n m)) ∧ w' = w.alloc o) := fun o => checkMade_is c n m C _ (hc.below ((Below.refl _ _).alloc (Nat.le_refl _) _)) hf.2 (by omega)
  obtain ⟨ca, ccap, rfl, _, _, _, _⟩ := hc
  have h0' : (madeF C n m != 0) = true := by simpa using h0
  clear h0 hf q2
  generalize madeF C n m = F at *
  go_enter Tryz.func107, Tryz.ntmps107
  go_wp2_with (first | (go_at_call 144; refine (HCM.out _).mono ?_; rintro e w1 ⟨rfl, rfl⟩))
  go_ret
  exact ⟨ret_int HF.out.symm, (Below.refl _ _).alloc (Nat.le_refl _) _⟩

set_option maxHeartbeats 1600000 in
theorem check_some (c : Value) (b off m cap n : Nat) (C : Nat → ByteArray) (R : Nat → Row) (w : World) (hc : StrsIs w c n C) (hcap : m ≤ cap) (hcm : cap ≤ maxLen) (hb0 : b < w.heap.size) (hq : RowsAt w b off m R) (hf : StrsFine n C) (hg : RowsFine m R) (hT : Tabs w) (h0 : madeF C n m = 0) :
    Calls Tryz.prog 107 #[.agg #[c, .slice (some ⟨b, off, none⟩) m cap]] w fun e w' => e = .returned (.int .i64 (relF C n R m)) ∧ Below w.heap.size w w' := by
  have H0 : Hid (madeF C n m = 0) := h0
  have HCM : Hid (∀ o, Calls Tryz.prog 144 #[c, .int .i64 m] (w.alloc o) fun e w' => e = .returned (.int .i64 0) ∧ w' = w.alloc o) := fun o => by
    have h := checkMade_is c n m C _ (hc.below ((Below.refl _ _).alloc (Nat.le_refl _) o)) hf.2 (by omega : m ≤ maxLen)
    rwa [h0] at h
  have HQ : Hid (∀ W i, Below w.heap.size w W → i < m → ∃ u, W.cell? ⟨b, off + i, none⟩ = some u ∧ ItsIs W u (R i).len (R i).at_ ∧ Calls Tryz.prog 145 #[u] W fun e w' => e = .returned (.bool (allB (R i).at_ (R i).len)) ∧ Below W.heap.size W w') := fun W i hW hi => by
    obtain ⟨u, h1, h2⟩ := hq i hi
    exact ⟨u, (hW.cell (p := ⟨b, off + i, none⟩) hb0).trans h1, h2.below hW, mayBeAll_is u _ _ W (h2.below hW) (hg.2 i hi).2 (Utf8Tabs_below hT hW)⟩
  obtain ⟨ca, ccap, rfl, c1, c2, _, _⟩ := hc
  have hmm : m ≤ 9223372036854775807 := by unfold maxLen at hcm; omega
  have hnn : n ≤ 9223372036854775807 := by unfold maxLen at c2; omega
  clear hq hf hg hT h0 c2 hcm
  go_enter Tryz.func107, Tryz.ntmps107
  go_wp2_with (first | (go_at_call 144; refine (HCM.out _).mono ?_; rintro e w1 ⟨rfl, rfl⟩))
  go_loopw [18] (fun i wr => ∃ k : Nat, k ≤ m ∧ i = .int .i64 k ∧ (∀ j, j < k → rowE n R j = 0) ∧ Below (w.alloc (.cells #[.slice ca n ccap, .slice (some ⟨b, off, none⟩) m cap] 36)).heap.size (w.alloc (.cells #[.slice ca n ccap, .slice (some ⟨b, off, none⟩) m cap] 36)) wr) (fun i _ => m - (intOf i).toNat)
  case atStart => exact ⟨0, Nat.zero_le _, rfl, fun j hj => by omega, Below.refl _ _⟩
  case round =>
    obtain ⟨k, hk, rfl, hok, hbr⟩ := hrel
    obtain ⟨x0, x1, x2⟩ := box2 hbr
    have HOK : Hid (∀ j, j < k → rowE n R j = 0) := hok
    have HBR : Hid (Below (w.alloc (.cells #[.slice ca n ccap, .slice (some ⟨b, off, none⟩) m cap] 36)).heap.size (w.alloc (.cells #[.slice ca n ccap, .slice (some ⟨b, off, none⟩) m cap] 36)) wr) := hbr
    have HBW : Hid (Below w.heap.size w wr) := ((Below.refl _ _).alloc (Nat.le_refl _) _).trans (hbr.mono (by simp))
    by_cases hlt : k < m
    · obtain ⟨u, e1, hu, hcu⟩ := HQ.out wr k HBW.out hlt
      have HCU : Hid (Calls Tryz.prog 145 #[u] wr fun e w' => e = .returned (.bool (allB (R k).at_ (R k).len)) ∧ Below wr.heap.size wr w') := hcu
      obtain ⟨ua, ucap, rfl, u1, u2, _, _⟩ := hu
      have hun : (R k).len ≤ 9223372036854775807 := by unfold maxLen at u2; omega
      have hbz : b < wr.heap.size := by omega
      clear hok hbr hcu u2
      by_cases hln : (R k).len = n
      · cases ha : allB (R k).at_ (R k).len
        · have HF : Hid (relF C n R m = 12) := relF_err H0.out hlt HOK.out (rowE_value hln ha) (by decide)
          rw [ha] at HCU
          rw [hln] at e1 HCU
          clear ha hln hun
          go_wp2_with (first | (go_at_call 145; refine HCU.out.mono ?_; rintro e w1 ⟨rfl, hb1⟩))
          go_ret
          exact ⟨ret_int HF.out.symm, HBW.out.trans (hb1.mono HBW.out.size)⟩
        · have HE : Hid (rowE n R k = 0) := rowE_ok hln ha
          rw [ha] at HCU
          rw [hln] at e1 HCU
          clear ha hln hun
          go_wp2_with (first | (go_at_call 145; refine HCU.out.mono ?_; rintro e w1 ⟨rfl, hb1⟩; have HB1 : Hid (Below (w.alloc (.cells #[.slice ca n ccap, .slice (some ⟨b, off, none⟩) m cap] 36)).heap.size (w.alloc (.cells #[.slice ca n ccap, .slice (some ⟨b, off, none⟩) m cap] 36)) w1) := HBR.out.trans (hb1.mono HBR.out.size); clear hb1))
          go_roundw
          case rel => exact ⟨k + 1, by omega, by go_num, okE_succ HOK.out HE.out, HB1.out⟩
          case measure => simp [intOf]; omega
      · have HF : Hid (relF C n R m = 9) := relF_err H0.out hlt HOK.out (rowE_len hln) (by decide)
        have hl1 : (((R k).len : Int) == (n : Int)) = false := beq_eq_false_iff_ne.2 (by omega)
        have hl2 : (((R k).len : Int) != (n : Int)) = true := bne_iff_ne.2 (by omega)
        clear hln
        go_wp2
        go_ret
        exact ⟨ret_int HF.out.symm, HBW.out⟩
    · have e : k = m := by omega
      subst e
      have HF : Hid (relF C n R k = 0) := relF_ok H0.out HOK.out
      clear hok hbr
      go_wp2
      go_ret
      exact ⟨ret_int HF.out.symm, HBW.out⟩
set_option maxHeartbeats 800000 in
theorem check_zero (c : Value) (a : Option Addr) (cap n : Nat) (C : Nat → ByteArray) (R : Nat → Row) (w : World) (hc : StrsIs w c n C) (hf : StrsFine n C) (h0 : madeF C n 0 = 0) :
    Calls Tryz.prog 107 #[.agg #[c, .slice a 0 cap]] w fun e w' => e = .returned (.int .i64 (relF C n R 0)) ∧ Below w.heap.size w w' := by
  have HF : Hid (relF C n R 0 = 0) := relF_ok h0 (fun j hj => by omega)
  have HCM : Hid (∀ o, Calls Tryz.prog 144 #[c, .int .i64 (0 : Nat)] (w.alloc o) fun e w' => e = .returned (.int .i64 0) ∧ w' = w.alloc o) := fun o => by
    have h := checkMade_is c n 0 C _ (hc.below ((Below.refl _ _).alloc (Nat.le_refl _) o)) hf.2 (Nat.zero_le _)
    rwa [h0] at h
  obtain ⟨ca, ccap, rfl, c1, c2, _, _⟩ := hc
  clear hf h0 c2
  go_enter Tryz.func107, Tryz.ntmps107
  go_wp2_with (first | (go_at_call 144; refine (HCM.out _).mono ?_; rintro e w1 ⟨rfl, rfl⟩))
  go_loop [18] (fun i => i = .int .i64 0) (fun _ => 0)
  case atStart => rfl
  case round =>
    subst hrel
    go_wp2
    go_ret
    exact ⟨ret_int HF.out.symm, (Below.refl _ _).alloc (Nat.le_refl _) _⟩
/-- rel.Check, at a relation wherever it lies -/
theorem relCheck_is (c q : Value) (n m : Nat) (C : Nat → ByteArray) (R : Nat → Row) (w : World) (hc : StrsIs w c n C) (hq : RowsIs w q m R) (hf : StrsFine n C) (hg : RowsFine m R) (hT : Tabs w) :
    Calls Tryz.prog 107 #[.agg #[c, q]] w fun e w' => e = .returned (.int .i64 (relF C n R m)) ∧ Below w.heap.size w w' := by
  by_cases h0 : madeF C n m = 0
  · obtain ⟨a, cap, rfl, h1, h2, _, h3⟩ := hq
    rcases Nat.eq_zero_or_pos m with hz | hz
    · subst hz
      exact check_zero c a cap n C R w hc hf h0
    · obtain ⟨b, off, rfl, h4, h5⟩ := h3 hz
      exact check_some c b off m cap n C R w hc h1 h2 h4 h5 hf hg hT h0
  · exact check_err c q n m C R w hc hq hf h0
end Go.Proofs.YtmoeipdchapodaaGreatDoor
