/-
  CONTRACTS: columns and rows (rel.checkMade, rel.mayBeAll, rel.Check, and the document's answers colsFault, RelFault).
-/
import Derived.Test.YtmoeipdchapodaaGreatDoorRlItem
import Derived.Test.YtmoeipdchapodaaGreatDoorRlOpen
import Derived.Lib.SlicesS
import Derived.Deep.QuietTactic
import Derived.BigQuiet
set_option linter.unusedVariables false
namespace Go.Proofs.YtmoeipdchapodaaGreatDoor
open Go.RowKit

theorem among_contains (C : Nat → ByteArray) (n : Nat) (x : ByteArray) : Lib.containsS (((List.range n).map C).take n) x = amongB C n x := by
  rw [List.take_of_length_le (by simp), Bool.eq_iff_iff, Lib.containsS_iff]
  unfold amongB
  rw [List.any_eq_true]
  simp only [List.mem_map, List.mem_range, Lib.bytes_beq_iff]
theorem strs_list {w : World} {b off n : Nat} {C : Nat → ByteArray} (h : StrsAt w b off n C) : ∀ j, j < ((List.range n).map C).length → w.cell? ⟨b, off + j, none⟩ = some (.string (((List.range n).map C).getD j ByteArray.empty)) := by
  intro j hj
  have hj' : j < n := by simpa using hj
  rw [h j hj']
  simp [List.getD, hj']
theorem contains_at (b off n c : Nat) (C : Nat → ByteArray) (x : ByteArray) (w : World) (hn : n ≤ 9223372036854775807) (h : StrsAt w b off n C) :
    Calls Tryz.prog 195 #[.slice (some ⟨b, off, none⟩) n c, .string x] w fun e w' => e = .returned (.bool (amongB C n x)) ∧ w' = w := by
  have := Tryz.slices_Contains_string b off n c ((List.range n).map C) x w (by simp) hn (strs_list h)
  rwa [among_contains] at this

theorem colsF_err {C : Nat → ByteArray} {n k : Nat} (h8 : n ≤ 8) (hk : k < n) (h0 : ∀ j, j < k → colE C j = 0) (h1 : colE C k ≠ 0) : colsF C n = colE C k := by
  unfold colsF
  rw [if_neg (by omega), firstE_err hk h0 h1]
theorem colsF_ok {C : Nat → ByteArray} {n : Nat} (h8 : n ≤ 8) (h0 : ∀ j, j < n → colE C j = 0) : colsF C n = 0 := by
  unfold colsF
  rw [if_neg (by omega), firstE_ok h0]
theorem madeF_err {C : Nat → ByteArray} {n m : Nat} {r : Int} (h : colsF C n = r) (hr : r ≠ 0) : madeF C n m = r := by
  unfold madeF; rw [h, if_neg hr]
theorem colE_size {C : Nat → ByteArray} {k : Nat} (h : (C k).size < 1 ∨ 20 < (C k).size) : colE C k = 10 := if_pos h
theorem colE_twice {C : Nat → ByteArray} {k : Nat} (h : ¬ ((C k).size < 1 ∨ 20 < (C k).size)) (ha : amongB C k (C k) = true) : colE C k = 7 := by unfold colE; rw [if_neg h, if_pos ha]
theorem colE_ok {C : Nat → ByteArray} {k : Nat} (h : ¬ ((C k).size < 1 ∨ 20 < (C k).size)) (ha : amongB C k (C k) = false) : colE C k = 0 := by unfold colE; rw [if_neg h, ha]; rfl
theorem okE_succ {f : Nat → Int} {k : Nat} (h : ∀ j, j < k → f j = 0) (hk : f k = 0) : ∀ j, j < k + 1 → f j = 0 := fun j hj => by
  by_cases e : j = k
  · rw [e]; exact hk
  · exact h j (by omega)

set_option maxHeartbeats 800000 in
theorem checkMade_some (b off n cap m : Nat) (C : Nat → ByteArray) (w : World) (h8 : n ≤ 8) (hcap : n ≤ cap) (hm : m ≤ maxLen) (hsz : ∀ i, i < n → (C i).size ≤ maxLen) (hC : StrsAt w b off n C) :
    Calls Tryz.prog 144 #[.slice (some ⟨b, off, none⟩) n cap, .int .i64 m] w fun e w' => e = .returned (.int .i64 (madeF C n m)) ∧ w' = w := by
  unfold maxLen at hm
  have HC : Hid (StrsAt w b off n C) := hC
  have HSZ : Hid (∀ i, i < n → (C i).size ≤ maxLen) := hsz
  have CN : Hid (∀ k, k ≤ n → ∀ x, Calls Tryz.prog 195 #[.slice (some ⟨b, off, none⟩) k cap, .string x] w fun e w' => e = .returned (.bool (amongB C k x)) ∧ w' = w) := fun k hk x => contains_at b off k cap C x w (by omega) (fun i hi => hC i (by omega))
  clear hC hsz
  go_enter Tryz.func144, Tryz.ntmps144
  go_wp2
  go_loop [12] (fun i => ∃ k : Nat, k ≤ n ∧ i = .int .i64 k ∧ ∀ j, j < k → colE C j = 0) (fun i => n - (intOf i).toNat)
  case atStart => exact ⟨0, Nat.zero_le _, rfl, fun j hj => by omega⟩
  case round =>
    obtain ⟨k, hk, rfl, hok⟩ := hrel
    have HOK : Hid (∀ j, j < k → colE C j = 0) := hok
    clear hok
    by_cases hlt : k < n
    · have e1 := HC.out k hlt
      have hs1 := HSZ.out k hlt
      unfold maxLen at hs1
      by_cases hbad : (C k).size < 1 ∨ 20 < (C k).size
      · have HF : Hid (madeF C n m = 10) := madeF_err (colsF_err h8 hlt HOK.out (by rw [colE_size hbad]; decide) |>.trans (colE_size hbad)) (by decide)
        rcases hbad with hbad | hbad
        · go_wp2
          go_ret
          exact ⟨ret_int HF.out.symm, rfl⟩
        · have hb2 : ¬ (C k).size < 1 := by omega
          go_wp2
          go_ret
          exact ⟨ret_int HF.out.symm, rfl⟩
      · have HG : Hid (¬ ((C k).size < 1 ∨ 20 < (C k).size)) := hbad
        have hb1 : ¬ (C k).size < 1 := by omega
        have hb2 : ¬ 20 < (C k).size := by omega
        have CK := CN.out k hk (C k)
        have HCK : Hid (Calls Tryz.prog 195 #[.slice (some ⟨b, off, none⟩) k cap, .string (C k)] w fun e w' => e = .returned (.bool (amongB C k (C k))) ∧ w' = w) := CK
        clear CK hbad
        cases ha : amongB C k (C k)
        · have HE : Hid (colE C k = 0) := colE_ok HG.out ha
          rw [ha] at HCK
          clear ha
          go_wp2_with (first | (go_at_call 195; refine HCK.out.mono ?_; rintro e w1 ⟨rfl, rfl⟩))
          go_round
          case rel => exact ⟨k + 1, by omega, by go_num, okE_succ HOK.out HE.out⟩
          case measure => simp [intOf]; omega
        · have HF : Hid (madeF C n m = 7) := madeF_err ((colsF_err h8 hlt HOK.out (by rw [colE_twice HG.out ha]; decide)).trans (colE_twice HG.out ha)) (by decide)
          rw [ha] at HCK
          clear ha
          go_wp2_with (first | (go_at_call 195; refine HCK.out.mono ?_; rintro e w1 ⟨rfl, rfl⟩))
          go_ret
          exact ⟨ret_int HF.out.symm, rfl⟩
    · have e : k = n := by omega
      subst e
      have HO : Hid (colsF C k = 0) := colsF_ok h8 HOK.out
      by_cases hm1 : 1000000 < m
      · have HF : Hid (madeF C k m = 1) := by
          have h : madeF C k m = 1 := by unfold madeF; rw [if_pos HO.out, if_pos hm1]
          exact h
        go_wp2
        go_ret
        exact ⟨ret_int HF.out.symm, rfl⟩
      · have HF : Hid (madeF C k m = 0) := by
          have h : madeF C k m = 0 := by unfold madeF; rw [if_pos HO.out, if_neg hm1]
          exact h
        go_wp2
        go_ret
        exact ⟨ret_int HF.out.symm, rfl⟩
set_option maxHeartbeats 400000 in
theorem checkMade_zero (a : Option Addr) (cap m : Nat) (C : Nat → ByteArray) (w : World) (hm : m ≤ maxLen) :
    Calls Tryz.prog 144 #[.slice a 0 cap, .int .i64 m] w fun e w' => e = .returned (.int .i64 (madeF C 0 m)) ∧ w' = w := by
  unfold maxLen at hm
  have HF : Hid (madeF C 0 m = if 1000000 < m then 1 else 0) := rfl
  generalize madeF C 0 m = F at *
  go_enter Tryz.func144, Tryz.ntmps144
  go_wp2
  go_loop [12] (fun i => i = .int .i64 0) (fun _ => 0)
  case atStart => rfl
  case round =>
    subst hrel
    by_cases hm1 : 1000000 < m
    · have HG : Hid (F = 1) := HF.out.trans (if_pos hm1)
      go_wp2
      go_ret
      exact ⟨ret_int HG.out.symm, rfl⟩
    · have HG : Hid (F = 0) := HF.out.trans (if_neg hm1)
      go_wp2
      go_ret
      exact ⟨ret_int HG.out.symm, rfl⟩
set_option maxHeartbeats 400000 in
theorem checkMade_big (a : Option Addr) (n cap m : Nat) (C : Nat → ByteArray) (w : World) (h8 : 8 < n) (hn : n ≤ maxLen) :
    Calls Tryz.prog 144 #[.slice a n cap, .int .i64 m] w fun e w' => e = .returned (.int .i64 (madeF C n m)) ∧ w' = w := by
  unfold maxLen at hn
  have HF : Hid (madeF C n m = 1) := by
    have h : madeF C n m = 1 := by unfold madeF colsF; rw [if_pos h8]; rfl
    exact h
  go_enter Tryz.func144, Tryz.ntmps144
  go_wp2
  go_ret
  exact ⟨ret_int HF.out.symm, rfl⟩
theorem checkMade_is (v : Value) (n m : Nat) (C : Nat → ByteArray) (w : World) (hv : StrsIs w v n C) (hf : ∀ i, i < n → (C i).size ≤ maxLen) (hm : m ≤ maxLen) :
    Calls Tryz.prog 144 #[v, .int .i64 m] w fun e w' => e = .returned (.int .i64 (madeF C n m)) ∧ w' = w := by
  obtain ⟨a, cap, rfl, h1, h2, _, h3⟩ := hv
  by_cases h8 : 8 < n
  · exact checkMade_big a n cap m C w h8 (by omega)
  · rcases Nat.eq_zero_or_pos n with hz | hz
    · subst hz
      exact checkMade_zero a cap m C w hm
    · obtain ⟨b, off, rfl, h4, h5⟩ := h3 hz
      exact checkMade_some b off n cap m C w (by omega) h1 hm hf h5

set_option maxHeartbeats 800000 in
theorem mayBeAll_some (b off n cap : Nat) (X : Nat → It) (w : World) (hcap : n ≤ cap) (hcm : cap ≤ maxLen) (hb0 : b < w.heap.size) (hX : ItsAt w b off n X) (hsz : ∀ i, i < n → (X i).s.size ≤ maxLen) (hT : Tabs w) :
    Calls Tryz.prog 145 #[.slice (some ⟨b, off, none⟩) n cap] w fun e w' => e = .returned (.bool (allB X n)) ∧ Below w.heap.size w w' := by
  unfold maxLen at hcm
  have HX : Hid (∀ W, Below w.heap.size w W → ItsAt W b off n X) := fun W hW => hX.below hW hb0
  have CM : Hid (∀ W i, Below w.heap.size w W → i < n → Calls Tryz.prog 173 #[.agg #[.int .i64 (X i).kind, .int .i64 (X i).n, .string (X i).s]] W fun e w' => e = .returned (.bool (mayI (X i))) ∧ Below W.heap.size W w') := fun W i hW hi => mayBe_any _ _ _ W (hsz i hi) (Utf8Tabs_below hT hW)
  clear hX hsz hT
  go_enter Tryz.func145, Tryz.ntmps145
  go_wp2
  go_loopw [7] (fun i wr => ∃ k : Nat, k ≤ n ∧ i = .int .i64 k ∧ (∀ j, j < k → mayI (X j) = true) ∧ Below w.heap.size w wr) (fun i _ => n - (intOf i).toNat)
  case atStart => exact ⟨0, Nat.zero_le _, rfl, fun j hj => by omega, Below.refl _ _⟩
  case round =>
    obtain ⟨k, hk, rfl, hok, hbr⟩ := hrel
    have HOK : Hid (∀ j, j < k → mayI (X j) = true) := hok
    have HBR : Hid (Below w.heap.size w wr) := hbr
    have hzr : w.heap.size ≤ wr.heap.size := hbr.size
    by_cases hlt : k < n
    · obtain ⟨e1, e2, e3⟩ := HX.out wr hbr k hlt
      have hbz : b < wr.heap.size := by omega
      have HCM : Hid (∀ o, Calls Tryz.prog 173 #[.agg #[.int .i64 (X k).kind, .int .i64 (X k).n, .string (X k).s]] (wr.alloc o) fun e w' => e = .returned (.bool (mayI (X k))) ∧ Below (wr.alloc o).heap.size (wr.alloc o) w') := fun o => CM.out _ k (HBR.out.alloc hzr _) hlt
      clear hok hbr
      cases ha : mayI (X k)
      · have HF : Hid (allB X n = false) := all_no hlt ha
        rw [ha] at HCM
        clear ha
        go_wp2_with (first | (go_at_call 173; refine (HCM.out _).mono ?_; rintro e w1 ⟨rfl, hb1⟩))
        go_ret
        exact ⟨ret_bool HF.out.symm, (HBR.out.alloc hzr _).trans (hb1.mono (by simp; omega))⟩
      · have HA : Hid (mayI (X k) = true) := ha
        rw [ha] at HCM
        clear ha
        go_wp2_with (first | (go_at_call 173; refine (HCM.out _).mono ?_; rintro e w1 ⟨rfl, hb1⟩; have HB1 : Hid (Below w.heap.size w w1) := (HBR.out.alloc hzr _).trans (hb1.mono (by simp; omega)); clear hb1))
        go_roundw
        case rel =>
          refine ⟨k + 1, by omega, by go_num, fun j hj => ?_, HB1.out⟩
          by_cases e : j = k
          · rw [e]; exact HA.out
          · exact HOK.out j (by omega)
        case measure => simp [intOf]; omega
    · have e : k = n := by omega
      subst e
      have HF : Hid (allB X k = true) := all_yes HOK.out
      clear hok hbr
      go_wp2
      go_ret
      exact ⟨ret_bool HF.out.symm, HBR.out⟩
set_option maxHeartbeats 400000 in
theorem mayBeAll_zero (a : Option Addr) (cap : Nat) (X : Nat → It) (w : World) :
    Calls Tryz.prog 145 #[.slice a 0 cap] w fun e w' => e = .returned (.bool (allB X 0)) ∧ Below w.heap.size w w' := by
  go_enter Tryz.func145, Tryz.ntmps145
  go_wp2
  go_loop [7] (fun i => i = .int .i64 0) (fun _ => 0)
  case atStart => rfl
  case round =>
    subst hrel
    go_wp2
    go_ret
    exact ⟨rfl, Below.refl _ _⟩
theorem mayBeAll_is (v : Value) (n : Nat) (X : Nat → It) (w : World) (hv : ItsIs w v n X) (hf : ∀ i, i < n → (X i).s.size ≤ maxLen) (hT : Tabs w) :
    Calls Tryz.prog 145 #[v] w fun e w' => e = .returned (.bool (allB X n)) ∧ Below w.heap.size w w' := by
  obtain ⟨a, cap, rfl, h1, h2, _, h3⟩ := hv
  rcases Nat.eq_zero_or_pos n with hz | hz
  · subst hz
    exact mayBeAll_zero a cap X w
  · obtain ⟨b, off, rfl, h4, h5⟩ := h3 hz
    exact mayBeAll_some b off n cap X w h1 h2 h4 h5 hf hT
end Go.Proofs.YtmoeipdchapodaaGreatDoor
