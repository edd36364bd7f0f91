/-
  MAPS OF NUMBERS THAT ARE GONE THROUGH.
-/
import Derived.Test.YtkcejelmohameaaGreatDoorKpOrd
import Derived.Test.YtkcejelmohameaaGreatDoorTie
import Derived.ProofKit
import Derived.Lib.LaidTab
import Derived.Lib.LaidIn
import Derived.Lib.LaidU8T
import Derived.PinnedBridge
import Derived.Test.YtkcejelmohameaaGreatDoorRlItem
import Derived.Test.YtkcejelmohameaaGreatDoorRlOpen
import Derived.Lib.SlicesS
import Derived.Deep.QuietTactic
import Derived.BigQuiet
import Derived.Test.YtkcejelmohameaaGreatDoorStMap
import Derived.WalkLawsBesides
import Derived.Outline
import Derived.Deep.RegionHeld3
import Derived.Deep.RegionLaw
import Derived.Laws.EntriesVeiled
namespace Go.Proofs.YtkcejelmohameaaGreatDoor
open Go.ChangeShapes Go.WideShapes Go.ChangeAt Go.RowKit

theorem accept_eq : (Rows.laid_unicode_utf8_acceptRanges : DataW Unit) = Lib.acceptData := by kernel_rfl
theorem first_eq : Rows.laid_unicode_utf8_first = Lib.firstData := Pinned.utf8First_eq
/-- what a row lists gives the tables -/
theorem tabs_of {W : World} {l : List (String × DataW Unit)} (hL : laidMet Tryz.prog l W) (hf : ("unicode/utf8.first", Rows.laid_unicode_utf8_first) ∈ l) (ha : ("unicode/utf8.acceptRanges", Rows.laid_unicode_utf8_acceptRanges) ∈ l) : Tabs W := by
  have h1 : Lib.VarReads Tryz.prog W "unicode/utf8.first" Rows.laid_unicode_utf8_first := Lib.laidMet.reads hL hf
  have h2 : Lib.VarReads Tryz.prog W "unicode/utf8.acceptRanges" Rows.laid_unicode_utf8_acceptRanges := Lib.laidMet.reads hL ha
  rw [first_eq] at h1
  rw [accept_eq] at h2
  exact utf8Tabs_of_readsT (U8Types.of196 Tryz.laysValid) ⟨by kernel_rfl, by kernel_rfl, by kernel_rfl, by kernel_rfl, by kernel_rfl, by kernel_rfl, by kernel_rfl⟩ h1 h2

end Go.Proofs.YtkcejelmohameaaGreatDoor
set_option linter.unusedVariables false
namespace Go.Proofs.YtkcejelmohameaaGreatDoor
open Go.RowKit

theorem among_contains (C : Nat → ByteArray) (n : Nat) (x : ByteArray) : Lib.containsS (((List.range n).map C).take n) x = amongB C n x := by
  rw [List.take_of_length_le (by simp), Bool.eq_iff_iff, Lib.containsS_iff]
  unfold amongB
  rw [List.any_eq_true]
  simp only [List.mem_map, List.mem_range, Lib.bytes_beq_iff]
theorem strs_list {w : World} {b off n : Nat} {C : Nat → ByteArray} (h : StrsAt w b off n C) : ∀ j, j < ((List.range n).map C).length → w.cell? ⟨b, off + j, none⟩ = some (.string (((List.range n).map C).getD j ByteArray.empty)) := by
  intro j hj
  have hj' : j < n := by simpa using hj
  rw [h j hj']
  simp [List.getD, hj']
theorem contains_at (b off n c : Nat) (C : Nat → ByteArray) (x : ByteArray) (w : World) (hn : n ≤ 9223372036854775807) (h : StrsAt w b off n C) :
    Calls Tryz.prog 166 #[.slice (some ⟨b, off, none⟩) n c, .string x] w fun e w' => e = .returned (.bool (amongB C n x)) ∧ w' = w := by
  have := Tryz.slices_Contains_string b off n c ((List.range n).map C) x w (by simp) hn (strs_list h)
  rwa [among_contains] at this

theorem colsF_err {C : Nat → ByteArray} {n k : Nat} (h8 : n ≤ 8) (hk : k < n) (h0 : ∀ j, j < k → colE C j = 0) (h1 : colE C k ≠ 0) : colsF C n = colE C k := by
  unfold colsF
  rw [if_neg (by omega), firstE_err hk h0 h1]
theorem colsF_ok {C : Nat → ByteArray} {n : Nat} (h8 : n ≤ 8) (h0 : ∀ j, j < n → colE C j = 0) : colsF C n = 0 := by
  unfold colsF
  rw [if_neg (by omega), firstE_ok h0]
theorem madeF_err {C : Nat → ByteArray} {n m : Nat} {r : Int} (h : colsF C n = r) (hr : r ≠ 0) : madeF C n m = r := by
  unfold madeF; rw [h, if_neg hr]
theorem colE_size {C : Nat → ByteArray} {k : Nat} (h : (C k).size < 1 ∨ 20 < (C k).size) : colE C k = 10 := if_pos h
theorem colE_twice {C : Nat → ByteArray} {k : Nat} (h : ¬ ((C k).size < 1 ∨ 20 < (C k).size)) (ha : amongB C k (C k) = true) : colE C k = 7 := by unfold colE; rw [if_neg h, if_pos ha]
theorem colE_ok {C : Nat → ByteArray} {k : Nat} (h : ¬ ((C k).size < 1 ∨ 20 < (C k).size)) (ha : amongB C k (C k) = false) : colE C k = 0 := by unfold colE; rw [if_neg h, ha]; rfl
theorem okE_succ {f : Nat → Int} {k : Nat} (h : ∀ j, j < k → f j = 0) (hk : f k = 0) : ∀ j, j < k + 1 → f j = 0 := fun j hj => by
  by_cases e : j = k
  · rw [e]; exact hk
  · exact h j (by omega)

set_option maxHeartbeats 800000 in
theorem checkMade_some (b off n cap m : Nat) (C : Nat → ByteArray) (w : World) (h8 : n ≤ 8) (hcap : n ≤ cap) (hm : m ≤ maxLen) (hsz : ∀ i, i < n → (C i).size ≤ maxLen) (hC : StrsAt w b off n C) :
    Calls Tryz.prog 119 #[.slice (some ⟨b, off, none⟩) n cap, .int .i64 m] w fun e w' => e = .returned (.int .i64 (madeF C n m)) ∧ w' = w := by
  unfold maxLen at hm
  have HC : Hid (StrsAt w b off n C) := hC
  have HSZ : Hid (∀ i, i < n → (C i).size ≤ maxLen) := hsz
  have CN : Hid (∀ k, k ≤ n → ∀ x, Calls Tryz.prog 166 #[.slice (some ⟨b, off, none⟩) k cap, .string x] w fun e w' => e = .returned (.bool (amongB C k x)) ∧ w' = w) := fun k hk x => contains_at b off k cap C x w (by omega) (fun i hi => hC i (by omega))
  clear hC hsz
  go_enter Tryz.func119, Tryz.ntmps119
  go_wp2
  go_loop [12] (fun i => ∃ k : Nat, k ≤ n ∧ i = .int .i64 k ∧ ∀ j, j < k → colE C j = 0) (fun i => n - (intOf i).toNat)
  case atStart => exact ⟨0, Nat.zero_le _, rfl, fun j hj => by omega⟩
  case round =>
    obtain ⟨k, hk, rfl, hok⟩ := hrel
    have HOK : Hid (∀ j, j < k → colE C j = 0) := hok
    clear hok
    by_cases hlt : k < n
    · have e1 := HC.out k hlt
      have hs1 := HSZ.out k hlt
      unfold maxLen at hs1
      by_cases hbad : (C k).size < 1 ∨ 20 < (C k).size
      · have HF : Hid (madeF C n m = 10) := madeF_err (colsF_err h8 hlt HOK.out (by rw [colE_size hbad]; decide) |>.trans (colE_size hbad)) (by decide)
        rcases hbad with hbad | hbad
        · go_wp2
          go_ret
          exact ⟨ret_int HF.out.symm, rfl⟩
        · have hb2 : ¬ (C k).size < 1 := by omega
          go_wp2
          go_ret
          exact ⟨ret_int HF.out.symm, rfl⟩
      · have HG : Hid (¬ ((C k).size < 1 ∨ 20 < (C k).size)) := hbad
        have hb1 : ¬ (C k).size < 1 := by omega
        have hb2 : ¬ 20 < (C k).size := by omega
        have CK := CN.out k hk (C k)
        have HCK : Hid (Calls Tryz.prog 166 #[.slice (some ⟨b, off, none⟩) k cap, .string (C k)] w fun e w' => e = .returned (.bool (amongB C k (C k))) ∧ w' = w) := CK
        clear CK hbad
        cases ha : amongB C k (C k)
        · have HE : Hid (colE C k = 0) := colE_ok HG.out ha
          rw [ha] at HCK
          clear ha
          go_wp2_with (first | (go_at_call 166; refine HCK.out.mono ?_; rintro e w1 ⟨rfl, rfl⟩))
          go_round
          case rel => exact ⟨k + 1, by omega, by go_num, okE_succ HOK.out HE.out⟩
          case measure => simp [intOf]; omega
        · have HF : Hid (madeF C n m = 7) := madeF_err ((colsF_err h8 hlt HOK.out (by rw [colE_twice HG.out ha]; decide)).trans (colE_twice HG.out ha)) (by decide)
          rw [ha] at HCK
          clear ha
          go_wp2_with (first | (go_at_call 166; refine HCK.out.mono ?_; rintro e w1 ⟨rfl, rfl⟩))
          go_ret
          exact ⟨ret_int HF.out.symm, rfl⟩
    · have e : k = n := by omega
      subst e
      have HO : Hid (colsF C k = 0) := colsF_ok h8 HOK.out
      by_cases hm1 : 1000000 < m
      · have HF : Hid (madeF C k m = 1) := by
          have h : madeF C k m = 1 := by unfold madeF; rw [if_pos HO.out, if_pos hm1]
          exact h
        go_wp2
        go_ret
        exact ⟨ret_int HF.out.symm, rfl⟩
      · have HF : Hid (madeF C k m = 0) := by
          have h : madeF C k m = 0 := by unfold madeF; rw [if_pos HO.out, if_neg hm1]
          exact h
        go_wp2
        go_ret
        exact ⟨ret_int HF.out.symm, rfl⟩
set_option maxHeartbeats 400000 in
theorem checkMade_zero (a : Option Addr) (cap m : Nat) (C : Nat → ByteArray) (w : World) (hm : m ≤ maxLen) :
    Calls Tryz.prog 119 #[.slice a 0 cap, .int .i64 m] w fun e w' => e = .returned (.int .i64 (madeF C 0 m)) ∧ w' = w := by
  unfold maxLen at hm
  have HF : Hid (madeF C 0 m = if 1000000 < m then 1 else 0) := rfl
  generalize madeF C 0 m = F at *
  go_enter Tryz.func119, Tryz.ntmps119
  go_wp2
  go_loop [12] (fun i => i = .int .i64 0) (fun _ => 0)
  case atStart => rfl
  case round =>
    subst hrel
    by_cases hm1 : 1000000 < m
    · have HG : Hid (F = 1) := HF.out.trans (if_pos hm1)
      go_wp2
      go_ret
      exact ⟨ret_int HG.out.symm, rfl⟩
    · have HG : Hid (F = 0) := HF.out.trans (if_neg hm1)
      go_wp2
      go_ret
      exact ⟨ret_int HG.out.symm, rfl⟩
set_option maxHeartbeats 400000 in
theorem checkMade_big (a : Option Addr) (n cap m : Nat) (C : Nat → ByteArray) (w : World) (h8 : 8 < n) (hn : n ≤ maxLen) :
    Calls Tryz.prog 119 #[.slice a n cap, .int .i64 m] w fun e w' => e = .returned (.int .i64 (madeF C n m)) ∧ w' = w := by
  unfold maxLen at hn
  have HF : Hid (madeF C n m = 1) := by
    have h : madeF C n m = 1 := by unfold madeF colsF; rw [if_pos h8]; rfl
    exact h
  go_enter Tryz.func119, Tryz.ntmps119
  go_wp2
  go_ret
  exact ⟨ret_int HF.out.symm, rfl⟩
theorem checkMade_is (v : Value) (n m : Nat) (C : Nat → ByteArray) (w : World) (hv : StrsIs w v n C) (hf : ∀ i, i < n → (C i).size ≤ maxLen) (hm : m ≤ maxLen) :
    Calls Tryz.prog 119 #[v, .int .i64 m] w fun e w' => e = .returned (.int .i64 (madeF C n m)) ∧ w' = w := by
  obtain ⟨a, cap, rfl, h1, h2, _, h3⟩ := hv
  by_cases h8 : 8 < n
  · exact checkMade_big a n cap m C w h8 (by omega)
  · rcases Nat.eq_zero_or_pos n with hz | hz
    · subst hz
      exact checkMade_zero a cap m C w hm
    · obtain ⟨b, off, rfl, h4, h5⟩ := h3 hz
      exact checkMade_some b off n cap m C w (by omega) h1 hm hf h5

set_option maxHeartbeats 800000 in
theorem mayBeAll_some (b off n cap : Nat) (X : Nat → It) (w : World) (hcap : n ≤ cap) (hcm : cap ≤ maxLen) (hb0 : b < w.heap.size) (hX : ItsAt w b off n X) (hsz : ∀ i, i < n → (X i).s.size ≤ maxLen) (hT : Tabs w) :
    Calls Tryz.prog 120 #[.slice (some ⟨b, off, none⟩) n cap] w fun e w' => e = .returned (.bool (allB X n)) ∧ Below w.heap.size w w' := by
  unfold maxLen at hcm
  have HX : Hid (∀ W, Below w.heap.size w W → ItsAt W b off n X) := fun W hW => hX.below hW hb0
  have CM : Hid (∀ W i, Below w.heap.size w W → i < n → Calls Tryz.prog 167 #[.agg #[.int .i64 (X i).kind, .int .i64 (X i).n, .string (X i).s]] W fun e w' => e = .returned (.bool (mayI (X i))) ∧ Below W.heap.size W w') := fun W i hW hi => mayBe_any _ _ _ W (hsz i hi) (Utf8Tabs_below hT hW)
  clear hX hsz hT
  go_enter Tryz.func120, Tryz.ntmps120
  go_wp2
  go_loopw [7] (fun i wr => ∃ k : Nat, k ≤ n ∧ i = .int .i64 k ∧ (∀ j, j < k → mayI (X j) = true) ∧ Below w.heap.size w wr) (fun i _ => n - (intOf i).toNat)
  case atStart => exact ⟨0, Nat.zero_le _, rfl, fun j hj => by omega, Below.refl _ _⟩
  case round =>
    obtain ⟨k, hk, rfl, hok, hbr⟩ := hrel
    have HOK : Hid (∀ j, j < k → mayI (X j) = true) := hok
    have HBR : Hid (Below w.heap.size w wr) := hbr
    have hzr : w.heap.size ≤ wr.heap.size := hbr.size
    by_cases hlt : k < n
    · obtain ⟨e1, e2, e3⟩ := HX.out wr hbr k hlt
      have hbz : b < wr.heap.size := by omega
      have HCM : Hid (∀ o, Calls Tryz.prog 167 #[.agg #[.int .i64 (X k).kind, .int .i64 (X k).n, .string (X k).s]] (wr.alloc o) fun e w' => e = .returned (.bool (mayI (X k))) ∧ Below (wr.alloc o).heap.size (wr.alloc o) w') := fun o => CM.out _ k (HBR.out.alloc hzr _) hlt
      clear hok hbr
      cases ha : mayI (X k)
      · have HF : Hid (allB X n = false) := all_no hlt ha
        rw [ha] at HCM
        clear ha
        go_wp2_with (first | (go_at_call 167; refine (HCM.out _).mono ?_; rintro e w1 ⟨rfl, hb1⟩))
        go_ret
        exact ⟨ret_bool HF.out.symm, (HBR.out.alloc hzr _).trans (hb1.mono (by simp; omega))⟩
      · have HA : Hid (mayI (X k) = true) := ha
        rw [ha] at HCM
        clear ha
        go_wp2_with (first | (go_at_call 167; refine (HCM.out _).mono ?_; rintro e w1 ⟨rfl, hb1⟩; have HB1 : Hid (Below w.heap.size w w1) := (HBR.out.alloc hzr _).trans (hb1.mono (by simp; omega)); clear hb1))
        go_roundw
        case rel =>
          refine ⟨k + 1, by omega, by go_num, fun j hj => ?_, HB1.out⟩
          by_cases e : j = k
          · rw [e]; exact HA.out
          · exact HOK.out j (by omega)
        case measure => simp [intOf]; omega
    · have e : k = n := by omega
      subst e
      have HF : Hid (allB X k = true) := all_yes HOK.out
      clear hok hbr
      go_wp2
      go_ret
      exact ⟨ret_bool HF.out.symm, HBR.out⟩
set_option maxHeartbeats 400000 in
theorem mayBeAll_zero (a : Option Addr) (cap : Nat) (X : Nat → It) (w : World) :
    Calls Tryz.prog 120 #[.slice a 0 cap] w fun e w' => e = .returned (.bool (allB X 0)) ∧ Below w.heap.size w w' := by
  go_enter Tryz.func120, Tryz.ntmps120
  go_wp2
  go_loop [7] (fun i => i = .int .i64 0) (fun _ => 0)
  case atStart => rfl
  case round =>
    subst hrel
    go_wp2
    go_ret
    exact ⟨rfl, Below.refl _ _⟩
theorem mayBeAll_is (v : Value) (n : Nat) (X : Nat → It) (w : World) (hv : ItsIs w v n X) (hf : ∀ i, i < n → (X i).s.size ≤ maxLen) (hT : Tabs w) :
    Calls Tryz.prog 120 #[v] w fun e w' => e = .returned (.bool (allB X n)) ∧ Below w.heap.size w w' := by
  obtain ⟨a, cap, rfl, h1, h2, _, h3⟩ := hv
  rcases Nat.eq_zero_or_pos n with hz | hz
  · subst hz
    exact mayBeAll_zero a cap X w
  · obtain ⟨b, off, rfl, h4, h5⟩ := h3 hz
    exact mayBeAll_some b off n cap X w h1 h2 h4 h5 hf hT
end Go.Proofs.YtkcejelmohameaaGreatDoor
set_option linter.unusedVariables false
namespace Go.Proofs.YtkcejelmohameaaGreatDoor
open Go.RowKit

/-- what was boxed is there -/
theorem box2 {w wr : World} {c q : Value} {T : TypeId} (h : Below (w.alloc (.cells #[c, q] T)).heap.size (w.alloc (.cells #[c, q] T)) wr) : wr.cell? ⟨w.heap.size, 0, none⟩ = some c ∧ wr.cell? ⟨w.heap.size, 1, none⟩ = some q ∧ w.heap.size < wr.heap.size := by
  have hs := h.size
  simp at hs
  refine ⟨(h.cell (p := ⟨w.heap.size, 0, none⟩) (by simp)).trans ?_, (h.cell (p := ⟨w.heap.size, 1, none⟩) (by simp)).trans ?_, by omega⟩
  · simp
  · simp
theorem relF_err {C : Nat → ByteArray} {n : Nat} {R : Nat → Row} {m i : Nat} {r : Int} (h0 : madeF C n m = 0) (hi : i < m) (hok : ∀ j, j < i → rowE n R j = 0) (hr : rowE n R i = r) (h1 : r ≠ 0) : relF C n R m = r := by
  unfold relF
  rw [if_pos h0, firstE_err hi hok (by rw [hr]; exact h1), hr]
theorem relF_ok {C : Nat → ByteArray} {n : Nat} {R : Nat → Row} {m : Nat} (h0 : madeF C n m = 0) (hok : ∀ j, j < m → rowE n R j = 0) : relF C n R m = 0 := by
  unfold relF
  rw [if_pos h0, firstE_ok hok]
theorem relF_made {C : Nat → ByteArray} {n : Nat} {R : Nat → Row} {m : Nat} (h0 : madeF C n m ≠ 0) : relF C n R m = madeF C n m := by
  unfold relF; rw [if_neg h0]
theorem rowE_len {n : Nat} {R : Nat → Row} {i : Nat} (h : (R i).len ≠ n) : rowE n R i = 9 := by unfold rowE; rw [if_neg h]
theorem rowE_value {n : Nat} {R : Nat → Row} {i : Nat} (h : (R i).len = n) (ha : allB (R i).at_ (R i).len = false) : rowE n R i = 12 := by unfold rowE; rw [if_pos h, ha]; rfl
theorem rowE_ok {n : Nat} {R : Nat → Row} {i : Nat} (h : (R i).len = n) (ha : allB (R i).at_ (R i).len = true) : rowE n R i = 0 := by unfold rowE; rw [if_pos h, ha]; rfl

set_option maxHeartbeats 800000 in
theorem check_err (c q : Value) (n m : Nat) (C : Nat → ByteArray) (R : Nat → Row) (w : World) (hc : StrsIs w c n C) (hq : RowsIs w q m R) (hf : StrsFine n C) (h0 : madeF C n m ≠ 0) :
    Calls Tryz.prog 93 #[.agg #[c, q]] w fun e w' => e = .returned (.int .i64 (relF C n R m)) ∧ Below w.heap.size w w' := by
  have HF : Hid (relF C n R m = madeF C n m) := relF_made h0
  obtain ⟨qa, qcap, rfl, q1, q2, _, _⟩ := hq
  have HCM : Hid (∀ o, Calls Tryz.prog 119 #[c, .int .i64 m] (w.alloc o) fun e w' => e = .returned (.int .i64 (madeF C n m)) ∧ w' = w.alloc o) := fun o => checkMade_is c n m C _ (hc.below ((Below.refl _ _).alloc (Nat.le_refl _) _)) hf.2 (by omega)
  obtain ⟨ca, ccap, rfl, _, _, _, _⟩ := hc
  have h0' : (madeF C n m != 0) = true := by simpa using h0
  clear h0 hf q2
  generalize madeF C n m = F at *
  go_enter Tryz.func93, Tryz.ntmps93
  go_wp2_with (first | (go_at_call 119; refine (HCM.out _).mono ?_; rintro e w1 ⟨rfl, rfl⟩))
  go_ret
  exact ⟨ret_int HF.out.symm, (Below.refl _ _).alloc (Nat.le_refl _) _⟩

set_option maxHeartbeats 1600000 in
theorem check_some (c : Value) (b off m cap n : Nat) (C : Nat → ByteArray) (R : Nat → Row) (w : World) (hc : StrsIs w c n C) (hcap : m ≤ cap) (hcm : cap ≤ maxLen) (hb0 : b < w.heap.size) (hq : RowsAt w b off m R) (hf : StrsFine n C) (hg : RowsFine m R) (hT : Tabs w) (h0 : madeF C n m = 0) :
    Calls Tryz.prog 93 #[.agg #[c, .slice (some ⟨b, off, none⟩) m cap]] w fun e w' => e = .returned (.int .i64 (relF C n R m)) ∧ Below w.heap.size w w' := by
  have H0 : Hid (madeF C n m = 0) := h0
  have HCM : Hid (∀ o, Calls Tryz.prog 119 #[c, .int .i64 m] (w.alloc o) fun e w' => e = .returned (.int .i64 0) ∧ w' = w.alloc o) := fun o => by
    have h := checkMade_is c n m C _ (hc.below ((Below.refl _ _).alloc (Nat.le_refl _) o)) hf.2 (by omega : m ≤ maxLen)
    rwa [h0] at h
  have HQ : Hid (∀ W i, Below w.heap.size w W → i < m → ∃ u, W.cell? ⟨b, off + i, none⟩ = some u ∧ ItsIs W u (R i).len (R i).at_ ∧ Calls Tryz.prog 120 #[u] W fun e w' => e = .returned (.bool (allB (R i).at_ (R i).len)) ∧ Below W.heap.size W w') := fun W i hW hi => by
    obtain ⟨u, h1, h2⟩ := hq i hi
    exact ⟨u, (hW.cell (p := ⟨b, off + i, none⟩) hb0).trans h1, h2.below hW, mayBeAll_is u _ _ W (h2.below hW) (hg.2 i hi).2 (Utf8Tabs_below hT hW)⟩
  obtain ⟨ca, ccap, rfl, c1, c2, _, _⟩ := hc
  have hmm : m ≤ 9223372036854775807 := by unfold maxLen at hcm; omega
  have hnn : n ≤ 9223372036854775807 := by unfold maxLen at c2; omega
  clear hq hf hg hT h0 c2 hcm
  go_enter Tryz.func93, Tryz.ntmps93
  go_wp2_with (first | (go_at_call 119; refine (HCM.out _).mono ?_; rintro e w1 ⟨rfl, rfl⟩))
  go_loopw [18] (fun i wr => ∃ k : Nat, k ≤ m ∧ i = .int .i64 k ∧ (∀ j, j < k → rowE n R j = 0) ∧ Below (w.alloc (.cells #[.slice ca n ccap, .slice (some ⟨b, off, none⟩) m cap] 40)).heap.size (w.alloc (.cells #[.slice ca n ccap, .slice (some ⟨b, off, none⟩) m cap] 40)) wr) (fun i _ => m - (intOf i).toNat)
  case atStart => exact ⟨0, Nat.zero_le _, rfl, fun j hj => by omega, Below.refl _ _⟩
  case round =>
    obtain ⟨k, hk, rfl, hok, hbr⟩ := hrel
    obtain ⟨x0, x1, x2⟩ := box2 hbr
    have HOK : Hid (∀ j, j < k → rowE n R j = 0) := hok
    have HBR : Hid (Below (w.alloc (.cells #[.slice ca n ccap, .slice (some ⟨b, off, none⟩) m cap] 40)).heap.size (w.alloc (.cells #[.slice ca n ccap, .slice (some ⟨b, off, none⟩) m cap] 40)) wr) := hbr
    have HBW : Hid (Below w.heap.size w wr) := ((Below.refl _ _).alloc (Nat.le_refl _) _).trans (hbr.mono (by simp))
    by_cases hlt : k < m
    · obtain ⟨u, e1, hu, hcu⟩ := HQ.out wr k HBW.out hlt
      have HCU : Hid (Calls Tryz.prog 120 #[u] wr fun e w' => e = .returned (.bool (allB (R k).at_ (R k).len)) ∧ Below wr.heap.size wr w') := hcu
      obtain ⟨ua, ucap, rfl, u1, u2, _, _⟩ := hu
      have hun : (R k).len ≤ 9223372036854775807 := by unfold maxLen at u2; omega
      have hbz : b < wr.heap.size := by omega
      clear hok hbr hcu u2
      by_cases hln : (R k).len = n
      · cases ha : allB (R k).at_ (R k).len
        · have HF : Hid (relF C n R m = 12) := relF_err H0.out hlt HOK.out (rowE_value hln ha) (by decide)
          rw [ha] at HCU
          rw [hln] at e1 HCU
          clear ha hln hun
          go_wp2_with (first | (go_at_call 120; refine HCU.out.mono ?_; rintro e w1 ⟨rfl, hb1⟩))
          go_ret
          exact ⟨ret_int HF.out.symm, HBW.out.trans (hb1.mono HBW.out.size)⟩
        · have HE : Hid (rowE n R k = 0) := rowE_ok hln ha
          rw [ha] at HCU
          rw [hln] at e1 HCU
          clear ha hln hun
          go_wp2_with (first | (go_at_call 120; refine HCU.out.mono ?_; rintro e w1 ⟨rfl, hb1⟩; have HB1 : Hid (Below (w.alloc (.cells #[.slice ca n ccap, .slice (some ⟨b, off, none⟩) m cap] 40)).heap.size (w.alloc (.cells #[.slice ca n ccap, .slice (some ⟨b, off, none⟩) m cap] 40)) w1) := HBR.out.trans (hb1.mono HBR.out.size); clear hb1))
          go_roundw
          case rel => exact ⟨k + 1, by omega, by go_num, okE_succ HOK.out HE.out, HB1.out⟩
          case measure => simp [intOf]; omega
      · have HF : Hid (relF C n R m = 9) := relF_err H0.out hlt HOK.out (rowE_len hln) (by decide)
        have hl1 : (((R k).len : Int) == (n : Int)) = false := beq_eq_false_iff_ne.2 (by omega)
        have hl2 : (((R k).len : Int) != (n : Int)) = true := bne_iff_ne.2 (by omega)
        clear hln
        go_wp2
        go_ret
        exact ⟨ret_int HF.out.symm, HBW.out⟩
    · have e : k = m := by omega
      subst e
      have HF : Hid (relF C n R k = 0) := relF_ok H0.out HOK.out
      clear hok hbr
      go_wp2
      go_ret
      exact ⟨ret_int HF.out.symm, HBW.out⟩
set_option maxHeartbeats 800000 in
theorem check_zero (c : Value) (a : Option Addr) (cap n : Nat) (C : Nat → ByteArray) (R : Nat → Row) (w : World) (hc : StrsIs w c n C) (hf : StrsFine n C) (h0 : madeF C n 0 = 0) :
    Calls Tryz.prog 93 #[.agg #[c, .slice a 0 cap]] w fun e w' => e = .returned (.int .i64 (relF C n R 0)) ∧ Below w.heap.size w w' := by
  have HF : Hid (relF C n R 0 = 0) := relF_ok h0 (fun j hj => by omega)
  have HCM : Hid (∀ o, Calls Tryz.prog 119 #[c, .int .i64 (0 : Nat)] (w.alloc o) fun e w' => e = .returned (.int .i64 0) ∧ w' = w.alloc o) := fun o => by
    have h := checkMade_is c n 0 C _ (hc.below ((Below.refl _ _).alloc (Nat.le_refl _) o)) hf.2 (Nat.zero_le _)
    rwa [h0] at h
  obtain ⟨ca, ccap, rfl, c1, c2, _, _⟩ := hc
  clear hf h0 c2
  go_enter Tryz.func93, Tryz.ntmps93
  go_wp2_with (first | (go_at_call 119; refine (HCM.out _).mono ?_; rintro e w1 ⟨rfl, rfl⟩))
  go_loop [18] (fun i => i = .int .i64 0) (fun _ => 0)
  case atStart => rfl
  case round =>
    subst hrel
    go_wp2
    go_ret
    exact ⟨ret_int HF.out.symm, (Below.refl _ _).alloc (Nat.le_refl _) _⟩
/-- rel.Check, at a relation wherever it lies -/
theorem relCheck_is (c q : Value) (n m : Nat) (C : Nat → ByteArray) (R : Nat → Row) (w : World) (hc : StrsIs w c n C) (hq : RowsIs w q m R) (hf : StrsFine n C) (hg : RowsFine m R) (hT : Tabs w) :
    Calls Tryz.prog 93 #[.agg #[c, q]] w fun e w' => e = .returned (.int .i64 (relF C n R m)) ∧ Below w.heap.size w w' := by
  by_cases h0 : madeF C n m = 0
  · obtain ⟨a, cap, rfl, h1, h2, _, h3⟩ := hq
    rcases Nat.eq_zero_or_pos m with hz | hz
    · subst hz
      exact check_zero c a cap n C R w hc hf h0
    · obtain ⟨b, off, rfl, h4, h5⟩ := h3 hz
      exact check_some c b off m cap n C R w hc h1 h2 h4 h5 hf hg hT h0
  · exact check_err c q n m C R w hc hq hf h0
end Go.Proofs.YtkcejelmohameaaGreatDoor
set_option linter.unusedVariables false
namespace Go.Proofs.YtkcejelmohameaaGreatDoor
set_option maxRecDepth 100000
open Go.RowKit Go.WideShapes

def leftI (w : World) (M r : Nat) : Nat := match w.heap[M]?, w.heap[r]? with
  | some (.map es _), some (.mapIter _ _ seen _) => (leftOf es seen).size
  | _, _ => 0
theorem IRng.left {w : World} {r M : Nat} {V : Int → Option Value} {D : Int → Prop} {left : Nat} (h : IRng w r M V D left) : leftI w M r = left := by
  obtain ⟨es, clock, since, seen, c0, h1, h2, _, _, _, h6, _⟩ := h
  unfold leftI
  rw [h1, h2]
  exact h6
theorem wp_irange {o : Oper} {a : Act} {w : World} {K : Act → World → Prop} {Q : Exit → Act → World → Prop} (m : Operand) (t el : TypeId) (hop : o.op = Op.range t m) (ht : Tryz.prog.underlying t = some (.map 3 el))
    (M : Nat) (V : Int → Option Value) (hm : a.eval m = .map (some M)) (hV : IMap w M V)
    (h : ∀ w' left, IRng w' w.heap.size M V (fun _ => False) left → Below w.heap.size w w' → K (a.put o.dst (.pointer (some ⟨w.heap.size, 0, none⟩))) w') : o.wp Tryz.prog a w K Q := by
  obtain ⟨w', left, h1, h2, h3, h4, h5, h6, h7⟩ := hV.range ht
  unfold Oper.wp
  simp [execOp, hop, hm, h1, Result.andThen]
  exact h w' left h2 ⟨h5, h6, h7, by omega, h4⟩
theorem wpList_irange {ops : Array Oper} {rest : List Oper} {o : Oper} {a : Act} {w : World} {Q : Exit → Act → World → Prop} (hgd : o.guard = none) (m : Operand) (t el : TypeId) (hop : o.op = Op.range t m) (ht : Tryz.prog.underlying t = some (.map 3 el))
    (M : Nat) (V : Int → Option Value) (hm : a.eval m = .map (some M)) (hV : IMap w M V)
    (h : ∀ w' left, IRng w' w.heap.size M V (fun _ => False) left → Below w.heap.size w w' → wpList Tryz.prog ops Q rest (a.put o.dst (.pointer (some ⟨w.heap.size, 0, none⟩))) w') : wpList Tryz.prog ops Q (o :: rest) a w :=
  wpList_plain hgd fun _ hK => wp_irange m t el hop ht M V hm hV (fun w' left h1 h2 => hK _ _ (h w' left h1 h2))
theorem step_ofS {P : Program} {ops : Array Oper} {o : Oper} {a : Act} {w : World} {K : Act → World → Prop} {Q : Exit → Act → World → Prop} {Z : Prop} (hgd : o.guard = none) (h : o.wp P a w K Q) : if Region.wanted o (yielded ops a.tmps) = true then Oper.wp P o a w K Q else Z := by
  have hw : Region.wanted o (yielded ops a.tmps) = true := by simp [Region.wanted, hgd]
  rw [if_pos hw]
  exact h
theorem step_callS {P : Program} {ops : Array Oper} {o : Oper} {a : Act} {w : World} {K : Act → World → Prop} {Q : Exit → Act → World → Prop} {Z : Prop} (hgd : o.guard = none) (f : FuncId) (args : Array Value) (hrun : (execOp a.eval o).run P w = .ok (.enter f args) w)
    (Post : Value → World → Prop) (hc : Calls P f args w fun e w' => ∃ v, e = .returned v ∧ Post v w') (h : ∀ v w', Post v w' → K (a.put o.dst v) w') : if Region.wanted o (yielded ops a.tmps) = true then Oper.wp P o a w K Q else Z := by
  refine step_ofS hgd ?_
  unfold Oper.wp
  rw [hrun, Oper.upon_enter]
  refine hc.mono fun e w'' hh => ?_
  obtain ⟨v, rfl, hp⟩ := hh
  exact h v w'' hp
theorem wpList_inext {ops : Array Oper} {rest : List Oper} {o : Oper} {a : Act} {w : World} {Q : Exit → Act → World → Prop} (hgd : o.guard = none) (it : Operand) (hop : o.op = Op.next it false)
    (r M : Nat) (V : Int → Option Value) (D : Int → Prop) (left : Nat) (hit : a.eval it = .pointer (some ⟨r, 0, none⟩)) (hR : IRng w r M V D left)
    (hDone : (∀ x v, V x = some v → D x) → wpList Tryz.prog ops Q rest (a.put o.dst (.tuple #[.bool false])) w)
    (hMore : ∀ x v w1 left', V x = some v → ¬ D x → (Instr.entry (.pointer (some ⟨r, 0, none⟩))).run Tryz.prog w1 = .ok (.tuple #[.int .i64 x, v]) w1 → left' < left → IRng w1 r M V (fun y => D y ∨ y = x) left' → TurnedI w w1 r → wpList Tryz.prog ops Q rest (a.put o.dst (.tuple #[.bool true, .int .i64 x, v])) w1) : wpList Tryz.prog ops Q (o :: rest) a w :=
  wpList_plain hgd fun _ hK => by
    unfold Oper.wp
    rcases hR.next o.type with ⟨h1, h2⟩ | ⟨x, v, w1, left', h1, h2, h3, h4, h5, h6, h7⟩
    · simp [execOp, hop, hit, h2, Result.andThen]
      exact hK _ _ (hDone h1)
    · simp [execOp, hop, hit, h3, Result.andThen]
      exact hK _ _ (hMore x v w1 left' h1 h2 h4 h5 h6 h7)
end Go.Proofs.YtkcejelmohameaaGreatDoor
