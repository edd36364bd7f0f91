/-
  CONTRACTS of the document's answers on columns and relations (colsFault, RelFault).
-/
import Derived.Test.YtkcejelmohameaaGreatDoorStRng
set_option linter.unusedVariables false
namespace Go.Proofs.YtkcejelmohameaaGreatDoor
open Go.RowKit

theorem below_drawn {B : Nat} {a w : World} (h : Below B a w) : ∀ q, Below B a (w.drewN q)
  | 0 => h
  | q + 1 => (below_drawn h q).drew

set_option maxHeartbeats 1600000 in
theorem colsFault_some (b off n cap : Nat) (C : Nat → ByteArray) (w : World) (h8 : n ≤ 8) (hcap : n ≤ cap) (hb0 : b < w.heap.size) (hsz : ∀ i, i < n → (C i).size ≤ maxLen) (hC : StrsAt w b off n C) :
    Calls Tryz.prog 15 #[.slice (some ⟨b, off, none⟩) n cap] w fun e w' => e = .returned (.int .i64 (colsF C n)) ∧ Below w.heap.size w w' := by
  have HC : Hid (∀ W, Below w.heap.size w W → StrsAt W b off n C) := fun W hW => hC.below hW hb0
  have HSZ : Hid (∀ i, i < n → (C i).size ≤ maxLen) := hsz
  clear hC hsz
  go_enter Tryz.func15, Tryz.ntmps15
  go_wp2
  go_loopw [3] (fun i wr => ∃ k : Nat, k ≤ n ∧ i = .int .i64 k ∧ (∀ j, j < k → colE C j = 0) ∧ Below w.heap.size w wr) (fun i _ => n - (intOf i).toNat)
  case atStart => exact ⟨0, Nat.zero_le _, rfl, fun j hj => by omega, Below.refl _ _⟩
  case round =>
    obtain ⟨k, hk, rfl, hok, hbr⟩ := hrel
    have HOK : Hid (∀ j, j < k → colE C j = 0) := hok
    have HBR : Hid (Below w.heap.size w wr) := hbr
    clear hok
    by_cases hlt : k < n
    · have e1 := HC.out wr hbr k hlt
      have hs1 := HSZ.out k hlt
      unfold maxLen at hs1
      clear hbr
      by_cases hbad : (C k).size < 1 ∨ 20 < (C k).size
      · have HF : Hid (colsF C n = 10) := (colsF_err h8 hlt HOK.out (by rw [colE_size hbad]; decide)).trans (colE_size hbad)
        have hi : inB ((C k).size : Int) 1 20 = false := by simp [inB]; omega
        clear hbad
        go_wp2_with (first | (go_at_call 12; refine (in_anyR _ _ _ _).mono ?_; rintro e w' ⟨rfl, rfl⟩))
        go_ret
        exact ⟨ret_int HF.out.symm, HBR.out⟩
      · have HG : Hid (¬ ((C k).size < 1 ∨ 20 < (C k).size)) := hbad
        have hi : inB ((C k).size : Int) 1 20 = true := by simp [inB]; omega
        clear hbad
        go_wp2_with (first | (go_at_call 12; refine (in_anyR _ _ _ _).mono ?_; rintro e w' ⟨rfl, rfl⟩))
        clear e1 hi
        go_loopw [4] (fun i wr => ∃ q : Nat, q ≤ k ∧ i = .int .i64 q ∧ (∀ j, j < q → ((C j).toList == (C k).toList) = false) ∧ Below w.heap.size w wr) (fun i _ => k - (intOf i).toNat)
        case atStart => exact ⟨0, Nat.zero_le _, rfl, fun j hj => by omega, HBR.out⟩
        case round =>
          obtain ⟨q, hq, rfl, hok, hbr⟩ := hrel
          have HQ : Hid (∀ j, j < q → ((C j).toList == (C k).toList) = false) := hok
          have HB2 : Hid (Below w.heap.size w wr) := hbr
          clear hok
          by_cases hqk : q < k
          · have e1 := HC.out wr hbr k hlt
            have e2 := HC.out wr hbr q (by omega)
            have hki : (k : Int) < (n : Int) := by omega
            have hqi : (q : Int) < (n : Int) := by omega
            clear hbr
            cases hs : ((C q).toList == (C k).toList)
            · have HS : Hid (((C q).toList == (C k).toList) = false) := hs
              go_wp2
              go_quiet (fail)
              go_wp2
              go_roundw
              case rel =>
                refine ⟨q + 1, by omega, by go_num, fun j hj => ?_, below_drawn HB2.out _⟩
                by_cases e : j = q
                · rw [e]; exact HS.out
                · exact HQ.out j (by omega)
              case measure => simp [intOf]; omega
            · have HF : Hid (colsF C n = 7) := (colsF_err h8 hlt HOK.out (by rw [colE_twice HG.out (among_yes hqk hs)]; decide)).trans (colE_twice HG.out (among_yes hqk hs))
              go_wp2
              go_quiet (fail)
              go_wp2
              go_ret
              exact ⟨ret_int HF.out.symm, below_drawn HB2.out _⟩
          · have e : q = k := by omega
            subst e
            have HE : Hid (colE C q = 0) := colE_ok HG.out (among_no HQ.out)
            clear hbr
            go_wp2
            go_roundw
            case rel => exact ⟨q + 1, by omega, by go_num, okE_succ HOK.out HE.out, HB2.out⟩
            case measure => simp [intOf]; omega
    · have e : k = n := by omega
      subst e
      have HO : Hid (colsF C k = 0) := colsF_ok h8 HOK.out
      clear hbr
      go_wp2
      go_ret
      exact ⟨ret_int HO.out.symm, HBR.out⟩
set_option maxHeartbeats 400000 in
theorem colsFault_zero (a : Option Addr) (cap : Nat) (C : Nat → ByteArray) (w : World) :
    Calls Tryz.prog 15 #[.slice a 0 cap] w fun e w' => e = .returned (.int .i64 (colsF C 0)) ∧ Below w.heap.size w w' := by
  go_enter Tryz.func15, Tryz.ntmps15
  go_wp2
  go_loop [3] (fun i => i = .int .i64 0) (fun _ => 0)
  case atStart => rfl
  case round =>
    subst hrel
    go_wp2
    go_ret
    exact ⟨rfl, Below.refl _ _⟩
set_option maxHeartbeats 400000 in
theorem colsFault_big (a : Option Addr) (n cap : Nat) (C : Nat → ByteArray) (w : World) (h8 : 8 < n) (hn : n ≤ maxLen) :
    Calls Tryz.prog 15 #[.slice a n cap] w fun e w' => e = .returned (.int .i64 (colsF C n)) ∧ Below w.heap.size w w' := by
  unfold maxLen at hn
  have HF : Hid (colsF C n = 1) := if_pos h8
  go_enter Tryz.func15, Tryz.ntmps15
  go_wp2
  go_ret
  exact ⟨ret_int HF.out.symm, Below.refl _ _⟩
theorem colsFault_is (v : Value) (n : Nat) (C : Nat → ByteArray) (w : World) (hv : StrsIs w v n C) (hf : ∀ i, i < n → (C i).size ≤ maxLen) :
    Calls Tryz.prog 15 #[v] w fun e w' => e = .returned (.int .i64 (colsF C n)) ∧ Below w.heap.size w w' := by
  obtain ⟨a, cap, rfl, h1, h2, _, h3⟩ := hv
  by_cases h8 : 8 < n
  · exact colsFault_big a n cap C w h8 (by omega)
  · rcases Nat.eq_zero_or_pos n with hz | hz
    · subst hz
      exact colsFault_zero a cap C w
    · obtain ⟨b, off, rfl, h4, h5⟩ := h3 hz
      exact colsFault_some b off n cap C w (by omega) h1 h4 hf h5

theorem madeF_cols {C : Nat → ByteArray} {n m : Nat} (h : colsF C n ≠ 0) : madeF C n m = colsF C n := by unfold madeF; rw [if_neg h]
theorem madeF_rows {C : Nat → ByteArray} {n m : Nat} (h : colsF C n = 0) : madeF C n m = if 1000000 < m then 1 else 0 := by unfold madeF; rw [if_pos h]

set_option maxHeartbeats 800000 in
theorem relFault_cols (c q : Value) (n m : Nat) (C : Nat → ByteArray) (R : Nat → Row) (w : World) (hc : StrsIs w c n C) (hq : RowsIs w q m R) (hf : StrsFine n C) (h0 : colsF C n ≠ 0) :
    Calls Tryz.prog 72 #[.agg #[c, q]] w fun e w' => e = .returned (.int .i64 (relF C n R m)) ∧ Below w.heap.size w w' := by
  have HF : Hid (relF C n R m = colsF C n) := (relF_made (by rw [madeF_cols h0]; exact h0)).trans (madeF_cols h0)
  obtain ⟨qa, qcap, rfl, q1, q2, _, _⟩ := hq
  have HCM : Hid (∀ o, Calls Tryz.prog 15 #[c] (w.alloc o) fun e w' => e = .returned (.int .i64 (colsF C n)) ∧ Below (w.alloc o).heap.size (w.alloc o) w') := fun o => colsFault_is c n C _ (hc.below ((Below.refl _ _).alloc (Nat.le_refl _) _)) hf.2
  obtain ⟨ca, ccap, rfl, _, _, _, _⟩ := hc
  have h0' : (colsF C n != 0) = true := by simpa using h0
  clear h0 hf q2
  generalize colsF C n = F at *
  go_enter Tryz.func72, Tryz.ntmps72
  go_wp2_with (first | (go_at_call 15; refine (HCM.out _).mono ?_; rintro e w1 ⟨rfl, hb1⟩))
  go_ret
  exact ⟨ret_int HF.out.symm, ((Below.refl _ _).alloc (Nat.le_refl _) _).trans (hb1.mono (by simp))⟩
set_option maxHeartbeats 800000 in
theorem relFault_big (c q : Value) (n m : Nat) (C : Nat → ByteArray) (R : Nat → Row) (w : World) (hc : StrsIs w c n C) (hq : RowsIs w q m R) (hf : StrsFine n C) (h0 : colsF C n = 0) (hm : 1000000 < m) :
    Calls Tryz.prog 72 #[.agg #[c, q]] w fun e w' => e = .returned (.int .i64 (relF C n R m)) ∧ Below w.heap.size w w' := by
  have HF : Hid (relF C n R m = 1) := (relF_made (by rw [madeF_rows h0, if_pos hm]; decide)).trans (by rw [madeF_rows h0, if_pos hm])
  obtain ⟨qa, qcap, rfl, q1, q2, _, _⟩ := hq
  have hmm : m ≤ 9223372036854775807 := by unfold maxLen at q2; omega
  have HCM : Hid (∀ o, Calls Tryz.prog 15 #[c] (w.alloc o) fun e w' => e = .returned (.int .i64 0) ∧ Below (w.alloc o).heap.size (w.alloc o) w') := fun o => by
    have h := colsFault_is c n C _ (hc.below ((Below.refl _ _).alloc (Nat.le_refl _) o)) hf.2
    rwa [h0] at h
  obtain ⟨ca, ccap, rfl, _, _, _, _⟩ := hc
  clear h0 hf q2
  go_enter Tryz.func72, Tryz.ntmps72
  go_wp2_with (first | (go_at_call 15; refine (HCM.out _).mono ?_; rintro e w1 ⟨rfl, hb1⟩; obtain ⟨hc1, hc2⟩ := bcell hb1))
  go_ret
  exact ⟨ret_int HF.out.symm, ((Below.refl _ _).alloc (Nat.le_refl _) _).trans (hb1.mono (by simp))⟩

set_option maxHeartbeats 3200000 in
theorem relFault_some (c : Value) (b off m cap n : Nat) (C : Nat → ByteArray) (R : Nat → Row) (w : World) (hc : StrsIs w c n C) (hcap : m ≤ cap) (hcm : m ≤ 1000000) (hb0 : b < w.heap.size) (hq : RowsAt w b off m R) (hf : StrsFine n C) (hg : RowsFine m R) (hT : Tabs w) (h0 : colsF C n = 0) :
    Calls Tryz.prog 72 #[.agg #[c, .slice (some ⟨b, off, none⟩) m cap]] w fun e w' => e = .returned (.int .i64 (relF C n R m)) ∧ Below w.heap.size w w' := by
  have H0 : Hid (madeF C n m = 0) := by
    have h : madeF C n m = 0 := by rw [madeF_rows h0, if_neg (by omega)]
    exact h
  have HCM : Hid (∀ o, Calls Tryz.prog 15 #[c] (w.alloc o) fun e w' => e = .returned (.int .i64 0) ∧ Below (w.alloc o).heap.size (w.alloc o) w') := fun o => by
    have h := colsFault_is c n C _ (hc.below ((Below.refl _ _).alloc (Nat.le_refl _) o)) hf.2
    rwa [h0] at h
  have HQ : Hid (∀ W i, Below w.heap.size w W → i < m → ∃ u, W.cell? ⟨b, off + i, none⟩ = some u ∧ ItsIs W u (R i).len (R i).at_) := fun W i hW hi => by
    obtain ⟨u, h1, h2⟩ := hq i hi
    exact ⟨u, (hW.cell (p := ⟨b, off + i, none⟩) hb0).trans h1, h2.below hW⟩
  have CI : Hid (∀ W i k, Below w.heap.size w W → i < m → k < (R i).len → Calls Tryz.prog 108 #[.agg #[.int .i64 ((R i).at_ k).kind, .int .i64 ((R i).at_ k).n, .string ((R i).at_ k).s]] W fun e w' => e = .returned (.bool (mayI ((R i).at_ k))) ∧ Below W.heap.size W w') := fun W i k hW hi hk => itemMay_any _ _ _ W ((hg.2 i hi).2 k hk) (Utf8Tabs_below hT hW)
  obtain ⟨ca, ccap, rfl, c1, c2, _, _⟩ := hc
  have hmm : m ≤ 9223372036854775807 := by omega
  have hnn : n ≤ 9223372036854775807 := by unfold maxLen at c2; omega
  clear hq hf hg hT h0 c2
  go_enter Tryz.func72, Tryz.ntmps72
  go_wp2_with (first | (go_at_call 15; refine (HCM.out _).mono ?_; rintro e w1 ⟨rfl, hb1⟩; obtain ⟨hc1, hc2⟩ := bcell hb1))
  have HB1 : Hid (Below (w.alloc (.cells #[.slice ca n ccap, .slice (some ⟨b, off, none⟩) m cap] 40)).heap.size (w.alloc (.cells #[.slice ca n ccap, .slice (some ⟨b, off, none⟩) m cap] 40)) w1) := hb1
  clear hb1 hc1 hc2
  go_loopw [4] (fun i wr => ∃ k : Nat, k ≤ m ∧ i = .int .i64 k ∧ (∀ j, j < k → rowE n R j = 0) ∧ Below (w.alloc (.cells #[.slice ca n ccap, .slice (some ⟨b, off, none⟩) m cap] 40)).heap.size (w.alloc (.cells #[.slice ca n ccap, .slice (some ⟨b, off, none⟩) m cap] 40)) wr) (fun i _ => m - (intOf i).toNat)
  case atStart => exact ⟨0, Nat.zero_le _, rfl, fun j hj => by omega, HB1.out⟩
  case round =>
    obtain ⟨k, hk, rfl, hok, hbr⟩ := hrel
    obtain ⟨x0, x1, x2⟩ := box2 hbr
    have HOK : Hid (∀ j, j < k → rowE n R j = 0) := hok
    have HBR : Hid (Below (w.alloc (.cells #[.slice ca n ccap, .slice (some ⟨b, off, none⟩) m cap] 40)).heap.size (w.alloc (.cells #[.slice ca n ccap, .slice (some ⟨b, off, none⟩) m cap] 40)) wr) := hbr
    have HBW : Hid (Below w.heap.size w wr) := ((Below.refl _ _).alloc (Nat.le_refl _) _).trans (hbr.mono (by simp))
    have HTW : Hid (∀ W, Below (w.alloc (.cells #[.slice ca n ccap, .slice (some ⟨b, off, none⟩) m cap] 40)).heap.size (w.alloc (.cells #[.slice ca n ccap, .slice (some ⟨b, off, none⟩) m cap] 40)) W → Below w.heap.size w W) := fun W hW => ((Below.refl _ _).alloc (Nat.le_refl _) _).trans (hW.mono (by simp))
    by_cases hlt : k < m
    · obtain ⟨u, e1, hu⟩ := HQ.out wr k HBW.out hlt
      obtain ⟨ua, ucap, rfl, u1, u2, _, _⟩ := hu
      have hun : (R k).len ≤ 9223372036854775807 := by unfold maxLen at u2; omega
      have hbz : b < wr.heap.size := by omega
      have hki : (k : Int) < (m : Int) := by omega
      clear hok hbr u2
      by_cases hln : (R k).len = n
      · have HLN : Hid ((R k).len = n) := hln
        have hl1 : (((R k).len : Int) != (n : Int)) = false := by rw [hln]; simp
        clear hln
        go_wp2
        go_quiet (fail)
        go_wp2
        clear x0 x1 x2 e1 hbz
        go_loopw [5] (fun i wr => ∃ q : Nat, q ≤ (R k).len ∧ i = .int .i64 q ∧ (∀ j, j < q → mayI ((R k).at_ j) = true) ∧ Below (w.alloc (.cells #[.slice ca n ccap, .slice (some ⟨b, off, none⟩) m cap] 40)).heap.size (w.alloc (.cells #[.slice ca n ccap, .slice (some ⟨b, off, none⟩) m cap] 40)) wr) (fun i _ => (R k).len - (intOf i).toNat)
        case atStart => exact ⟨0, Nat.zero_le _, rfl, fun j hj => by omega, below_drawn HBR.out _⟩
        case round =>
          obtain ⟨q, hq, rfl, hok, hbr⟩ := hrel
          obtain ⟨x0, x1, x2⟩ := box2 hbr
          have HQK : Hid (∀ j, j < q → mayI ((R k).at_ j) = true) := hok
          have HB2 : Hid (Below (w.alloc (.cells #[.slice ca n ccap, .slice (some ⟨b, off, none⟩) m cap] 40)).heap.size (w.alloc (.cells #[.slice ca n ccap, .slice (some ⟨b, off, none⟩) m cap] 40)) wr) := hbr
          have HBW2 : Hid (Below w.heap.size w wr) := HTW.out wr hbr
          obtain ⟨u, e1, hu⟩ := HQ.out wr k HBW2.out hlt
          obtain ⟨ua2, ucap2, rfl, v1, v2, _, v3⟩ := hu
          have hbz : b < wr.heap.size := by omega
          clear hok hbr v2
          by_cases hqk : q < (R k).len
          · obtain ⟨ub, uoff, rfl, ub1, ub2⟩ := v3 (by omega)
            obtain ⟨g1, g2, g3⟩ := ub2 q hqk
            have HCI : Hid (Calls Tryz.prog 108 #[.agg #[.int .i64 ((R k).at_ q).kind, .int .i64 ((R k).at_ q).n, .string ((R k).at_ q).s]] wr fun e w' => e = .returned (.bool (mayI ((R k).at_ q))) ∧ Below wr.heap.size wr w') := CI.out wr k q HBW2.out hlt hqk
            clear ub2 v3
            cases ha : mayI ((R k).at_ q)
            · have HF : Hid (relF C n R m = 12) := relF_err H0.out hlt HOK.out (rowE_value HLN.out (all_no hqk ha)) (by decide)
              rw [ha] at HCI
              clear ha
              go_wp2_with (first | (go_at_call 108; refine HCI.out.mono ?_; rintro e w2 ⟨rfl, hb2⟩))
              go_ret
              exact ⟨ret_int HF.out.symm, HBW2.out.trans (hb2.mono HBW2.out.size)⟩
            · have HA : Hid (mayI ((R k).at_ q) = true) := ha
              rw [ha] at HCI
              clear ha
              go_wp2_with (first | (go_at_call 108; refine HCI.out.mono ?_; rintro e w2 ⟨rfl, hb2⟩; have HB3 : Hid (Below (w.alloc (.cells #[.slice ca n ccap, .slice (some ⟨b, off, none⟩) m cap] 40)).heap.size (w.alloc (.cells #[.slice ca n ccap, .slice (some ⟨b, off, none⟩) m cap] 40)) w2) := HB2.out.trans (hb2.mono HB2.out.size); clear hb2))
              go_roundw
              case rel =>
                refine ⟨q + 1, by omega, by go_num, fun j hj => ?_, HB3.out⟩
                by_cases e : j = q
                · rw [e]; exact HA.out
                · exact HQK.out j (by omega)
              case measure => simp [intOf]; omega
          · have e : q = (R k).len := by omega
            subst e
            have HE : Hid (rowE n R k = 0) := rowE_ok HLN.out (all_yes HQK.out)
            clear v3
            go_wp2
            go_roundw
            case rel => exact ⟨k + 1, by omega, by go_num, okE_succ HOK.out HE.out, HB2.out⟩
            case measure => simp [intOf]; omega
      · have HF : Hid (relF C n R m = 9) := relF_err H0.out hlt HOK.out (rowE_len hln) (by decide)
        have hl2 : (((R k).len : Int) != (n : Int)) = true := bne_iff_ne.2 (by omega)
        clear hln
        go_wp2
        go_quiet (fail)
        go_wp2
        go_ret
        exact ⟨ret_int HF.out.symm, below_drawn HBW.out _⟩
    · have e : k = m := by omega
      subst e
      have HF : Hid (relF C n R k = 0) := relF_ok H0.out HOK.out
      clear hok hbr
      go_wp2
      go_ret
      exact ⟨ret_int HF.out.symm, HBW.out⟩
set_option maxHeartbeats 800000 in
theorem relFault_zero (c : Value) (a : Option Addr) (cap n : Nat) (C : Nat → ByteArray) (R : Nat → Row) (w : World) (hc : StrsIs w c n C) (hf : StrsFine n C) (h0 : colsF C n = 0) :
    Calls Tryz.prog 72 #[.agg #[c, .slice a 0 cap]] w fun e w' => e = .returned (.int .i64 (relF C n R 0)) ∧ Below w.heap.size w w' := by
  have HF : Hid (relF C n R 0 = 0) := relF_ok (by rw [madeF_rows h0]; rfl) (fun j hj => by omega)
  have HCM : Hid (∀ o, Calls Tryz.prog 15 #[c] (w.alloc o) fun e w' => e = .returned (.int .i64 0) ∧ Below (w.alloc o).heap.size (w.alloc o) w') := fun o => by
    have h := colsFault_is c n C _ (hc.below ((Below.refl _ _).alloc (Nat.le_refl _) o)) hf.2
    rwa [h0] at h
  obtain ⟨ca, ccap, rfl, c1, c2, _, _⟩ := hc
  clear hf h0 c2
  go_enter Tryz.func72, Tryz.ntmps72
  go_wp2_with (first | (go_at_call 15; refine (HCM.out _).mono ?_; rintro e w1 ⟨rfl, hb1⟩; obtain ⟨hc1, hc2⟩ := bcell hb1))
  have HB1 : Hid (Below w.heap.size w w1) := ((Below.refl _ _).alloc (Nat.le_refl _) _).trans (hb1.mono (by simp))
  clear hb1
  go_loop [4] (fun i => i = .int .i64 0) (fun _ => 0)
  case atStart => rfl
  case round =>
    subst hrel
    go_wp2
    go_ret
    exact ⟨ret_int HF.out.symm, HB1.out⟩
/-- RelFault, at a relation wherever it lies -/
theorem relFault_is (c q : Value) (n m : Nat) (C : Nat → ByteArray) (R : Nat → Row) (w : World) (hc : StrsIs w c n C) (hq : RowsIs w q m R) (hf : StrsFine n C) (hg : RowsFine m R) (hT : Tabs w) :
    Calls Tryz.prog 72 #[.agg #[c, q]] w fun e w' => e = .returned (.int .i64 (relF C n R m)) ∧ Below w.heap.size w w' := by
  by_cases h0 : colsF C n = 0
  · by_cases hm : 1000000 < m
    · exact relFault_big c q n m C R w hc hq hf h0 hm
    · obtain ⟨a, cap, rfl, h1, h2, _, h3⟩ := hq
      rcases Nat.eq_zero_or_pos m with hz | hz
      · subst hz
        exact relFault_zero c a cap n C R w hc hf h0
      · obtain ⟨b, off, rfl, h4, h5⟩ := h3 hz
        exact relFault_some c b off m cap n C R w hc h1 (by omega) h4 h5 hf hg hT h0
  · exact relFault_cols c q n m C R w hc hq hf h0
end Go.Proofs.YtkcejelmohameaaGreatDoor
