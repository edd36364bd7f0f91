/-
  CONTRACT: the document's answer to what is said of a token (pleacherref.TokenFault).
-/
import Derived.Test.YtcppodmgeonabaaDoorTkCheck
import Derived.Test.YtcppodmgeonabaaDoorTkStep
set_option linter.unusedVariables false
namespace Go.Proofs.YtcppodmgeonabaaDoor
set_option maxRecDepth 100000
open Go.RowKit

theorem hasQ_hit {s : ByteArray} {k : Nat} (hk : k < s.size) (h : byteAt s k = 34) : hasQ s.data.toList = true := by
  unfold hasQ
  rw [List.contains_iff_mem]
  have hk' : k < s.data.toList.length := by simpa using hk
  have e : s.data.toList[k] = 34 := by
    unfold byteAt at h
    rw [List.getD_eq_getElem?_getD, List.getElem?_eq_getElem hk'] at h
    simp only [Option.getD_some] at h
    exact UInt8.toNat_inj.1 (show (s.data.toList[k]).toNat = 34 by omega)
  exact e ▸ List.getElem_mem hk'
theorem hasQ_miss {s : ByteArray} (h : ∀ k, k < s.size → byteAt s k ≠ 34) : hasQ s.data.toList = false := by
  cases e : hasQ s.data.toList with
  | false => rfl
  | true =>
    unfold hasQ at e
    rw [List.contains_iff_mem] at e
    obtain ⟨k, hk, hke⟩ := List.mem_iff_getElem.1 e
    refine absurd ?_ (h k (by simpa using hk))
    unfold byteAt
    rw [List.getD_eq_getElem?_getD, List.getElem?_eq_getElem hk]
    simp only [Option.getD_some, hke]
    rfl

theorem allMarks_ex (W : World) : Calls Tryd.prog 15 #[] W fun e w' => ∃ v, e = .returned v ∧ ∃ b, v = .slice (some ⟨b, 0, none⟩) 26 26 ∧ Below W.heap.size W w' ∧ ∀ i, i < 26 → w'.cell? ⟨b, i, none⟩ = some (.string (mkS i)) :=
  (allMarks_any W).mono fun e w' ⟨h1, h2, _, h3⟩ => ⟨_, h1, _, rfl, h2, h3⟩
theorem hasMark_ex (b : Nat) (s : ByteArray) (w : World) (hc : ∀ i, i < 26 → w.cell? ⟨b, i, none⟩ = some (.string (mkS i))) :
    Calls Tryd.prog 14 #[.slice (some ⟨b, 0, none⟩) 26 26, .string s] w fun e w' => ∃ v, e = .returned v ∧ v = .bool (isMk s.data.toList) ∧ w' = w :=
  (hasMark_any b s w hc).mono fun e w' ⟨h1, h2⟩ => ⟨_, h1, rfl, h2⟩

set_option maxHeartbeats 1600000 in
/-- a token that is a mark -/
theorem tokenFault_mark (s : ByteArray) (w : World) (hs : s.size ≤ maxLen) :
    Calls Tryd.prog 6 #[.agg #[.int .i64 5, .string s, .int .i64 0]] w fun e w' => e = .returned (.int .i64 (txF 5 s)) ∧ Below w.heap.size w w' := by
  have hi : inB 5 1 5 = true := by decide
  have HF : Hid (txF 5 s = if isMk s.data.toList = true then 0 else 6) := rfl
  generalize txF 5 s = F at HF
  have CH : Hid (∀ b W, (∀ i, i < 26 → W.cell? ⟨b, i, none⟩ = some (.string (mkS i))) → Calls Tryd.prog 14 #[.slice (some ⟨b, 0, none⟩) 26 26, .string s] W fun e w' => ∃ v, e = .returned v ∧ v = .bool (isMk s.data.toList) ∧ w' = W) := fun b W h => hasMark_ex b s W h
  generalize isMk s.data.toList = B at *
  clear hs
  go_enter Tryd.func6, Tryd.ntmps6
  go_upto_region 19 with (go_at_call 12; refine (in_any _ _ _ _).mono ?_; rintro e w' ⟨rfl, rfl⟩)
  go_region_law (first
    | (refine step_call rfl 15 #[] (by simp [go_sem]) (fun v w' => ∃ b, v = .slice (some ⟨b, 0, none⟩) 26 26 ∧ Below _ _ w' ∧ ∀ i, i < 26 → w'.cell? ⟨b, i, none⟩ = some (.string (mkS i))) (allMarks_ex _) ?_; rintro v1 w1 ⟨b, rfl, hb, hcs⟩; have HCS : Hid (∀ i, i < 26 → w1.cell? ⟨b, i, none⟩ = some (.string (mkS i))) := hcs; have HB1 : Hid (Below w.heap.size w w1) := (((Below.refl _ _).alloc (Nat.le_refl _) _).drew).trans (hb.mono (by simp)); have y1 : w1.cell? ⟨w.heap.size, 1, none⟩ = some (.string s) := (hb.cell (p := ⟨w.heap.size, 1, none⟩) (by simp)).trans (by simp); have y2 : w.heap.size < w1.heap.size := Nat.lt_of_lt_of_le (by simp) hb.size; clear hb hcs)
    | (refine step_call rfl 14 #[.slice (some ⟨b, 0, none⟩) 26 26, .string s] (by simp [go_sem]) (fun v w' => v = .bool B ∧ w' = _) (CH.out b _ HCS.out) ?_; rintro v2 w2 ⟨rfl, rfl⟩))
  all_goals
    cases B
    all_goals
      go_wp2_with fail
      go_ret
      exact ⟨ret_int (by rw [HF.out]; rfl), HB1.out⟩

set_option maxHeartbeats 1600000 in
/-- a token that is quoted -/
theorem tokenFault_quoted (s : ByteArray) (w : World) (hs : s.size ≤ maxLen) (hT : Tabs w) :
    Calls Tryd.prog 6 #[.agg #[.int .i64 3, .string s, .int .i64 0]] w fun e w' => e = .returned (.int .i64 (txF 3 s)) ∧ Below w.heap.size w w' := by
  have hi : inB 3 1 5 = true := by decide
  have HF : Hid (txF 3 s = if hasQ s.data.toList = true then 4 else textF s) := rfl
  generalize txF 3 s = F at HF
  have CT : Hid (∀ o, Calls Tryd.prog 13 #[.string s] (w.alloc o) fun e w' => e = .returned (.int .i64 (textF s)) ∧ Below (w.alloc o).heap.size (w.alloc o) w') :=
    fun o => valueFault_any s _ hs (Utf8Tabs_below hT ((Below.refl _ _).alloc (Nat.le_refl _) _))
  unfold maxLen at hs
  clear hT
  go_enter Tryd.func6, Tryd.ntmps6
  go_wp2_with (go_at_call 12; refine (in_any _ _ _ _).mono ?_; rintro e w' ⟨rfl, rfl⟩)
  go_loop [3] (fun i => ∃ k : Nat, k ≤ s.size ∧ i = .int .i64 k ∧ ∀ j, j < k → byteAt s j ≠ 34) (fun i => s.size - (intOf i).toNat)
  case atStart => exact ⟨0, Nat.zero_le _, rfl, fun j hj => by omega⟩
  case round =>
    obtain ⟨k, hk, rfl, hok⟩ := hrel
    have HOK : Hid (∀ j, j < k → byteAt s j ≠ 34) := hok
    clear hok
    by_cases hlt : k < s.size
    · have hbe := byteAt_eq s k hlt
      by_cases hq : byteAt s k = 34
      · have HR : Hid (hasQ s.data.toList = true) := hasQ_hit hlt hq
        have hq' : ((s[k].toNat : Int) == 34) = true := by rw [hbe, hq]; rfl
        clear hbe hq
        go_wp2
        go_ret
        exact ⟨ret_int (by rw [HF.out, HR.out]; rfl), (Below.refl _ _).alloc (Nat.le_refl _) _⟩
      · have HQ : Hid (byteAt s k ≠ 34) := hq
        have hq' : ((s[k].toNat : Int) == 34) = false := by rw [hbe]; simpa using hq
        clear hbe hq
        go_wp2
        go_round
        case rel => exact ⟨k + 1, by omega, by go_num, fun j hj => by
          by_cases e : j = k
          · rw [e]; exact HQ.out
          · exact HOK.out j (by omega)⟩
        case measure => simp [intOf]; omega
    · have e : k = s.size := by omega
      have HR : Hid (hasQ s.data.toList = false) := hasQ_miss (fun j hj => HOK.out j (by omega))
      go_wp2_with (go_at_call 13; refine (CT.out _).mono ?_; rintro e w2 ⟨rfl, hb⟩)
      go_ret
      exact ⟨ret_int (by rw [HF.out, HR.out]; rfl), ((Below.refl _ _).alloc (Nat.le_refl _) _).trans (hb.mono (by simp))⟩

theorem inB_yes {n l h : Int} (h1 : l ≤ n) (h2 : n ≤ h) : inB n l h = true := by simp [inB]; omega
theorem inB_no {n l h : Int} (h1 : ¬ (l ≤ n ∧ n ≤ h)) : inB n l h = false := by simp [inB]; omega
theorem nmB_is (s : ByteArray) : nmB s = (inB (s.size : Int) 1 20 && decide (wl s.data.toList true = s.size)) := by
  unfold nmB inB
  congr 1
  rw [Bool.eq_iff_iff]; simp; omega

set_option maxHeartbeats 1600000 in
/-- a token that is a word, or a variable -/
theorem tokenFault_word (k : Int) (hk : k = 1 ∨ k = 4) (s : ByteArray) (w : World) (hs : s.size ≤ maxLen) :
    Calls Tryd.prog 6 #[.agg #[.int .i64 k, .string s, .int .i64 0]] w fun e w' => e = .returned (.int .i64 (txF k s)) ∧ Below w.heap.size w w' := by
  have HF : Hid (txF k s = if nmB s = true then 0 else 10) := (if_neg (by omega)).trans (if_neg (by omega))
  generalize txF k s = F at HF
  have CW : Hid (∀ W, Calls Tryd.prog 16 #[.string s, .int .i64 0] W fun e w' => e = .returned (.int .i64 ((wl s.data.toList true : Nat) : Int)) ∧ w' = W) := fun W => by
    have := wordTo_any s 0 W hs (Nat.zero_le _)
    rw [List.drop_zero, Nat.zero_add] at this
    exact this
  have HN : Hid (nmB s = (inB (s.size : Int) 1 20 && decide (wl s.data.toList true = s.size))) := nmB_is s
  unfold maxLen at hs
  have hi : inB k 1 5 = true := inB_yes (by omega) (by omega)
  generalize nmB s = B at *
  generalize wl s.data.toList true = L at *
  have hA : ∃ A, inB (s.size : Int) 1 20 = A := ⟨_, rfl⟩
  obtain ⟨A, hA⟩ := hA
  rw [hA] at HN
  cases A
  · have HR : Hid (B = false) := HN.out
    clear HN
    rcases hk with rfl | rfl
    all_goals
      go_enter Tryd.func6, Tryd.ntmps6
      go_wp2_with (go_at_call 12; refine (in_any _ _ _ _).mono ?_; rintro e w' ⟨rfl, rfl⟩)
      go_quiet ((go_at_call 12; exact Calls.quiet_of_same (in_any _ _ _ _)))
      go_wp2
      go_ret
      exact ⟨ret_int (by rw [HF.out, HR.out]; rfl), below_drawnT ((Below.refl _ _).alloc (Nat.le_refl _) _) _⟩
  · by_cases hL : L = s.size
    · have HR : Hid (B = true) := HN.out.trans (by rw [decide_eq_true hL]; rfl)
      have hl : ((L : Int) == (s.size : Int)) = true := by simp; omega
      clear HN hL
      rcases hk with rfl | rfl
      all_goals
        go_enter Tryd.func6, Tryd.ntmps6
        go_wp2_with (go_at_call 12; refine (in_any _ _ _ _).mono ?_; rintro e w' ⟨rfl, rfl⟩)
        go_quiet ((first | (go_at_call 12; exact Calls.quiet_of_same (in_any _ _ _ _)) | (go_at_call 16; exact Calls.quiet_of_same (CW.out _))))
        go_wp2
        go_ret
        exact ⟨ret_int (by rw [HF.out, HR.out]; rfl), below_drawnT ((Below.refl _ _).alloc (Nat.le_refl _) _) _⟩
    · have HR : Hid (B = false) := HN.out.trans (by rw [decide_eq_false hL]; rfl)
      have hl : ((L : Int) == (s.size : Int)) = false := by simp; omega
      clear HN hL
      rcases hk with rfl | rfl
      all_goals
        go_enter Tryd.func6, Tryd.ntmps6
        go_wp2_with (go_at_call 12; refine (in_any _ _ _ _).mono ?_; rintro e w' ⟨rfl, rfl⟩)
        go_quiet ((first | (go_at_call 12; exact Calls.quiet_of_same (in_any _ _ _ _)) | (go_at_call 16; exact Calls.quiet_of_same (CW.out _))))
        go_wp2
        go_ret
        exact ⟨ret_int (by rw [HF.out, HR.out]; rfl), below_drawnT ((Below.refl _ _).alloc (Nat.le_refl _) _) _⟩

set_option maxHeartbeats 800000 in
/-- a token that is a number -/
theorem tokenFault_num (n : Int) (s : ByteArray) (w : World) :
    Calls Tryd.prog 6 #[.agg #[.int .i64 2, .string s, .int .i64 n]] w fun e w' => e = .returned (.int .i64 (numF s n)) ∧ Below w.heap.size w w' := by
  have hi : inB 2 1 5 = true := by decide
  have HF : Hid (numF s n = if n < 0 ∨ 1099511627776 < n then 2 else if s.size ≠ 0 then 4 else 0) := rfl
  generalize numF s n = F at HF
  by_cases hn : n < 0 ∨ 1099511627776 < n
  · have HR : Hid (F = 2) := HF.out.trans (if_pos hn)
    have hj : inB n 0 1099511627776 = false := inB_no (by omega)
    clear HF hn
    go_enter Tryd.func6, Tryd.ntmps6
    go_wp2_with (go_at_call 12; refine (in_any _ _ _ _).mono ?_; rintro e w' ⟨rfl, rfl⟩)
    go_ret
    exact ⟨ret_int HR.out.symm, (Below.refl _ _).alloc (Nat.le_refl _) _⟩
  have HG : Hid (F = if s.size ≠ 0 then 4 else 0) := HF.out.trans (if_neg hn)
  have hj : inB n 0 1099511627776 = true := inB_yes (by omega) (by omega)
  clear HF hn
  by_cases hz : s.size = 0
  · have he := isEmpty_yes hz
    have HR : Hid (F = 0) := HG.out.trans (if_neg (by omega))
    clear HG hz
    go_enter Tryd.func6, Tryd.ntmps6
    go_wp2_with (go_at_call 12; refine (in_any _ _ _ _).mono ?_; rintro e w' ⟨rfl, rfl⟩)
    go_ret
    exact ⟨ret_int HR.out.symm, (Below.refl _ _).alloc (Nat.le_refl _) _⟩
  · have he := isEmpty_no hz
    have HR : Hid (F = 4) := HG.out.trans (if_pos hz)
    clear HG hz
    go_enter Tryd.func6, Tryd.ntmps6
    go_wp2_with (go_at_call 12; refine (in_any _ _ _ _).mono ?_; rintro e w' ⟨rfl, rfl⟩)
    go_ret
    exact ⟨ret_int HR.out.symm, (Below.refl _ _).alloc (Nat.le_refl _) _⟩

set_option maxHeartbeats 800000 in
theorem tokenFault_any (k n : Int) (s : ByteArray) (w : World) (hs : s.size ≤ maxLen) (hT : Tabs w) :
    Calls Tryd.prog 6 #[.agg #[.int .i64 k, .string s, .int .i64 n]] w fun e w' => e = .returned (.int .i64 (tokF k s n)) ∧ Below w.heap.size w w' := by
  rw [tokF_is]
  by_cases hk : 1 ≤ k ∧ k ≤ 5
  · rw [if_neg (by omega)]
    by_cases k2 : k = 2
    · subst k2
      rw [if_pos rfl]
      exact tokenFault_num n s w
    rw [if_neg k2]
    by_cases hn : n = 0
    · subst hn
      rw [if_neg (by omega)]
      have hk' : k = 3 ∨ k = 5 ∨ k = 1 ∨ k = 4 := by omega
      rcases hk' with rfl | rfl | h
      · exact tokenFault_quoted s w hs hT
      · exact tokenFault_mark s w hs
      · exact tokenFault_word k h s w hs
    · rw [if_pos hn]
      have hn' : (n == 0) = false := by simpa using hn
      have hi : inB k 1 5 = true := inB_yes hk.1 hk.2
      have k2' : (k == 2) = false := by simpa using k2
      clear hn k2 hT hs hk
      go_enter Tryd.func6, Tryd.ntmps6
      go_wp2_with (go_at_call 12; refine (in_any _ _ _ _).mono ?_; rintro e w' ⟨rfl, rfl⟩)
      go_ret
      exact ⟨rfl, (Below.refl _ _).alloc (Nat.le_refl _) _⟩
  · rw [if_pos hk]
    have hi : inB k 1 5 = false := inB_no hk
    clear hT hs hk
    go_enter Tryd.func6, Tryd.ntmps6
    go_wp2_with (go_at_call 12; refine (in_any _ _ _ _).mono ?_; rintro e w' ⟨rfl, rfl⟩)
    go_ret
    exact ⟨rfl, (Below.refl _ _).alloc (Nat.le_refl _) _⟩
end Go.Proofs.YtcppodmgeonabaaDoor
