/-
  CONTRACTS: what is said of a token (read.checkNumber, checkTextOf, CheckToken).
-/
import Derived.Test.YteapocgpenokfaaGreatDoorTkWord
import Derived.Test.YteapocgpenokfaaGreatDoorTkMark
import Derived.Test.YteapocgpenokfaaGreatDoorTexts
import Derived.Deep.QuietTactic
import Derived.BigQuiet
import Derived.Lib.IndexAny
set_option linter.unusedVariables false
namespace Go.Proofs.YteapocgpenokfaaGreatDoor
set_option maxRecDepth 100000
open Go.RowKit

theorem isEmpty_yes {s : ByteArray} (h : s.size = 0) : s.toList.isEmpty = true := by
  rw [ByteArray.toList_eq, List.isEmpty_iff, List.eq_nil_iff_length_eq_zero]; exact h
theorem isEmpty_no {s : ByteArray} (h : ¬ s.size = 0) : s.toList.isEmpty = false := by
  rw [ByteArray.toList_eq, List.isEmpty_eq_false_iff, ne_eq, List.eq_nil_iff_length_eq_zero]; exact h
theorem below_drawnT {B : Nat} {w w' : World} (h : Below B w w') : ∀ n, Below B w (w'.drewN n)
  | 0 => h
  | n + 1 => (below_drawnT h n).drew

/-- what is said of a token's text -/
def txF (k : Int) (s : ByteArray) : Int :=
  if k = 3 then (if hasQ s.data.toList = true then 4 else textF s)
  else if k = 5 then (if isMk s.data.toList = true then 0 else 6)
  else if nmB s = true then 0 else 10
def numF (s : ByteArray) (n : Int) : Int := if n < 0 ∨ 1099511627776 < n then 2 else if s.size ≠ 0 then 4 else 0
theorem tokF_is (k : Int) (s : ByteArray) (n : Int) : tokF k s n = if ¬ (1 ≤ k ∧ k ≤ 5) then 3 else if k = 2 then numF s n else if n ≠ 0 then 4 else txF k s := by
  unfold tokF numF txF
  rfl

set_option maxHeartbeats 400000 in
theorem checkNumber_any (k n : Int) (s : ByteArray) (w : World) :
    Calls Tryz.prog 31 #[.agg #[.int .i64 k, .string s, .int .i64 n]] w fun e w' => e = .returned (.int .i64 (numF s n)) ∧ Below w.heap.size w w' := by
  have HF : Hid (numF s n = if n < 0 ∨ 1099511627776 < n then 2 else if s.size ≠ 0 then 4 else 0) := rfl
  generalize numF s n = F at HF
  by_cases hn : n < 0
  · have HR : Hid (F = 2) := HF.out.trans (if_pos (.inl hn))
    clear HF
    go_enter Tryz.func31, Tryz.ntmps31
    go_wp2
    go_ret
    exact ⟨ret_int HR.out.symm, (Below.refl _ _).alloc (Nat.le_refl _) _⟩
  by_cases hm : 1099511627776 < n
  · have HR : Hid (F = 2) := HF.out.trans (if_pos (.inr hm))
    clear HF
    go_enter Tryz.func31, Tryz.ntmps31
    go_wp2
    go_ret
    exact ⟨ret_int HR.out.symm, (Below.refl _ _).alloc (Nat.le_refl _) _⟩
  have HG : Hid (F = if s.size ≠ 0 then 4 else 0) := HF.out.trans (if_neg (by omega))
  clear HF
  by_cases hz : s.size = 0
  · have he := isEmpty_yes hz
    have HR : Hid (F = 0) := HG.out.trans (if_neg (by omega))
    clear HG hz
    go_enter Tryz.func31, Tryz.ntmps31
    go_wp2
    go_ret
    exact ⟨ret_int HR.out.symm, (Below.refl _ _).alloc (Nat.le_refl _) _⟩
  · have he := isEmpty_no hz
    have HR : Hid (F = 4) := HG.out.trans (if_pos hz)
    clear HG hz
    go_enter Tryz.func31, Tryz.ntmps31
    go_wp2
    go_ret
    exact ⟨ret_int HR.out.symm, (Below.refl _ _).alloc (Nat.le_refl _) _⟩

theorem hasQ_is (s : ByteArray) : decide (0 ≤ Lib.indexByte s.data.toList 34) = hasQ s.data.toList := (Lib.contains_iff_indexByte s.data.toList 34).symm
theorem fm_eq_yes {s : ByteArray} (h : isMk s.data.toList = true) : ((⟨(fm s.data.toList).toArray⟩ : ByteArray).toList == s.toList) = true := by
  rw [fm_isMk, Bool.and_eq_true] at h
  have h2 := of_decide_eq_true h.2
  rw [h2]
  simp [ByteArray.toList_eq]
theorem fm_eq_no {s : ByteArray} (h : isMk s.data.toList = false) (hz : ¬ s.size = 0) : ((⟨(fm s.data.toList).toArray⟩ : ByteArray).toList == s.toList) = false := by
  cases e : ((⟨(fm s.data.toList).toArray⟩ : ByteArray).toList == s.toList) with
  | false => rfl
  | true =>
    have e' := (bytes_eq_iff _ _).1 e
    rw [fm_isMk] at h
    have h1 : fm s.data.toList = s.data.toList := by
      have := congrArg (fun x : ByteArray => x.data.toList) e'
      simpa using this
    have h2 : s.data.toList ≠ [] := by
      intro e0
      exact hz (by simpa using congrArg List.length e0)
    rw [decide_eq_true h1, decide_eq_true h2] at h
    exact absurd h (by decide)

set_option maxHeartbeats 1600000 in
theorem checkTextOf_any (k n : Int) (s : ByteArray) (w : World) (hs : s.size ≤ maxLen) (hT : Tabs w) (hM : MarkTab w) (hg : 0 < w.heap.size) :
    Calls Tryz.prog 32 #[.agg #[.int .i64 k, .string s, .int .i64 n]] w fun e w' => e = .returned (.int .i64 (txF k s)) ∧ Below w.heap.size w w' := by
  have CT : Hid (∀ o, Calls Tryz.prog 45 #[.string s] (w.alloc o) fun e w' => e = .returned (.int .i64 (textF s)) ∧ Below (w.alloc o).heap.size (w.alloc o) w') :=
    fun o => checkText_any s _ hs (Utf8Tabs_below hT ((Below.refl _ _).alloc (Nat.le_refl _) _))
  have CQ : Hid (∀ W, Calls Tryz.prog 48 #[.string s, .string ⟨#[34]⟩] W fun e w' => e = .returned (.bool (hasQ s.data.toList)) ∧ w' = W) := fun W => by
    have := Tryz.strings_Contains_one s 34 W
    rw [hasQ_is] at this
    exact this
  have CF : Hid (∀ o z, Calls Tryz.prog 25 #[.string s] ((w.alloc o).drewN z) fun e w' => e = .returned (.string ⟨(fm s.data.toList).toArray⟩) ∧ w' = (w.alloc o).drewN z) :=
    fun o z => firstMark_any s _ (hM.below (below_drawnT ((Below.refl _ _).alloc (Nat.le_refl _) _) z) hg)
  have CN : Hid (∀ W, Calls Tryz.prog 42 #[.string s] W fun e w' => e = .returned (.bool (nmB s)) ∧ w' = W) := fun W => isName_any2 s W hs
  have HF : Hid (txF k s = if k = 3 then (if hasQ s.data.toList = true then 4 else textF s) else if k = 5 then (if isMk s.data.toList = true then 0 else 6) else if nmB s = true then 0 else 10) := rfl
  generalize txF k s = F at HF
  clear hT hM hs hg
  by_cases k3 : k = 3
  · subst k3
    have HG : Hid (F = if hasQ s.data.toList = true then 4 else textF s) := HF.out
    clear HF CF CN
    generalize hasQ s.data.toList = B at *
    cases B
    all_goals
      go_enter Tryz.func32, Tryz.ntmps32
      go_wp2_with (first | (go_at_call 48; refine (CQ.out _).mono ?_; rintro e w2 ⟨rfl, rfl⟩) | (go_at_call 45; refine (CT.out _).mono ?_; rintro e w2 ⟨rfl, hb⟩))
      go_ret
      first
      | exact ⟨ret_int HG.out.symm, (Below.refl _ _).alloc (Nat.le_refl _) _⟩
      | exact ⟨ret_int HG.out.symm, ((Below.refl _ _).alloc (Nat.le_refl _) _).trans (hb.mono (by simp))⟩
  clear CT CQ
  by_cases k5 : k = 5
  · subst k5
    have HG : Hid (F = if isMk s.data.toList = true then 0 else 6) := HF.out
    clear HF CN
    by_cases hz : s.size = 0
    · have he := isEmpty_yes hz
      have HR : Hid (F = 6) := HG.out.trans (if_neg (by
        rw [show s.data.toList = [] from List.eq_nil_of_length_eq_zero (by simpa using hz)]; decide))
      clear HG hz CF
      go_enter Tryz.func32, Tryz.ntmps32
      go_wp2
      go_quiet (fail)
      go_wp2
      go_ret
      exact ⟨ret_int HR.out.symm, below_drawnT ((Below.refl _ _).alloc (Nat.le_refl _) _) _⟩
    · have he := isEmpty_no hz
      cases hk : isMk s.data.toList
      · have hq := fm_eq_no hk hz
        rw [hk] at HG
        clear hk hz
        generalize (⟨(fm s.data.toList).toArray⟩ : ByteArray) = M at *
        go_enter Tryz.func32, Tryz.ntmps32
        go_wp2
        go_quiet ((go_at_call 25; exact Calls.quiet_of_same (CF.out _ _)))
        go_wp2
        go_ret
        exact ⟨ret_int HG.out.symm, below_drawnT ((Below.refl _ _).alloc (Nat.le_refl _) _) _⟩
      · have hq := fm_eq_yes hk
        rw [hk] at HG
        clear hk hz
        generalize (⟨(fm s.data.toList).toArray⟩ : ByteArray) = M at *
        go_enter Tryz.func32, Tryz.ntmps32
        go_wp2
        go_quiet ((go_at_call 25; exact Calls.quiet_of_same (CF.out _ _)))
        go_wp2
        go_ret
        exact ⟨ret_int HG.out.symm, below_drawnT ((Below.refl _ _).alloc (Nat.le_refl _) _) _⟩
  · have HG : Hid (F = if nmB s = true then 0 else 10) := HF.out.trans ((if_neg k3).trans (if_neg k5))
    have k3' : (k == 3) = false := by simpa using k3
    have k5' : (k == 5) = false := by simpa using k5
    clear HF CF k3 k5
    generalize nmB s = B at *
    cases B
    all_goals
      go_enter Tryz.func32, Tryz.ntmps32
      go_wp2_with (first | (go_at_call 42; refine (CN.out _).mono ?_; rintro e w2 ⟨rfl, rfl⟩))
      go_ret
      exact ⟨ret_int HG.out.symm, (Below.refl _ _).alloc (Nat.le_refl _) _⟩

set_option maxHeartbeats 800000 in
theorem checkToken_any (k n : Int) (s : ByteArray) (w : World) (hs : s.size ≤ maxLen) (hT : Tabs w) (hM : MarkTab w) (hg : 0 < w.heap.size) :
    Calls Tryz.prog 16 #[.agg #[.int .i64 k, .string s, .int .i64 n]] w fun e w' => e = .returned (.int .i64 (tokF k s n)) ∧ Below w.heap.size w w' := by
  have CT : Hid (∀ o, Calls Tryz.prog 32 #[.agg #[.int .i64 k, .string s, .int .i64 n]] (w.alloc o) fun e w' => e = .returned (.int .i64 (txF k s)) ∧ Below (w.alloc o).heap.size (w.alloc o) w') :=
    fun o => checkTextOf_any k n s _ hs (Utf8Tabs_below hT ((Below.refl _ _).alloc (Nat.le_refl _) _)) (hM.below ((Below.refl _ _).alloc (Nat.le_refl _) _) hg) (by simp <;> omega)
  have CN : Hid (∀ o, Calls Tryz.prog 31 #[.agg #[.int .i64 k, .string s, .int .i64 n]] (w.alloc o) fun e w' => e = .returned (.int .i64 (numF s n)) ∧ Below (w.alloc o).heap.size (w.alloc o) w') :=
    fun o => checkNumber_any k n s _
  have HF : Hid (tokF k s n = if ¬ (1 ≤ k ∧ k ≤ 5) then 3 else if k = 2 then numF s n else if n ≠ 0 then 4 else txF k s) := tokF_is k s n
  generalize tokF k s n = F at HF
  generalize numF s n = A at *
  generalize txF k s = X at *
  clear hT hM hs hg
  by_cases k2 : k = 2
  · subst k2
    have HG : Hid (F = A) := HF.out
    clear HF CT
    go_enter Tryz.func16, Tryz.ntmps16
    go_wp2_with (first | (go_at_call 31; refine (CN.out _).mono ?_; rintro e w2 ⟨rfl, hb⟩))
    go_ret
    exact ⟨ret_int HG.out.symm, ((Below.refl _ _).alloc (Nat.le_refl _) _).trans (hb.mono (by simp))⟩
  clear CN
  by_cases hk : 1 ≤ k ∧ k ≤ 5
  · have hk' : k = 1 ∨ k = 3 ∨ k = 4 ∨ k = 5 := by omega
    have HG : Hid (F = if n ≠ 0 then 4 else X) := HF.out.trans ((if_neg (by omega)).trans (if_neg k2))
    clear HF
    by_cases hn : n = 0
    · subst hn
      have HR : Hid (F = X) := HG.out
      clear HG k2 hk
      rcases hk' with rfl | rfl | rfl | rfl
      all_goals
        go_enter Tryz.func16, Tryz.ntmps16
        go_wp2_with (first | (go_at_call 32; refine (CT.out _).mono ?_; rintro e w2 ⟨rfl, hb⟩))
        go_ret
        exact ⟨ret_int HR.out.symm, ((Below.refl _ _).alloc (Nat.le_refl _) _).trans (hb.mono (by simp))⟩
    · have hn' : (n == 0) = false := by simpa using hn
      have HR : Hid (F = 4) := HG.out.trans (if_pos hn)
      clear HG k2 hk hn CT
      rcases hk' with rfl | rfl | rfl | rfl
      all_goals
        go_enter Tryz.func16, Tryz.ntmps16
        go_wp2
        go_ret
        exact ⟨ret_int HR.out.symm, (Below.refl _ _).alloc (Nat.le_refl _) _⟩
  · have HR : Hid (F = 3) := HF.out.trans (if_pos hk)
    have e1 : (k == 1) = false := by simp; omega
    have e2 : (k == 2) = false := by simp; omega
    have e3 : (k == 3) = false := by simp; omega
    have e4 : (k == 4) = false := by simp; omega
    have e5 : (k == 5) = false := by simp; omega
    clear HF CT k2 hk
    go_enter Tryz.func16, Tryz.ntmps16
    go_wp2
    go_ret
    exact ⟨ret_int HR.out.symm, (Below.refl _ _).alloc (Nat.le_refl _) _⟩
end Go.Proofs.YteapocgpenokfaaGreatDoor
