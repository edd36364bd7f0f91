/-
  CONTRACT: what the document refuses of an expression (exprFault): no kind, or a wrong number of arguments.
-/
import Derived.Test.YtlllgelolmkapaaDoorCfFb
import Derived.Deep.Cut
import Derived.Deep.QuietTactic
import Derived.BigQuiet
import Derived.Deep.RegionLaw
set_option linter.unusedVariables false
namespace Go.Proofs.YtlllgelolmkapaaDoor
set_option maxRecDepth 100000
open Go.RowKit Go.WideShapes

set_option maxHeartbeats 3200000 in
theorem fault_kind (B : Nat) (S : List ByteArray) (k : Int) (it : It) (nm a : ByteArray) (n ax tk : Int) (tn : ByteArray) (m : Nat) (A : Nat → Ex) (hk : inB k 1 11 = false) : FaultAt B S (.mk k it nm a n ax tk tn m A) := by
  intro w v sv hv hsv hB hT hN
  obtain ⟨sl, cap, rfl, s1, s2, s3, hmc, hcm, hsl⟩ := hv
  obtain ⟨sa, sc, rfl, hscm⟩ := cells_scope hsv
  have hk' : ¬ (1 ≤ k ∧ k ≤ 11) := by simpa [inB] using hk
  have HR : Hid (exF (.mk k it nm a n ax tk tn m A) S = 3) := by
    have hc : cntF k m = 3 := by unfold cntF; rw [if_neg (by omega), if_neg (by omega), if_neg (by omega), if_neg (by omega), if_neg (by omega)]
    have ha : aloneF S k it nm a n ax tk m = 3 := by unfold aloneF; rw [if_neg (by rw [hc]; decide), hc]
    have h : exF (.mk k it nm a n ax tk tn m A) S = 3 := by rw [exF_up, upE, ha]; rfl
    exact h
  rw [HR.out]
  have CIN : Hid (∀ W, Calls Tryd.prog 21 #[.int .i64 k, .int .i64 1, .int .i64 11] W fun e w' => e = .returned (.bool false) ∧ w' = W) := fun W => by
    have h := in_any k 1 11 W
    rw [hk] at h
    exact h
  have HB : Hid (∀ o, Below w.heap.size w (w.alloc o)) := fun o => (Below.refl _ _).alloc (Nat.le_refl _) _
  clear hk hk' hsl hN hT hsv HR
  go_enter Tryd.func8, Tryd.ntmps8
  go_wp2_with (go_at_call 21; refine (CIN.out _).mono ?_; rintro e w' ⟨rfl, hww⟩; obtain rfl := hww.symm)
  go_ret
  exact ⟨rfl, HB.out _⟩
set_option maxHeartbeats 3200000 in
theorem fault_count1 (B : Nat) (S : List ByteArray) (it : It) (nm a : ByteArray) (n ax tk : Int) (tn : ByteArray) (m : Nat) (A : Nat → Ex) (hk : ¬ m = 0) : FaultAt B S (.mk 1 it nm a n ax tk tn m A) := by
  intro w v sv hv hsv hB hT hN
  obtain ⟨sl, cap, rfl, s1, s2, s3, hmc, hcm, hsl⟩ := hv
  obtain ⟨sa, sc, rfl, hscm⟩ := cells_scope hsv
  have HR : Hid (exF (.mk 1 it nm a n ax tk tn m A) S = 11) := by
    have hc : cntF 1 m = 11 := by simp [cntF, hk]
    have ha : aloneF S 1 it nm a n ax tk m = 11 := by unfold aloneF; rw [if_neg (by rw [hc]; decide), hc]
    have h : exF (.mk 1 it nm a n ax tk tn m A) S = 11 := by rw [exF_up, upE, ha]; rfl
    exact h
  rw [HR.out]
  have hmm : m ≤ 4294967296 := by have := nodes_len m A; rw [nodes_is] at hN; omega
  have hm1 : ((0 : Int) == (m : Int)) = false := by simp; omega
  have CIN : Hid (∀ W, Calls Tryd.prog 21 #[.int .i64 1, .int .i64 1, .int .i64 11] W fun e w' => e = .returned (.bool true) ∧ w' = W) := fun W => in_any 1 1 11 W
  have CAC : Hid (∀ W, Calls Tryd.prog 22 #[.int .i64 1] W fun e w' => e = .returned (.int .i64 (0)) ∧ w' = W) := fun W => argCount_1 W
  have HB : Hid (∀ o, Below w.heap.size w (w.alloc o)) := fun o => (Below.refl _ _).alloc (Nat.le_refl _) _
  clear hk hsl hN hT hsv HR
  go_enter Tryd.func8, Tryd.ntmps8
  go_upto_region 3 with (go_at_call 21; refine (CIN.out _).mono ?_; rintro e w' ⟨rfl, hww⟩; obtain rfl := hww.symm)
  go_quiet ((go_at_call 22; exact Calls.quiet_of_same (CAC.out _)))
  go_wp2
  go_ret
  refine ⟨rfl, ?_⟩
  have hb := HB.out (.cells #[.int .i64 1, .int .i64 it.kind, .int .i64 it.n, .string it.s, .string nm, .string a, .int .i64 n, .int .i64 ax, .int .i64 tk, .string tn, .slice sl m cap] 28)
  exact ⟨hb.os, hb.tape, hb.output, hb.size, hb.block⟩
set_option maxHeartbeats 3200000 in
theorem fault_count2 (B : Nat) (S : List ByteArray) (it : It) (nm a : ByteArray) (n ax tk : Int) (tn : ByteArray) (m : Nat) (A : Nat → Ex) (hk : ¬ m = 0) : FaultAt B S (.mk 2 it nm a n ax tk tn m A) := by
  intro w v sv hv hsv hB hT hN
  obtain ⟨sl, cap, rfl, s1, s2, s3, hmc, hcm, hsl⟩ := hv
  obtain ⟨sa, sc, rfl, hscm⟩ := cells_scope hsv
  have HR : Hid (exF (.mk 2 it nm a n ax tk tn m A) S = 11) := by
    have hc : cntF 2 m = 11 := by simp [cntF, hk]
    have ha : aloneF S 2 it nm a n ax tk m = 11 := by unfold aloneF; rw [if_neg (by rw [hc]; decide), hc]
    have h : exF (.mk 2 it nm a n ax tk tn m A) S = 11 := by rw [exF_up, upE, ha]; rfl
    exact h
  rw [HR.out]
  have hmm : m ≤ 4294967296 := by have := nodes_len m A; rw [nodes_is] at hN; omega
  have hm1 : ((0 : Int) == (m : Int)) = false := by simp; omega
  have CIN : Hid (∀ W, Calls Tryd.prog 21 #[.int .i64 2, .int .i64 1, .int .i64 11] W fun e w' => e = .returned (.bool true) ∧ w' = W) := fun W => in_any 2 1 11 W
  have CAC : Hid (∀ W, Calls Tryd.prog 22 #[.int .i64 2] W fun e w' => e = .returned (.int .i64 (0)) ∧ w' = W) := fun W => argCount_2 W
  have HB : Hid (∀ o, Below w.heap.size w (w.alloc o)) := fun o => (Below.refl _ _).alloc (Nat.le_refl _) _
  clear hk hsl hN hT hsv HR
  go_enter Tryd.func8, Tryd.ntmps8
  go_upto_region 3 with (go_at_call 21; refine (CIN.out _).mono ?_; rintro e w' ⟨rfl, hww⟩; obtain rfl := hww.symm)
  go_quiet ((go_at_call 22; exact Calls.quiet_of_same (CAC.out _)))
  go_wp2
  go_ret
  refine ⟨rfl, ?_⟩
  have hb := HB.out (.cells #[.int .i64 2, .int .i64 it.kind, .int .i64 it.n, .string it.s, .string nm, .string a, .int .i64 n, .int .i64 ax, .int .i64 tk, .string tn, .slice sl m cap] 28)
  exact ⟨hb.os, hb.tape, hb.output, hb.size, hb.block⟩
set_option maxHeartbeats 3200000 in
theorem fault_count4 (B : Nat) (S : List ByteArray) (it : It) (nm a : ByteArray) (n ax tk : Int) (tn : ByteArray) (m : Nat) (A : Nat → Ex) (hk : ¬ m = 2) : FaultAt B S (.mk 4 it nm a n ax tk tn m A) := by
  intro w v sv hv hsv hB hT hN
  obtain ⟨sl, cap, rfl, s1, s2, s3, hmc, hcm, hsl⟩ := hv
  obtain ⟨sa, sc, rfl, hscm⟩ := cells_scope hsv
  have HR : Hid (exF (.mk 4 it nm a n ax tk tn m A) S = 11) := by
    have hc : cntF 4 m = 11 := by simp [cntF, hk]
    have ha : aloneF S 4 it nm a n ax tk m = 11 := by unfold aloneF; rw [if_neg (by rw [hc]; decide), hc]
    have h : exF (.mk 4 it nm a n ax tk tn m A) S = 11 := by rw [exF_up, upE, ha]; rfl
    exact h
  rw [HR.out]
  have hmm : m ≤ 4294967296 := by have := nodes_len m A; rw [nodes_is] at hN; omega
  have hm1 : ((2 : Int) == (m : Int)) = false := by simp; omega
  have CIN : Hid (∀ W, Calls Tryd.prog 21 #[.int .i64 4, .int .i64 1, .int .i64 11] W fun e w' => e = .returned (.bool true) ∧ w' = W) := fun W => in_any 4 1 11 W
  have CAC : Hid (∀ W, Calls Tryd.prog 22 #[.int .i64 4] W fun e w' => e = .returned (.int .i64 (2)) ∧ w' = W) := fun W => argCount_4 W
  have HB : Hid (∀ o, Below w.heap.size w (w.alloc o)) := fun o => (Below.refl _ _).alloc (Nat.le_refl _) _
  clear hk hsl hN hT hsv HR
  go_enter Tryd.func8, Tryd.ntmps8
  go_upto_region 3 with (go_at_call 21; refine (CIN.out _).mono ?_; rintro e w' ⟨rfl, hww⟩; obtain rfl := hww.symm)
  go_quiet ((go_at_call 22; exact Calls.quiet_of_same (CAC.out _)))
  go_wp2
  go_ret
  refine ⟨rfl, ?_⟩
  have hb := HB.out (.cells #[.int .i64 4, .int .i64 it.kind, .int .i64 it.n, .string it.s, .string nm, .string a, .int .i64 n, .int .i64 ax, .int .i64 tk, .string tn, .slice sl m cap] 28)
  exact ⟨hb.os, hb.tape, hb.output, hb.size, hb.block⟩
set_option maxHeartbeats 3200000 in
theorem fault_count5 (B : Nat) (S : List ByteArray) (it : It) (nm a : ByteArray) (n ax tk : Int) (tn : ByteArray) (m : Nat) (A : Nat → Ex) (hk : ¬ m = 2) : FaultAt B S (.mk 5 it nm a n ax tk tn m A) := by
  intro w v sv hv hsv hB hT hN
  obtain ⟨sl, cap, rfl, s1, s2, s3, hmc, hcm, hsl⟩ := hv
  obtain ⟨sa, sc, rfl, hscm⟩ := cells_scope hsv
  have HR : Hid (exF (.mk 5 it nm a n ax tk tn m A) S = 11) := by
    have hc : cntF 5 m = 11 := by simp [cntF, hk]
    have ha : aloneF S 5 it nm a n ax tk m = 11 := by unfold aloneF; rw [if_neg (by rw [hc]; decide), hc]
    have h : exF (.mk 5 it nm a n ax tk tn m A) S = 11 := by rw [exF_up, upE, ha]; rfl
    exact h
  rw [HR.out]
  have hmm : m ≤ 4294967296 := by have := nodes_len m A; rw [nodes_is] at hN; omega
  have hm1 : ((2 : Int) == (m : Int)) = false := by simp; omega
  have CIN : Hid (∀ W, Calls Tryd.prog 21 #[.int .i64 5, .int .i64 1, .int .i64 11] W fun e w' => e = .returned (.bool true) ∧ w' = W) := fun W => in_any 5 1 11 W
  have CAC : Hid (∀ W, Calls Tryd.prog 22 #[.int .i64 5] W fun e w' => e = .returned (.int .i64 (2)) ∧ w' = W) := fun W => argCount_5 W
  have HB : Hid (∀ o, Below w.heap.size w (w.alloc o)) := fun o => (Below.refl _ _).alloc (Nat.le_refl _) _
  clear hk hsl hN hT hsv HR
  go_enter Tryd.func8, Tryd.ntmps8
  go_upto_region 3 with (go_at_call 21; refine (CIN.out _).mono ?_; rintro e w' ⟨rfl, hww⟩; obtain rfl := hww.symm)
  go_quiet ((go_at_call 22; exact Calls.quiet_of_same (CAC.out _)))
  go_wp2
  go_ret
  refine ⟨rfl, ?_⟩
  have hb := HB.out (.cells #[.int .i64 5, .int .i64 it.kind, .int .i64 it.n, .string it.s, .string nm, .string a, .int .i64 n, .int .i64 ax, .int .i64 tk, .string tn, .slice sl m cap] 28)
  exact ⟨hb.os, hb.tape, hb.output, hb.size, hb.block⟩
set_option maxHeartbeats 3200000 in
theorem fault_count6 (B : Nat) (S : List ByteArray) (it : It) (nm a : ByteArray) (n ax tk : Int) (tn : ByteArray) (m : Nat) (A : Nat → Ex) (hk : ¬ m = 3) : FaultAt B S (.mk 6 it nm a n ax tk tn m A) := by
  intro w v sv hv hsv hB hT hN
  obtain ⟨sl, cap, rfl, s1, s2, s3, hmc, hcm, hsl⟩ := hv
  obtain ⟨sa, sc, rfl, hscm⟩ := cells_scope hsv
  have HR : Hid (exF (.mk 6 it nm a n ax tk tn m A) S = 11) := by
    have hc : cntF 6 m = 11 := by simp [cntF, hk]
    have ha : aloneF S 6 it nm a n ax tk m = 11 := by unfold aloneF; rw [if_neg (by rw [hc]; decide), hc]
    have h : exF (.mk 6 it nm a n ax tk tn m A) S = 11 := by rw [exF_up, upE, ha]; rfl
    exact h
  rw [HR.out]
  have hmm : m ≤ 4294967296 := by have := nodes_len m A; rw [nodes_is] at hN; omega
  have hm1 : ((3 : Int) == (m : Int)) = false := by simp; omega
  have CIN : Hid (∀ W, Calls Tryd.prog 21 #[.int .i64 6, .int .i64 1, .int .i64 11] W fun e w' => e = .returned (.bool true) ∧ w' = W) := fun W => in_any 6 1 11 W
  have CAC : Hid (∀ W, Calls Tryd.prog 22 #[.int .i64 6] W fun e w' => e = .returned (.int .i64 (3)) ∧ w' = W) := fun W => argCount_6 W
  have HB : Hid (∀ o, Below w.heap.size w (w.alloc o)) := fun o => (Below.refl _ _).alloc (Nat.le_refl _) _
  clear hk hsl hN hT hsv HR
  go_enter Tryd.func8, Tryd.ntmps8
  go_upto_region 3 with (go_at_call 21; refine (CIN.out _).mono ?_; rintro e w' ⟨rfl, hww⟩; obtain rfl := hww.symm)
  go_quiet ((go_at_call 22; exact Calls.quiet_of_same (CAC.out _)))
  go_wp2
  go_ret
  refine ⟨rfl, ?_⟩
  have hb := HB.out (.cells #[.int .i64 6, .int .i64 it.kind, .int .i64 it.n, .string it.s, .string nm, .string a, .int .i64 n, .int .i64 ax, .int .i64 tk, .string tn, .slice sl m cap] 28)
  exact ⟨hb.os, hb.tape, hb.output, hb.size, hb.block⟩
set_option maxHeartbeats 3200000 in
theorem fault_count7 (B : Nat) (S : List ByteArray) (it : It) (nm a : ByteArray) (n ax tk : Int) (tn : ByteArray) (m : Nat) (A : Nat → Ex) (hk : ¬ m = 3) : FaultAt B S (.mk 7 it nm a n ax tk tn m A) := by
  intro w v sv hv hsv hB hT hN
  obtain ⟨sl, cap, rfl, s1, s2, s3, hmc, hcm, hsl⟩ := hv
  obtain ⟨sa, sc, rfl, hscm⟩ := cells_scope hsv
  have HR : Hid (exF (.mk 7 it nm a n ax tk tn m A) S = 11) := by
    have hc : cntF 7 m = 11 := by simp [cntF, hk]
    have ha : aloneF S 7 it nm a n ax tk m = 11 := by unfold aloneF; rw [if_neg (by rw [hc]; decide), hc]
    have h : exF (.mk 7 it nm a n ax tk tn m A) S = 11 := by rw [exF_up, upE, ha]; rfl
    exact h
  rw [HR.out]
  have hmm : m ≤ 4294967296 := by have := nodes_len m A; rw [nodes_is] at hN; omega
  have hm1 : ((3 : Int) == (m : Int)) = false := by simp; omega
  have CIN : Hid (∀ W, Calls Tryd.prog 21 #[.int .i64 7, .int .i64 1, .int .i64 11] W fun e w' => e = .returned (.bool true) ∧ w' = W) := fun W => in_any 7 1 11 W
  have CAC : Hid (∀ W, Calls Tryd.prog 22 #[.int .i64 7] W fun e w' => e = .returned (.int .i64 (3)) ∧ w' = W) := fun W => argCount_7 W
  have HB : Hid (∀ o, Below w.heap.size w (w.alloc o)) := fun o => (Below.refl _ _).alloc (Nat.le_refl _) _
  clear hk hsl hN hT hsv HR
  go_enter Tryd.func8, Tryd.ntmps8
  go_upto_region 3 with (go_at_call 21; refine (CIN.out _).mono ?_; rintro e w' ⟨rfl, hww⟩; obtain rfl := hww.symm)
  go_quiet ((go_at_call 22; exact Calls.quiet_of_same (CAC.out _)))
  go_wp2
  go_ret
  refine ⟨rfl, ?_⟩
  have hb := HB.out (.cells #[.int .i64 7, .int .i64 it.kind, .int .i64 it.n, .string it.s, .string nm, .string a, .int .i64 n, .int .i64 ax, .int .i64 tk, .string tn, .slice sl m cap] 28)
  exact ⟨hb.os, hb.tape, hb.output, hb.size, hb.block⟩
set_option maxHeartbeats 3200000 in
theorem fault_count9 (B : Nat) (S : List ByteArray) (it : It) (nm a : ByteArray) (n ax tk : Int) (tn : ByteArray) (m : Nat) (A : Nat → Ex) (hk : ¬ m = 1) : FaultAt B S (.mk 9 it nm a n ax tk tn m A) := by
  intro w v sv hv hsv hB hT hN
  obtain ⟨sl, cap, rfl, s1, s2, s3, hmc, hcm, hsl⟩ := hv
  obtain ⟨sa, sc, rfl, hscm⟩ := cells_scope hsv
  have HR : Hid (exF (.mk 9 it nm a n ax tk tn m A) S = 11) := by
    have hc : cntF 9 m = 11 := by simp [cntF, hk]
    have ha : aloneF S 9 it nm a n ax tk m = 11 := by unfold aloneF; rw [if_neg (by rw [hc]; decide), hc]
    have h : exF (.mk 9 it nm a n ax tk tn m A) S = 11 := by rw [exF_up, upE, ha]; rfl
    exact h
  rw [HR.out]
  have hmm : m ≤ 4294967296 := by have := nodes_len m A; rw [nodes_is] at hN; omega
  have hm1 : ((1 : Int) == (m : Int)) = false := by simp; omega
  have CIN : Hid (∀ W, Calls Tryd.prog 21 #[.int .i64 9, .int .i64 1, .int .i64 11] W fun e w' => e = .returned (.bool true) ∧ w' = W) := fun W => in_any 9 1 11 W
  have CAC : Hid (∀ W, Calls Tryd.prog 22 #[.int .i64 9] W fun e w' => e = .returned (.int .i64 (1)) ∧ w' = W) := fun W => argCount_9 W
  have HB : Hid (∀ o, Below w.heap.size w (w.alloc o)) := fun o => (Below.refl _ _).alloc (Nat.le_refl _) _
  clear hk hsl hN hT hsv HR
  go_enter Tryd.func8, Tryd.ntmps8
  go_upto_region 3 with (go_at_call 21; refine (CIN.out _).mono ?_; rintro e w' ⟨rfl, hww⟩; obtain rfl := hww.symm)
  go_quiet ((go_at_call 22; exact Calls.quiet_of_same (CAC.out _)))
  go_wp2
  go_ret
  refine ⟨rfl, ?_⟩
  have hb := HB.out (.cells #[.int .i64 9, .int .i64 it.kind, .int .i64 it.n, .string it.s, .string nm, .string a, .int .i64 n, .int .i64 ax, .int .i64 tk, .string tn, .slice sl m cap] 28)
  exact ⟨hb.os, hb.tape, hb.output, hb.size, hb.block⟩
set_option maxHeartbeats 3200000 in
theorem fault_count10 (B : Nat) (S : List ByteArray) (it : It) (nm a : ByteArray) (n ax tk : Int) (tn : ByteArray) (m : Nat) (A : Nat → Ex) (hk : ¬ m = 1) : FaultAt B S (.mk 10 it nm a n ax tk tn m A) := by
  intro w v sv hv hsv hB hT hN
  obtain ⟨sl, cap, rfl, s1, s2, s3, hmc, hcm, hsl⟩ := hv
  obtain ⟨sa, sc, rfl, hscm⟩ := cells_scope hsv
  have HR : Hid (exF (.mk 10 it nm a n ax tk tn m A) S = 11) := by
    have hc : cntF 10 m = 11 := by simp [cntF, hk]
    have ha : aloneF S 10 it nm a n ax tk m = 11 := by unfold aloneF; rw [if_neg (by rw [hc]; decide), hc]
    have h : exF (.mk 10 it nm a n ax tk tn m A) S = 11 := by rw [exF_up, upE, ha]; rfl
    exact h
  rw [HR.out]
  have hmm : m ≤ 4294967296 := by have := nodes_len m A; rw [nodes_is] at hN; omega
  have hm1 : ((1 : Int) == (m : Int)) = false := by simp; omega
  have CIN : Hid (∀ W, Calls Tryd.prog 21 #[.int .i64 10, .int .i64 1, .int .i64 11] W fun e w' => e = .returned (.bool true) ∧ w' = W) := fun W => in_any 10 1 11 W
  have CAC : Hid (∀ W, Calls Tryd.prog 22 #[.int .i64 10] W fun e w' => e = .returned (.int .i64 (1)) ∧ w' = W) := fun W => argCount_10 W
  have HB : Hid (∀ o, Below w.heap.size w (w.alloc o)) := fun o => (Below.refl _ _).alloc (Nat.le_refl _) _
  clear hk hsl hN hT hsv HR
  go_enter Tryd.func8, Tryd.ntmps8
  go_upto_region 3 with (go_at_call 21; refine (CIN.out _).mono ?_; rintro e w' ⟨rfl, hww⟩; obtain rfl := hww.symm)
  go_quiet ((go_at_call 22; exact Calls.quiet_of_same (CAC.out _)))
  go_wp2
  go_ret
  refine ⟨rfl, ?_⟩
  have hb := HB.out (.cells #[.int .i64 10, .int .i64 it.kind, .int .i64 it.n, .string it.s, .string nm, .string a, .int .i64 n, .int .i64 ax, .int .i64 tk, .string tn, .slice sl m cap] 28)
  exact ⟨hb.os, hb.tape, hb.output, hb.size, hb.block⟩
set_option maxHeartbeats 3200000 in
theorem fault_count11 (B : Nat) (S : List ByteArray) (it : It) (nm a : ByteArray) (n ax tk : Int) (tn : ByteArray) (m : Nat) (A : Nat → Ex) (hk : ¬ m = 0) : FaultAt B S (.mk 11 it nm a n ax tk tn m A) := by
  intro w v sv hv hsv hB hT hN
  obtain ⟨sl, cap, rfl, s1, s2, s3, hmc, hcm, hsl⟩ := hv
  obtain ⟨sa, sc, rfl, hscm⟩ := cells_scope hsv
  have HR : Hid (exF (.mk 11 it nm a n ax tk tn m A) S = 11) := by
    have hc : cntF 11 m = 11 := by simp [cntF, hk]
    have ha : aloneF S 11 it nm a n ax tk m = 11 := by unfold aloneF; rw [if_neg (by rw [hc]; decide), hc]
    have h : exF (.mk 11 it nm a n ax tk tn m A) S = 11 := by rw [exF_up, upE, ha]; rfl
    exact h
  rw [HR.out]
  have hmm : m ≤ 4294967296 := by have := nodes_len m A; rw [nodes_is] at hN; omega
  have hm1 : ((0 : Int) == (m : Int)) = false := by simp; omega
  have CIN : Hid (∀ W, Calls Tryd.prog 21 #[.int .i64 11, .int .i64 1, .int .i64 11] W fun e w' => e = .returned (.bool true) ∧ w' = W) := fun W => in_any 11 1 11 W
  have CAC : Hid (∀ W, Calls Tryd.prog 22 #[.int .i64 11] W fun e w' => e = .returned (.int .i64 (0)) ∧ w' = W) := fun W => argCount_11 W
  have HB : Hid (∀ o, Below w.heap.size w (w.alloc o)) := fun o => (Below.refl _ _).alloc (Nat.le_refl _) _
  clear hk hsl hN hT hsv HR
  go_enter Tryd.func8, Tryd.ntmps8
  go_upto_region 3 with (go_at_call 21; refine (CIN.out _).mono ?_; rintro e w' ⟨rfl, hww⟩; obtain rfl := hww.symm)
  go_quiet ((go_at_call 22; exact Calls.quiet_of_same (CAC.out _)))
  go_wp2
  go_ret
  refine ⟨rfl, ?_⟩
  have hb := HB.out (.cells #[.int .i64 11, .int .i64 it.kind, .int .i64 it.n, .string it.s, .string nm, .string a, .int .i64 n, .int .i64 ax, .int .i64 tk, .string tn, .slice sl m cap] 28)
  exact ⟨hb.os, hb.tape, hb.output, hb.size, hb.block⟩
end Go.Proofs.YtlllgelolmkapaaDoor
