/-
  CONTRACTS of the document's steps: isWithin, rootOf, onAxis, testMeets.
-/
import Derived.Test.YtnfljohddpadhaaDoorStMath
import Derived.Deep.QuietTactic
import Derived.BigQuiet
import Derived.WalkLawsBesides
import Derived.Outline
set_option linter.unusedVariables false
namespace Go.Proofs.YtnfljohddpadhaaDoor
set_option maxRecDepth 100000
open Go.RowKit Go.WideShapes

set_option maxHeartbeats 800000 in
theorem isWithin_is (lb lo N lcap : Nat) (E : Nat → Nd) (i n : Nat) (w : World) (t : Tr E N) (hN : N ≤ 100000) (hcap : N ≤ lcap) (hA : NdsAt w lb lo N E) (hi : i < N) (hn : n < N) :
    Calls Tryd.prog 45 #[.slice (some ⟨lb, lo, none⟩) N lcap, .int .i64 (i : Int), .int .i64 (n : Int)] w fun e w' => e = .returned (.bool (decide (n < i ∧ i ≤ n + zN E n))) ∧ w' = w := by
  obtain ⟨d0, d1, d2, d3, d4, d5⟩ := hA n hn
  obtain ⟨s1, s2⟩ := t.sz n hn
  rw [s1] at d3
  have hni : (n : Int) < (N : Int) := by omega
  by_cases h1 : n < i
  · have h1' : (n : Int) < (i : Int) := by omega
    by_cases h2 : i ≤ n + zN E n
    · rw [decide_eq_true ⟨h1, h2⟩]
      have h2' : (i : Int) ≤ (n : Int) + (zN E n : Int) := by omega
      go_enter Tryd.func45, Tryd.ntmps45
      go_wp2
      go_ret
      exact ⟨by first | rfl | simp [h2'], rfl⟩
    · rw [decide_eq_false (fun h => h2 h.2)]
      have h2' : ¬ (i : Int) ≤ (n : Int) + (zN E n : Int) := by omega
      go_enter Tryd.func45, Tryd.ntmps45
      go_wp2
      go_ret
      exact ⟨by first | rfl | simp [h2'], rfl⟩
  · rw [decide_eq_false (fun h => h1 h.1)]
    have h1' : ¬ (n : Int) < (i : Int) := by omega
    go_enter Tryd.func45, Tryd.ntmps45
    go_wp2
    go_ret
    exact ⟨by first | rfl | simp [h1'], rfl⟩
set_option maxHeartbeats 800000 in
theorem rootOf_is (lb lo N lcap : Nat) (E : Nat → Nd) (n : Nat) (w : World) (t : Tr E N) (hN : N ≤ 100000) (hcap : N ≤ lcap) (hA : NdsAt w lb lo N E) (hn : n < N) :
    Calls Tryd.prog 46 #[.slice (some ⟨lb, lo, none⟩) N lcap, .int .i64 (n : Int)] w fun e w' => e = .returned (.int .i64 (rtN E n : Int)) ∧ w' = w := by
  have HR := hidS (rtN_is t hn)
  have HE := hidS hA
  have HT := hidS t
  generalize rtN E n = r at *
  clear hA t
  go_enter Tryd.func46, Tryd.ntmps46
  go_wp2
  go_loop [1] (fun v => ∃ m : Nat, v = .int .i64 m ∧ m < N ∧ An E r m) (fun v => (intOf v).toNat)
  case atStart => exact ⟨n, rfl, hn, HR.out.1⟩
  case round =>
    obtain ⟨m, rfl, hm, han⟩ := hrel
    have HAN := hidS han
    obtain ⟨d0, d1, d2, d3, d4, d5⟩ := HE.out m hm
    have hmi : (m : Int) < (N : Int) := by omega
    clear han
    rcases HT.out.up m hm with hp | ⟨p, hp, hp1, hp2⟩
    · rw [hp] at d5
      have HM : Hid (m = r) := by
        by_cases e : r = m
        · exact e.symm
        · obtain ⟨p, k1, _⟩ := An.parent HT.out hm HAN.out e
          omega
      clear hp
      go_wp2
      go_ret
      exact ⟨ret_int (by rw [HM.out]), rfl⟩
    · have HM : Hid (An E r p) := by
        have e : r ≠ m := by
          rintro rfl
          have := HR.out.2
          omega
        obtain ⟨p', k1, _, k2, _⟩ := An.parent HT.out hm HAN.out e
        obtain rfl : p' = p := by omega
        exact k2
      rw [hp] at d5
      clear hp
      go_wp2
      go_round
      case rel => exact ⟨p, rfl, by omega, HM.out⟩
      case measure => simp [intOf] <;> omega
theorem same_root {E : Nat → Nd} {N i n : Nat} (t : Tr E N) (hi : i < N) (hn : n < N) : (∃ r, Rt E r i ∧ Rt E r n) ↔ (rtN E i : Int) = (rtN E n : Int) := by
  constructor
  · rintro ⟨r, h1, h2⟩
    rw [Rt.one t hi (rtN_is t hi) h1, Rt.one t hn (rtN_is t hn) h2]
  · intro h
    have e : rtN E i = rtN E n := by omega
    exact ⟨rtN E n, e ▸ rtN_is t hi, rtN_is t hn⟩
/-- told is whether something holds -/
def OnT (w : World) (P : Prop) (e : Ending) (w' : World) : Prop := ∃ b, e = .returned (.bool b) ∧ (b = true ↔ P) ∧ Below w.heap.size w w'
set_option maxHeartbeats 3200000 in
theorem onAxis_4 (lb lo N lcap : Nat) (E : Nat → Nd) (n i : Nat) (w : World) (t : Tr E N) (hN : N ≤ 100000) (hcap : N ≤ lcap) (hA : NdsAt w lb lo N E) (hn : n < N) (hi : i < N) :
    Calls Tryd.prog 19 #[.slice (some ⟨lb, lo, none⟩) N lcap, .int .i64 (n : Int), .int .i64 4, .int .i64 (i : Int)] w fun e w' => OnT w (onA E n 4 i) e w' := by
  have hii : (i : Int) < (N : Int) := by omega
  have hni : (n : Int) < (N : Int) := by omega
  obtain ⟨d0, d1, d2, d3, d4, d5⟩ := hA i hi
  obtain ⟨f0, f1, f2, f3, f4, f5⟩ := hA n hn
  obtain ⟨s1, s2⟩ := t.sz n hn
  obtain ⟨s3, s4⟩ := t.sz i hi
  rw [s1] at f3
  rw [s3] at d3
  have hon := onA_4 E n i
  by_cases p0 : i = n
  · have z0 : ((i : Int) == (n : Int)) = true := by first | simpa using p0 | (simp; omega)
    have HON := hidS hon
    clear hon
    go_enter Tryd.func19, Tryd.ntmps19
    go_wp2_with fail
    go_ret
    refine ⟨_, rfl, ?_, ⟨rfl, rfl, rfl, Nat.le_refl _, fun _ _ => rfl⟩⟩
    rw [HON.out]
    first | (exact ⟨(fun h => by cases h), (fun h => by have := h.1.1.1.1; omega)⟩) | (simp [p0]; done) | (simp [p0]; done)
  · have z0 : ((i : Int) == (n : Int)) = false := by first | simpa using p0 | (simp; omega)
    have HON := hidS hon
    clear hon
    go_enter Tryd.func19, Tryd.ntmps19
    go_wp2_with fail
    go_ret
    refine ⟨_, rfl, ?_, ⟨rfl, rfl, rfl, Nat.le_refl _, fun _ _ => rfl⟩⟩
    rw [HON.out]
    first | (exact ⟨(fun h => by cases h), (fun h => by have := h.1.1.1.1; omega)⟩) | (simp [p0]; done) | (simp [p0]; done)
set_option maxHeartbeats 3200000 in
theorem onAxis_5 (lb lo N lcap : Nat) (E : Nat → Nd) (n i : Nat) (w : World) (t : Tr E N) (hN : N ≤ 100000) (hcap : N ≤ lcap) (hA : NdsAt w lb lo N E) (hn : n < N) (hi : i < N) :
    Calls Tryd.prog 19 #[.slice (some ⟨lb, lo, none⟩) N lcap, .int .i64 (n : Int), .int .i64 5, .int .i64 (i : Int)] w fun e w' => OnT w (onA E n 5 i) e w' := by
  have hii : (i : Int) < (N : Int) := by omega
  have hni : (n : Int) < (N : Int) := by omega
  obtain ⟨d0, d1, d2, d3, d4, d5⟩ := hA i hi
  obtain ⟨f0, f1, f2, f3, f4, f5⟩ := hA n hn
  obtain ⟨s1, s2⟩ := t.sz n hn
  obtain ⟨s3, s4⟩ := t.sz i hi
  rw [s1] at f3
  rw [s3] at d3
  have hon := onA_5 E n i
  by_cases p0 : (E n).parent = (i : Int)
  · have z0 : ((E n).parent == (i : Int)) = true := by first | simpa using p0 | (simp; omega)
    have HON := hidS hon
    clear hon
    go_enter Tryd.func19, Tryd.ntmps19
    go_wp2_with fail
    go_ret
    refine ⟨_, rfl, ?_, ⟨rfl, rfl, rfl, Nat.le_refl _, fun _ _ => rfl⟩⟩
    rw [HON.out]
    first | (exact ⟨(fun h => by cases h), (fun h => by have := h.1.1.1.1; omega)⟩) | (simp [p0]; done) | (simp [p0]; done)
  · have z0 : ((E n).parent == (i : Int)) = false := by first | simpa using p0 | (simp; omega)
    have HON := hidS hon
    clear hon
    go_enter Tryd.func19, Tryd.ntmps19
    go_wp2_with fail
    go_ret
    refine ⟨_, rfl, ?_, ⟨rfl, rfl, rfl, Nat.le_refl _, fun _ _ => rfl⟩⟩
    rw [HON.out]
    first | (exact ⟨(fun h => by cases h), (fun h => by have := h.1.1.1.1; omega)⟩) | (simp [p0]; done) | (simp [p0]; done)
set_option maxHeartbeats 3200000 in
theorem onAxis_1 (lb lo N lcap : Nat) (E : Nat → Nd) (n i : Nat) (w : World) (t : Tr E N) (hN : N ≤ 100000) (hcap : N ≤ lcap) (hA : NdsAt w lb lo N E) (hn : n < N) (hi : i < N) :
    Calls Tryd.prog 19 #[.slice (some ⟨lb, lo, none⟩) N lcap, .int .i64 (n : Int), .int .i64 1, .int .i64 (i : Int)] w fun e w' => OnT w (onA E n 1 i) e w' := by
  have hii : (i : Int) < (N : Int) := by omega
  have hni : (n : Int) < (N : Int) := by omega
  obtain ⟨d0, d1, d2, d3, d4, d5⟩ := hA i hi
  obtain ⟨f0, f1, f2, f3, f4, f5⟩ := hA n hn
  obtain ⟨s1, s2⟩ := t.sz n hn
  obtain ⟨s3, s4⟩ := t.sz i hi
  rw [s1] at f3
  rw [s3] at d3
  have hon := onA_1 E n i
  by_cases p0 : (E i).parent = (n : Int)
  · have z0 : ((E i).parent == (n : Int)) = true := by first | simpa using p0 | (simp; omega)
    by_cases p1 : (E i).kind ≠ 2
    · have z1 : ((E i).kind == 2) = false := by simpa using p1
      have HON := hidS hon
      clear hon
      go_enter Tryd.func19, Tryd.ntmps19
      go_wp2_with fail
      go_ret
      refine ⟨_, rfl, ?_, ⟨rfl, rfl, rfl, Nat.le_refl _, fun _ _ => rfl⟩⟩
      rw [HON.out]
      first | (exact ⟨(fun h => by cases h), (fun h => by have := h.1.1.1.1; omega)⟩) | (simp [p1]; done) | (simp [p0]; done) | (simp [p0, p1]; done)
    · have z1 : ((E i).kind == 2) = true := by simpa using p1
      have HON := hidS hon
      clear hon
      go_enter Tryd.func19, Tryd.ntmps19
      go_wp2_with fail
      go_ret
      refine ⟨_, rfl, ?_, ⟨rfl, rfl, rfl, Nat.le_refl _, fun _ _ => rfl⟩⟩
      rw [HON.out]
      first | (exact ⟨(fun h => by cases h), (fun h => by have := h.1.1.1.1; omega)⟩) | (simp [p1]; done) | (simp [p0]; done) | (simp [p0, p1]; done)
  · have z0 : ((E i).parent == (n : Int)) = false := by first | simpa using p0 | (simp; omega)
    have HON := hidS hon
    clear hon
    go_enter Tryd.func19, Tryd.ntmps19
    go_wp2_with fail
    go_ret
    refine ⟨_, rfl, ?_, ⟨rfl, rfl, rfl, Nat.le_refl _, fun _ _ => rfl⟩⟩
    rw [HON.out]
    first | (exact ⟨(fun h => by cases h), (fun h => by have := h.1.1.1.1; omega)⟩) | (simp [p0]; done) | (simp [p0]; done)
set_option maxHeartbeats 3200000 in
theorem onAxis_12 (lb lo N lcap : Nat) (E : Nat → Nd) (n i : Nat) (w : World) (t : Tr E N) (hN : N ≤ 100000) (hcap : N ≤ lcap) (hA : NdsAt w lb lo N E) (hn : n < N) (hi : i < N) :
    Calls Tryd.prog 19 #[.slice (some ⟨lb, lo, none⟩) N lcap, .int .i64 (n : Int), .int .i64 12, .int .i64 (i : Int)] w fun e w' => OnT w (onA E n 12 i) e w' := by
  have hii : (i : Int) < (N : Int) := by omega
  have hni : (n : Int) < (N : Int) := by omega
  obtain ⟨d0, d1, d2, d3, d4, d5⟩ := hA i hi
  obtain ⟨f0, f1, f2, f3, f4, f5⟩ := hA n hn
  obtain ⟨s1, s2⟩ := t.sz n hn
  obtain ⟨s3, s4⟩ := t.sz i hi
  rw [s1] at f3
  rw [s3] at d3
  have hon := onA_12 E n i
  by_cases p0 : (E i).parent = (n : Int)
  · have z0 : ((E i).parent == (n : Int)) = true := by first | simpa using p0 | (simp; omega)
    by_cases p1 : (E i).kind = 2
    · have z1 : ((E i).kind == 2) = true := by first | simpa using p1 | (simp; omega)
      have HON := hidS hon
      clear hon
      go_enter Tryd.func19, Tryd.ntmps19
      go_wp2_with fail
      go_ret
      refine ⟨_, rfl, ?_, ⟨rfl, rfl, rfl, Nat.le_refl _, fun _ _ => rfl⟩⟩
      rw [HON.out]
      first | (exact ⟨(fun h => by cases h), (fun h => by have := h.1.1.1.1; omega)⟩) | (simp [p1]; done) | (simp [p0]; done) | (simp [p0, p1]; done)
    · have z1 : ((E i).kind == 2) = false := by first | simpa using p1 | (simp; omega)
      have HON := hidS hon
      clear hon
      go_enter Tryd.func19, Tryd.ntmps19
      go_wp2_with fail
      go_ret
      refine ⟨_, rfl, ?_, ⟨rfl, rfl, rfl, Nat.le_refl _, fun _ _ => rfl⟩⟩
      rw [HON.out]
      first | (exact ⟨(fun h => by cases h), (fun h => by have := h.1.1.1.1; omega)⟩) | (simp [p1]; done) | (simp [p0]; done) | (simp [p0, p1]; done)
  · have z0 : ((E i).parent == (n : Int)) = false := by first | simpa using p0 | (simp; omega)
    have HON := hidS hon
    clear hon
    go_enter Tryd.func19, Tryd.ntmps19
    go_wp2_with fail
    go_ret
    refine ⟨_, rfl, ?_, ⟨rfl, rfl, rfl, Nat.le_refl _, fun _ _ => rfl⟩⟩
    rw [HON.out]
    first | (exact ⟨(fun h => by cases h), (fun h => by have := h.1.1.1.1; omega)⟩) | (simp [p0]; done) | (simp [p0]; done)
set_option maxHeartbeats 3200000 in
theorem onAxis_2 (lb lo N lcap : Nat) (E : Nat → Nd) (n i : Nat) (w : World) (t : Tr E N) (hN : N ≤ 100000) (hcap : N ≤ lcap) (hA : NdsAt w lb lo N E) (hn : n < N) (hi : i < N) :
    Calls Tryd.prog 19 #[.slice (some ⟨lb, lo, none⟩) N lcap, .int .i64 (n : Int), .int .i64 2, .int .i64 (i : Int)] w fun e w' => OnT w (onA E n 2 i) e w' := by
  have hii : (i : Int) < (N : Int) := by omega
  have hni : (n : Int) < (N : Int) := by omega
  obtain ⟨d0, d1, d2, d3, d4, d5⟩ := hA i hi
  obtain ⟨f0, f1, f2, f3, f4, f5⟩ := hA n hn
  obtain ⟨s1, s2⟩ := t.sz n hn
  obtain ⟨s3, s4⟩ := t.sz i hi
  rw [s1] at f3
  rw [s3] at d3
  have hon := onA_2 E n i
  by_cases p0 : (n < i ∧ i ≤ n + zN E n)
  · have CW := hidS (isWithin_is lb lo N lcap E i n w t hN hcap hA hi hn); rw [decide_eq_true p0] at CW
    by_cases p1 : (E i).kind ≠ 2
    · have z1 : ((E i).kind == 2) = false := by simpa using p1
      have HON := hidS hon
      clear hon
      go_enter Tryd.func19, Tryd.ntmps19
      go_wp2_with (go_at_call 45; refine CW.out.mono ?_; rintro e w9 ⟨rfl, hw9⟩; obtain rfl := hw9.symm; clear hw9)
      go_ret
      refine ⟨_, rfl, ?_, ⟨rfl, rfl, rfl, Nat.le_refl _, fun _ _ => rfl⟩⟩
      rw [HON.out]
      first | (exact ⟨(fun h => by cases h), (fun h => by have := h.1.1.1.1; omega)⟩) | (simp [p1]; done) | (simp [p0]; done) | (simp [p0, p1]; done)
    · have z1 : ((E i).kind == 2) = true := by simpa using p1
      have HON := hidS hon
      clear hon
      go_enter Tryd.func19, Tryd.ntmps19
      go_wp2_with (go_at_call 45; refine CW.out.mono ?_; rintro e w9 ⟨rfl, hw9⟩; obtain rfl := hw9.symm; clear hw9)
      go_ret
      refine ⟨_, rfl, ?_, ⟨rfl, rfl, rfl, Nat.le_refl _, fun _ _ => rfl⟩⟩
      rw [HON.out]
      first | (exact ⟨(fun h => by cases h), (fun h => by have := h.1.1.1.1; omega)⟩) | (simp [p1]; done) | (simp [p0]; done) | (simp [p0, p1]; done)
  · have CW := hidS (isWithin_is lb lo N lcap E i n w t hN hcap hA hi hn); rw [decide_eq_false p0] at CW
    have HON := hidS hon
    clear hon
    go_enter Tryd.func19, Tryd.ntmps19
    go_wp2_with (go_at_call 45; refine CW.out.mono ?_; rintro e w9 ⟨rfl, hw9⟩; obtain rfl := hw9.symm; clear hw9)
    go_ret
    refine ⟨_, rfl, ?_, ⟨rfl, rfl, rfl, Nat.le_refl _, fun _ _ => rfl⟩⟩
    rw [HON.out]
    first | (exact ⟨(fun h => by cases h), (fun h => by have := h.1.1.1.1; omega)⟩) | (simp [p0]; done) | (simp [p0]; done)
set_option maxHeartbeats 3200000 in
theorem onAxis_6 (lb lo N lcap : Nat) (E : Nat → Nd) (n i : Nat) (w : World) (t : Tr E N) (hN : N ≤ 100000) (hcap : N ≤ lcap) (hA : NdsAt w lb lo N E) (hn : n < N) (hi : i < N) :
    Calls Tryd.prog 19 #[.slice (some ⟨lb, lo, none⟩) N lcap, .int .i64 (n : Int), .int .i64 6, .int .i64 (i : Int)] w fun e w' => OnT w (onA E n 6 i) e w' := by
  have hii : (i : Int) < (N : Int) := by omega
  have hni : (n : Int) < (N : Int) := by omega
  obtain ⟨d0, d1, d2, d3, d4, d5⟩ := hA i hi
  obtain ⟨f0, f1, f2, f3, f4, f5⟩ := hA n hn
  obtain ⟨s1, s2⟩ := t.sz n hn
  obtain ⟨s3, s4⟩ := t.sz i hi
  rw [s1] at f3
  rw [s3] at d3
  have hon := onA_6 E n i
  by_cases p0 : (i < n ∧ n ≤ i + zN E i)
  · have CW := hidS (isWithin_is lb lo N lcap E n i w t hN hcap hA hn hi); rw [decide_eq_true p0] at CW
    have HON := hidS hon
    clear hon
    go_enter Tryd.func19, Tryd.ntmps19
    go_wp2_with (go_at_call 45; refine CW.out.mono ?_; rintro e w9 ⟨rfl, hw9⟩; obtain rfl := hw9.symm; clear hw9)
    go_ret
    refine ⟨_, rfl, ?_, ⟨rfl, rfl, rfl, Nat.le_refl _, fun _ _ => rfl⟩⟩
    rw [HON.out]
    first | (exact ⟨(fun h => by cases h), (fun h => by have := h.1.1.1.1; omega)⟩) | (simp [p0]; done) | (simp [p0]; done)
  · have CW := hidS (isWithin_is lb lo N lcap E n i w t hN hcap hA hn hi); rw [decide_eq_false p0] at CW
    have HON := hidS hon
    clear hon
    go_enter Tryd.func19, Tryd.ntmps19
    go_wp2_with (go_at_call 45; refine CW.out.mono ?_; rintro e w9 ⟨rfl, hw9⟩; obtain rfl := hw9.symm; clear hw9)
    go_ret
    refine ⟨_, rfl, ?_, ⟨rfl, rfl, rfl, Nat.le_refl _, fun _ _ => rfl⟩⟩
    rw [HON.out]
    first | (exact ⟨(fun h => by cases h), (fun h => by have := h.1.1.1.1; omega)⟩) | (simp [p0]; done) | (simp [p0]; done)
set_option maxHeartbeats 3200000 in
theorem onAxis_3 (lb lo N lcap : Nat) (E : Nat → Nd) (n i : Nat) (w : World) (t : Tr E N) (hN : N ≤ 100000) (hcap : N ≤ lcap) (hA : NdsAt w lb lo N E) (hn : n < N) (hi : i < N) :
    Calls Tryd.prog 19 #[.slice (some ⟨lb, lo, none⟩) N lcap, .int .i64 (n : Int), .int .i64 3, .int .i64 (i : Int)] w fun e w' => OnT w (onA E n 3 i) e w' := by
  have hii : (i : Int) < (N : Int) := by omega
  have hni : (n : Int) < (N : Int) := by omega
  obtain ⟨d0, d1, d2, d3, d4, d5⟩ := hA i hi
  obtain ⟨f0, f1, f2, f3, f4, f5⟩ := hA n hn
  obtain ⟨s1, s2⟩ := t.sz n hn
  obtain ⟨s3, s4⟩ := t.sz i hi
  rw [s1] at f3
  rw [s3] at d3
  have hon := onA_3 E n i
  by_cases e9 : i = n
  · have z9 : ((i : Int) == (n : Int)) = true := by first | simpa using e9 | (simp; omega)
    have HON := hidS hon
    clear hon
    go_enter Tryd.func19, Tryd.ntmps19
    go_wp2_with fail
    go_ret
    refine ⟨_, rfl, ?_, ⟨rfl, rfl, rfl, Nat.le_refl _, fun _ _ => rfl⟩⟩
    rw [HON.out]
    simp [e9]
  · have z9 : ((i : Int) == (n : Int)) = false := by first | simpa using e9 | (simp; omega)
    by_cases p0 : (n < i ∧ i ≤ n + zN E n)
    · have CW := hidS (isWithin_is lb lo N lcap E i n w t hN hcap hA hi hn); rw [decide_eq_true p0] at CW
      by_cases p1 : (E i).kind ≠ 2
      · have z1 : ((E i).kind == 2) = false := by simpa using p1
        have HON := hidS hon
        clear hon
        go_enter Tryd.func19, Tryd.ntmps19
        go_wp2_with (go_at_call 45; refine CW.out.mono ?_; rintro e w9 ⟨rfl, hw9⟩; obtain rfl := hw9.symm; clear hw9)
        go_ret
        refine ⟨_, rfl, ?_, ⟨rfl, rfl, rfl, Nat.le_refl _, fun _ _ => rfl⟩⟩
        rw [HON.out]
        first | (exact ⟨(fun h => by cases h), (fun h => by have := h.1.1.1.1; omega)⟩) | (simp [e9, p1]; done) | (simp [e9, p0]; done) | (simp [e9, p0, p1]; done)
      · have z1 : ((E i).kind == 2) = true := by simpa using p1
        have HON := hidS hon
        clear hon
        go_enter Tryd.func19, Tryd.ntmps19
        go_wp2_with (go_at_call 45; refine CW.out.mono ?_; rintro e w9 ⟨rfl, hw9⟩; obtain rfl := hw9.symm; clear hw9)
        go_ret
        refine ⟨_, rfl, ?_, ⟨rfl, rfl, rfl, Nat.le_refl _, fun _ _ => rfl⟩⟩
        rw [HON.out]
        first | (exact ⟨(fun h => by cases h), (fun h => by have := h.1.1.1.1; omega)⟩) | (simp [e9, p1]; done) | (simp [e9, p0]; done) | (simp [e9, p0, p1]; done)
    · have CW := hidS (isWithin_is lb lo N lcap E i n w t hN hcap hA hi hn); rw [decide_eq_false p0] at CW
      have HON := hidS hon
      clear hon
      go_enter Tryd.func19, Tryd.ntmps19
      go_wp2_with (go_at_call 45; refine CW.out.mono ?_; rintro e w9 ⟨rfl, hw9⟩; obtain rfl := hw9.symm; clear hw9)
      go_ret
      refine ⟨_, rfl, ?_, ⟨rfl, rfl, rfl, Nat.le_refl _, fun _ _ => rfl⟩⟩
      rw [HON.out]
      first | (exact ⟨(fun h => by cases h), (fun h => by have := h.1.1.1.1; omega)⟩) | (simp [e9, p0]; done) | (simp [e9, p0]; done)
set_option maxHeartbeats 3200000 in
theorem onAxis_7 (lb lo N lcap : Nat) (E : Nat → Nd) (n i : Nat) (w : World) (t : Tr E N) (hN : N ≤ 100000) (hcap : N ≤ lcap) (hA : NdsAt w lb lo N E) (hn : n < N) (hi : i < N) :
    Calls Tryd.prog 19 #[.slice (some ⟨lb, lo, none⟩) N lcap, .int .i64 (n : Int), .int .i64 7, .int .i64 (i : Int)] w fun e w' => OnT w (onA E n 7 i) e w' := by
  have hii : (i : Int) < (N : Int) := by omega
  have hni : (n : Int) < (N : Int) := by omega
  obtain ⟨d0, d1, d2, d3, d4, d5⟩ := hA i hi
  obtain ⟨f0, f1, f2, f3, f4, f5⟩ := hA n hn
  obtain ⟨s1, s2⟩ := t.sz n hn
  obtain ⟨s3, s4⟩ := t.sz i hi
  rw [s1] at f3
  rw [s3] at d3
  have hon := onA_7 E n i
  by_cases e9 : i = n
  · have z9 : ((i : Int) == (n : Int)) = true := by first | simpa using e9 | (simp; omega)
    have HON := hidS hon
    clear hon
    go_enter Tryd.func19, Tryd.ntmps19
    go_wp2_with fail
    go_ret
    refine ⟨_, rfl, ?_, ⟨rfl, rfl, rfl, Nat.le_refl _, fun _ _ => rfl⟩⟩
    rw [HON.out]
    simp [e9]
  · have z9 : ((i : Int) == (n : Int)) = false := by first | simpa using e9 | (simp; omega)
    by_cases p0 : (i < n ∧ n ≤ i + zN E i)
    · have CW := hidS (isWithin_is lb lo N lcap E n i w t hN hcap hA hn hi); rw [decide_eq_true p0] at CW
      have HON := hidS hon
      clear hon
      go_enter Tryd.func19, Tryd.ntmps19
      go_wp2_with (go_at_call 45; refine CW.out.mono ?_; rintro e w9 ⟨rfl, hw9⟩; obtain rfl := hw9.symm; clear hw9)
      go_ret
      refine ⟨_, rfl, ?_, ⟨rfl, rfl, rfl, Nat.le_refl _, fun _ _ => rfl⟩⟩
      rw [HON.out]
      first | (exact ⟨(fun h => by cases h), (fun h => by have := h.1.1.1.1; omega)⟩) | (simp [e9, p0]; done) | (simp [e9, p0]; done)
    · have CW := hidS (isWithin_is lb lo N lcap E n i w t hN hcap hA hn hi); rw [decide_eq_false p0] at CW
      have HON := hidS hon
      clear hon
      go_enter Tryd.func19, Tryd.ntmps19
      go_wp2_with (go_at_call 45; refine CW.out.mono ?_; rintro e w9 ⟨rfl, hw9⟩; obtain rfl := hw9.symm; clear hw9)
      go_ret
      refine ⟨_, rfl, ?_, ⟨rfl, rfl, rfl, Nat.le_refl _, fun _ _ => rfl⟩⟩
      rw [HON.out]
      first | (exact ⟨(fun h => by cases h), (fun h => by have := h.1.1.1.1; omega)⟩) | (simp [e9, p0]; done) | (simp [e9, p0]; done)
set_option maxHeartbeats 3200000 in
theorem onAxis_8 (lb lo N lcap : Nat) (E : Nat → Nd) (n i : Nat) (w : World) (t : Tr E N) (hN : N ≤ 100000) (hcap : N ≤ lcap) (hA : NdsAt w lb lo N E) (hn : n < N) (hi : i < N) :
    Calls Tryd.prog 19 #[.slice (some ⟨lb, lo, none⟩) N lcap, .int .i64 (n : Int), .int .i64 8, .int .i64 (i : Int)] w fun e w' => OnT w (onA E n 8 i) e w' := by
  have hii : (i : Int) < (N : Int) := by omega
  have hni : (n : Int) < (N : Int) := by omega
  obtain ⟨d0, d1, d2, d3, d4, d5⟩ := hA i hi
  obtain ⟨f0, f1, f2, f3, f4, f5⟩ := hA n hn
  obtain ⟨s1, s2⟩ := t.sz n hn
  obtain ⟨s3, s4⟩ := t.sz i hi
  rw [s1] at f3
  rw [s3] at d3
  have hon := onA_8 E n i
  rw [same_root t hi hn] at hon
  have CRi := hidS (rootOf_is lb lo N lcap E i w t hN hcap hA hi)
  have CRn := hidS (rootOf_is lb lo N lcap E n w t hN hcap hA hn)
  generalize (rtN E i : Int) = ri at *
  generalize (rtN E n : Int) = rn at *
  by_cases p0 : ri = rn
  · have z0 : (ri == rn) = true := by first | simpa using p0 | (simp; omega)
    by_cases p1 : n + zN E n < i
    · have z1 : (n : Int) + (zN E n : Int) < (i : Int) := by omega
      by_cases p2 : (E i).kind ≠ 2
      · have z2 : ((E i).kind == 2) = false := by simpa using p2
        have HON := hidS hon
        clear hon
        go_enter Tryd.func19, Tryd.ntmps19
        go_wp2_with (first | (go_at_call 46; refine CRi.out.mono ?_; rintro e w8 ⟨rfl, hw8⟩; obtain rfl := hw8.symm; clear hw8 CRi) | (go_at_call 46; refine CRn.out.mono ?_; rintro e w9 ⟨rfl, hw9⟩; obtain rfl := hw9.symm; clear hw9 CRn))
        go_ret
        refine ⟨_, rfl, ?_, ⟨rfl, rfl, rfl, Nat.le_refl _, fun _ _ => rfl⟩⟩
        rw [HON.out]
        first | (exact ⟨(fun h => by cases h), (fun h => by have := h.1.1.1.1; omega)⟩) | (simp [p2]; done) | (simp [p0]; done) | (simp [p0, p1]; done) | (simp [p0, p1, p2]; done)
      · have z2 : ((E i).kind == 2) = true := by simpa using p2
        have HON := hidS hon
        clear hon
        go_enter Tryd.func19, Tryd.ntmps19
        go_wp2_with (first | (go_at_call 46; refine CRi.out.mono ?_; rintro e w8 ⟨rfl, hw8⟩; obtain rfl := hw8.symm; clear hw8 CRi) | (go_at_call 46; refine CRn.out.mono ?_; rintro e w9 ⟨rfl, hw9⟩; obtain rfl := hw9.symm; clear hw9 CRn))
        go_ret
        refine ⟨_, rfl, ?_, ⟨rfl, rfl, rfl, Nat.le_refl _, fun _ _ => rfl⟩⟩
        rw [HON.out]
        first | (exact ⟨(fun h => by cases h), (fun h => by have := h.1.1.1.1; omega)⟩) | (simp [p2]; done) | (simp [p0]; done) | (simp [p0, p1]; done) | (simp [p0, p1, p2]; done)
    · have z1 : ¬ (n : Int) + (zN E n : Int) < (i : Int) := by omega
      have HON := hidS hon
      clear hon
      go_enter Tryd.func19, Tryd.ntmps19
      go_wp2_with (first | (go_at_call 46; refine CRi.out.mono ?_; rintro e w8 ⟨rfl, hw8⟩; obtain rfl := hw8.symm; clear hw8 CRi) | (go_at_call 46; refine CRn.out.mono ?_; rintro e w9 ⟨rfl, hw9⟩; obtain rfl := hw9.symm; clear hw9 CRn))
      go_ret
      refine ⟨_, rfl, ?_, ⟨rfl, rfl, rfl, Nat.le_refl _, fun _ _ => rfl⟩⟩
      rw [HON.out]
      first | (exact ⟨(fun h => by cases h), (fun h => by have := h.1.1.1.1; omega)⟩) | (simp [p1]; done) | (simp [p0]; done) | (simp [p0, p1]; done)
  · have z0 : (ri == rn) = false := by first | simpa using p0 | (simp; omega)
    have HON := hidS hon
    clear hon
    go_enter Tryd.func19, Tryd.ntmps19
    go_wp2_with (first | (go_at_call 46; refine CRi.out.mono ?_; rintro e w8 ⟨rfl, hw8⟩; obtain rfl := hw8.symm; clear hw8 CRi) | (go_at_call 46; refine CRn.out.mono ?_; rintro e w9 ⟨rfl, hw9⟩; obtain rfl := hw9.symm; clear hw9 CRn))
    go_ret
    refine ⟨_, rfl, ?_, ⟨rfl, rfl, rfl, Nat.le_refl _, fun _ _ => rfl⟩⟩
    rw [HON.out]
    first | (exact ⟨(fun h => by cases h), (fun h => by have := h.1.1.1.1; omega)⟩) | (simp [p0]; done) | (simp [p0]; done)
set_option maxHeartbeats 3200000 in
theorem onAxis_9 (lb lo N lcap : Nat) (E : Nat → Nd) (n i : Nat) (w : World) (t : Tr E N) (hN : N ≤ 100000) (hcap : N ≤ lcap) (hA : NdsAt w lb lo N E) (hn : n < N) (hi : i < N) :
    Calls Tryd.prog 19 #[.slice (some ⟨lb, lo, none⟩) N lcap, .int .i64 (n : Int), .int .i64 9, .int .i64 (i : Int)] w fun e w' => OnT w (onA E n 9 i) e w' := by
  have hii : (i : Int) < (N : Int) := by omega
  have hni : (n : Int) < (N : Int) := by omega
  obtain ⟨d0, d1, d2, d3, d4, d5⟩ := hA i hi
  obtain ⟨f0, f1, f2, f3, f4, f5⟩ := hA n hn
  obtain ⟨s1, s2⟩ := t.sz n hn
  obtain ⟨s3, s4⟩ := t.sz i hi
  rw [s1] at f3
  rw [s3] at d3
  have hon := onA_9 E n i
  rw [same_root t hi hn] at hon
  have CRi := hidS (rootOf_is lb lo N lcap E i w t hN hcap hA hi)
  have CRn := hidS (rootOf_is lb lo N lcap E n w t hN hcap hA hn)
  generalize (rtN E i : Int) = ri at *
  generalize (rtN E n : Int) = rn at *
  by_cases p0 : ri = rn
  · have z0 : (ri == rn) = true := by first | simpa using p0 | (simp; omega)
    by_cases p1 : i + zN E i < n
    · have z1 : (i : Int) + (zN E i : Int) < (n : Int) := by omega
      by_cases p2 : (E i).kind ≠ 2
      · have z2 : ((E i).kind == 2) = false := by simpa using p2
        have HON := hidS hon
        clear hon
        go_enter Tryd.func19, Tryd.ntmps19
        go_wp2_with (first | (go_at_call 46; refine CRi.out.mono ?_; rintro e w8 ⟨rfl, hw8⟩; obtain rfl := hw8.symm; clear hw8 CRi) | (go_at_call 46; refine CRn.out.mono ?_; rintro e w9 ⟨rfl, hw9⟩; obtain rfl := hw9.symm; clear hw9 CRn))
        go_ret
        refine ⟨_, rfl, ?_, ⟨rfl, rfl, rfl, Nat.le_refl _, fun _ _ => rfl⟩⟩
        rw [HON.out]
        first | (exact ⟨(fun h => by cases h), (fun h => by have := h.1.1.1.1; omega)⟩) | (simp [p2]; done) | (simp [p0]; done) | (simp [p0, p1]; done) | (simp [p0, p1, p2]; done)
      · have z2 : ((E i).kind == 2) = true := by simpa using p2
        have HON := hidS hon
        clear hon
        go_enter Tryd.func19, Tryd.ntmps19
        go_wp2_with (first | (go_at_call 46; refine CRi.out.mono ?_; rintro e w8 ⟨rfl, hw8⟩; obtain rfl := hw8.symm; clear hw8 CRi) | (go_at_call 46; refine CRn.out.mono ?_; rintro e w9 ⟨rfl, hw9⟩; obtain rfl := hw9.symm; clear hw9 CRn))
        go_ret
        refine ⟨_, rfl, ?_, ⟨rfl, rfl, rfl, Nat.le_refl _, fun _ _ => rfl⟩⟩
        rw [HON.out]
        first | (exact ⟨(fun h => by cases h), (fun h => by have := h.1.1.1.1; omega)⟩) | (simp [p2]; done) | (simp [p0]; done) | (simp [p0, p1]; done) | (simp [p0, p1, p2]; done)
    · have z1 : ¬ (i : Int) + (zN E i : Int) < (n : Int) := by omega
      have HON := hidS hon
      clear hon
      go_enter Tryd.func19, Tryd.ntmps19
      go_wp2_with (first | (go_at_call 46; refine CRi.out.mono ?_; rintro e w8 ⟨rfl, hw8⟩; obtain rfl := hw8.symm; clear hw8 CRi) | (go_at_call 46; refine CRn.out.mono ?_; rintro e w9 ⟨rfl, hw9⟩; obtain rfl := hw9.symm; clear hw9 CRn))
      go_ret
      refine ⟨_, rfl, ?_, ⟨rfl, rfl, rfl, Nat.le_refl _, fun _ _ => rfl⟩⟩
      rw [HON.out]
      first | (exact ⟨(fun h => by cases h), (fun h => by have := h.1.1.1.1; omega)⟩) | (simp [p1]; done) | (simp [p0]; done) | (simp [p0, p1]; done)
  · have z0 : (ri == rn) = false := by first | simpa using p0 | (simp; omega)
    have HON := hidS hon
    clear hon
    go_enter Tryd.func19, Tryd.ntmps19
    go_wp2_with (first | (go_at_call 46; refine CRi.out.mono ?_; rintro e w8 ⟨rfl, hw8⟩; obtain rfl := hw8.symm; clear hw8 CRi) | (go_at_call 46; refine CRn.out.mono ?_; rintro e w9 ⟨rfl, hw9⟩; obtain rfl := hw9.symm; clear hw9 CRn))
    go_ret
    refine ⟨_, rfl, ?_, ⟨rfl, rfl, rfl, Nat.le_refl _, fun _ _ => rfl⟩⟩
    rw [HON.out]
    first | (exact ⟨(fun h => by cases h), (fun h => by have := h.1.1.1.1; omega)⟩) | (simp [p0]; done) | (simp [p0]; done)
set_option maxHeartbeats 3200000 in
theorem onAxis_10 (lb lo N lcap : Nat) (E : Nat → Nd) (n i : Nat) (w : World) (t : Tr E N) (hN : N ≤ 100000) (hcap : N ≤ lcap) (hA : NdsAt w lb lo N E) (hn : n < N) (hi : i < N) :
    Calls Tryd.prog 19 #[.slice (some ⟨lb, lo, none⟩) N lcap, .int .i64 (n : Int), .int .i64 10, .int .i64 (i : Int)] w fun e w' => OnT w (onA E n 10 i) e w' := by
  have hii : (i : Int) < (N : Int) := by omega
  have hni : (n : Int) < (N : Int) := by omega
  obtain ⟨d0, d1, d2, d3, d4, d5⟩ := hA i hi
  obtain ⟨f0, f1, f2, f3, f4, f5⟩ := hA n hn
  obtain ⟨s1, s2⟩ := t.sz n hn
  obtain ⟨s3, s4⟩ := t.sz i hi
  rw [s1] at f3
  rw [s3] at d3
  have hon := onA_10 E n i
  by_cases p0 : (0 : Int) ≤ (E n).parent
  · have z0 : (0 : Int) ≤ (E n).parent := by omega
    by_cases p1 : (E i).parent = (E n).parent
    · have z1 : ((E i).parent == (E n).parent) = true := by first | simpa using p1 | (simp; omega)
      by_cases p2 : n < i
      · have z2 : (n : Int) < (i : Int) := by omega
        by_cases p3 : (E i).kind ≠ 2
        · have z3 : ((E i).kind == 2) = false := by simpa using p3
          by_cases p4 : (E n).kind ≠ 2
          · have z4 : ((E n).kind == 2) = false := by simpa using p4
            have HON := hidS hon
            clear hon
            go_enter Tryd.func19, Tryd.ntmps19
            go_upto_region 22 with fail
            go_quiet (fail)
            go_wp2_with fail
            go_ret
            refine ⟨_, rfl, ?_, ⟨rfl, rfl, rfl, Nat.le_refl _, fun _ _ => rfl⟩⟩
            rw [HON.out]
            first | (exact ⟨(fun h => by cases h), (fun h => by have := h.1.1.1.1; omega)⟩) | (simp [p4]; done) | (simp [p0]; done) | (simp [p0, p1]; done) | (simp [p0, p1, p2]; done) | (simp [p0, p1, p2, p3]; done) | (simp [p0, p1, p2, p3, p4]; done)
          · have z4 : ((E n).kind == 2) = true := by simpa using p4
            have HON := hidS hon
            clear hon
            go_enter Tryd.func19, Tryd.ntmps19
            go_upto_region 22 with fail
            go_quiet (fail)
            go_wp2_with fail
            go_ret
            refine ⟨_, rfl, ?_, ⟨rfl, rfl, rfl, Nat.le_refl _, fun _ _ => rfl⟩⟩
            rw [HON.out]
            first | (exact ⟨(fun h => by cases h), (fun h => by have := h.1.1.1.1; omega)⟩) | (simp [p4]; done) | (simp [p0]; done) | (simp [p0, p1]; done) | (simp [p0, p1, p2]; done) | (simp [p0, p1, p2, p3]; done) | (simp [p0, p1, p2, p3, p4]; done)
        · have z3 : ((E i).kind == 2) = true := by simpa using p3
          have HON := hidS hon
          clear hon
          go_enter Tryd.func19, Tryd.ntmps19
          go_upto_region 22 with fail
          go_quiet (fail)
          go_wp2_with fail
          go_ret
          refine ⟨_, rfl, ?_, ⟨rfl, rfl, rfl, Nat.le_refl _, fun _ _ => rfl⟩⟩
          rw [HON.out]
          first | (exact ⟨(fun h => by cases h), (fun h => by have := h.1.1.1.1; omega)⟩) | (simp [p3]; done) | (simp [p0]; done) | (simp [p0, p1]; done) | (simp [p0, p1, p2]; done) | (simp [p0, p1, p2, p3]; done)
      · have z2 : ¬ (n : Int) < (i : Int) := by omega
        have HON := hidS hon
        clear hon
        go_enter Tryd.func19, Tryd.ntmps19
        go_upto_region 22 with fail
        go_quiet (fail)
        go_wp2_with fail
        go_ret
        refine ⟨_, rfl, ?_, ⟨rfl, rfl, rfl, Nat.le_refl _, fun _ _ => rfl⟩⟩
        rw [HON.out]
        first | (exact ⟨(fun h => by cases h), (fun h => by have := h.1.1.1.1; omega)⟩) | (simp [p2]; done) | (simp [p0]; done) | (simp [p0, p1]; done) | (simp [p0, p1, p2]; done)
    · have z1 : ((E i).parent == (E n).parent) = false := by first | simpa using p1 | (simp; omega)
      have HON := hidS hon
      clear hon
      go_enter Tryd.func19, Tryd.ntmps19
      go_upto_region 22 with fail
      go_quiet (fail)
      go_wp2_with fail
      go_ret
      refine ⟨_, rfl, ?_, ⟨rfl, rfl, rfl, Nat.le_refl _, fun _ _ => rfl⟩⟩
      rw [HON.out]
      first | (exact ⟨(fun h => by cases h), (fun h => by have := h.1.1.1.1; omega)⟩) | (simp [p1]; done) | (simp [p0]; done) | (simp [p0, p1]; done)
  · have z0 : ¬ (0 : Int) ≤ (E n).parent := by omega
    have HON := hidS hon
    clear hon
    go_enter Tryd.func19, Tryd.ntmps19
    go_upto_region 22 with fail
    go_quiet (fail)
    go_wp2_with fail
    go_ret
    refine ⟨_, rfl, ?_, ⟨rfl, rfl, rfl, Nat.le_refl _, fun _ _ => rfl⟩⟩
    rw [HON.out]
    first | (exact ⟨(fun h => by cases h), (fun h => by have := h.1.1.1.1; omega)⟩) | (simp [p0]; done) | (simp [p0]; done)
set_option maxHeartbeats 3200000 in
theorem onAxis_11 (lb lo N lcap : Nat) (E : Nat → Nd) (n i : Nat) (w : World) (t : Tr E N) (hN : N ≤ 100000) (hcap : N ≤ lcap) (hA : NdsAt w lb lo N E) (hn : n < N) (hi : i < N) :
    Calls Tryd.prog 19 #[.slice (some ⟨lb, lo, none⟩) N lcap, .int .i64 (n : Int), .int .i64 11, .int .i64 (i : Int)] w fun e w' => OnT w (onA E n 11 i) e w' := by
  have hii : (i : Int) < (N : Int) := by omega
  have hni : (n : Int) < (N : Int) := by omega
  obtain ⟨d0, d1, d2, d3, d4, d5⟩ := hA i hi
  obtain ⟨f0, f1, f2, f3, f4, f5⟩ := hA n hn
  obtain ⟨s1, s2⟩ := t.sz n hn
  obtain ⟨s3, s4⟩ := t.sz i hi
  rw [s1] at f3
  rw [s3] at d3
  have hon := onA_11 E n i
  by_cases p0 : (0 : Int) ≤ (E n).parent
  · have z0 : (0 : Int) ≤ (E n).parent := by omega
    by_cases p1 : (E i).parent = (E n).parent
    · have z1 : ((E i).parent == (E n).parent) = true := by first | simpa using p1 | (simp; omega)
      by_cases p2 : i < n
      · have z2 : (i : Int) < (n : Int) := by omega
        by_cases p3 : (E i).kind ≠ 2
        · have z3 : ((E i).kind == 2) = false := by simpa using p3
          by_cases p4 : (E n).kind ≠ 2
          · have z4 : ((E n).kind == 2) = false := by simpa using p4
            have HON := hidS hon
            clear hon
            go_enter Tryd.func19, Tryd.ntmps19
            go_upto_region 24 with fail
            go_quiet (fail)
            go_wp2_with fail
            go_ret
            refine ⟨_, rfl, ?_, ⟨rfl, rfl, rfl, Nat.le_refl _, fun _ _ => rfl⟩⟩
            rw [HON.out]
            first | (exact ⟨(fun h => by cases h), (fun h => by have := h.1.1.1.1; omega)⟩) | (simp [p4]; done) | (simp [p0]; done) | (simp [p0, p1]; done) | (simp [p0, p1, p2]; done) | (simp [p0, p1, p2, p3]; done) | (simp [p0, p1, p2, p3, p4]; done)
          · have z4 : ((E n).kind == 2) = true := by simpa using p4
            have HON := hidS hon
            clear hon
            go_enter Tryd.func19, Tryd.ntmps19
            go_upto_region 24 with fail
            go_quiet (fail)
            go_wp2_with fail
            go_ret
            refine ⟨_, rfl, ?_, ⟨rfl, rfl, rfl, Nat.le_refl _, fun _ _ => rfl⟩⟩
            rw [HON.out]
            first | (exact ⟨(fun h => by cases h), (fun h => by have := h.1.1.1.1; omega)⟩) | (simp [p4]; done) | (simp [p0]; done) | (simp [p0, p1]; done) | (simp [p0, p1, p2]; done) | (simp [p0, p1, p2, p3]; done) | (simp [p0, p1, p2, p3, p4]; done)
        · have z3 : ((E i).kind == 2) = true := by simpa using p3
          have HON := hidS hon
          clear hon
          go_enter Tryd.func19, Tryd.ntmps19
          go_upto_region 24 with fail
          go_quiet (fail)
          go_wp2_with fail
          go_ret
          refine ⟨_, rfl, ?_, ⟨rfl, rfl, rfl, Nat.le_refl _, fun _ _ => rfl⟩⟩
          rw [HON.out]
          first | (exact ⟨(fun h => by cases h), (fun h => by have := h.1.1.1.1; omega)⟩) | (simp [p3]; done) | (simp [p0]; done) | (simp [p0, p1]; done) | (simp [p0, p1, p2]; done) | (simp [p0, p1, p2, p3]; done)
      · have z2 : ¬ (i : Int) < (n : Int) := by omega
        have HON := hidS hon
        clear hon
        go_enter Tryd.func19, Tryd.ntmps19
        go_upto_region 24 with fail
        go_quiet (fail)
        go_wp2_with fail
        go_ret
        refine ⟨_, rfl, ?_, ⟨rfl, rfl, rfl, Nat.le_refl _, fun _ _ => rfl⟩⟩
        rw [HON.out]
        first | (exact ⟨(fun h => by cases h), (fun h => by have := h.1.1.1.1; omega)⟩) | (simp [p2]; done) | (simp [p0]; done) | (simp [p0, p1]; done) | (simp [p0, p1, p2]; done)
    · have z1 : ((E i).parent == (E n).parent) = false := by first | simpa using p1 | (simp; omega)
      have HON := hidS hon
      clear hon
      go_enter Tryd.func19, Tryd.ntmps19
      go_upto_region 24 with fail
      go_quiet (fail)
      go_wp2_with fail
      go_ret
      refine ⟨_, rfl, ?_, ⟨rfl, rfl, rfl, Nat.le_refl _, fun _ _ => rfl⟩⟩
      rw [HON.out]
      first | (exact ⟨(fun h => by cases h), (fun h => by have := h.1.1.1.1; omega)⟩) | (simp [p1]; done) | (simp [p0]; done) | (simp [p0, p1]; done)
  · have z0 : ¬ (0 : Int) ≤ (E n).parent := by omega
    have HON := hidS hon
    clear hon
    go_enter Tryd.func19, Tryd.ntmps19
    go_upto_region 24 with fail
    go_quiet (fail)
    go_wp2_with fail
    go_ret
    refine ⟨_, rfl, ?_, ⟨rfl, rfl, rfl, Nat.le_refl _, fun _ _ => rfl⟩⟩
    rw [HON.out]
    first | (exact ⟨(fun h => by cases h), (fun h => by have := h.1.1.1.1; omega)⟩) | (simp [p0]; done) | (simp [p0]; done)
end Go.Proofs.YtnfljohddpadhaaDoor
