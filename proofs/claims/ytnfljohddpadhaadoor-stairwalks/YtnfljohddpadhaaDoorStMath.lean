/-
  STEPS, PLAINLY: what the best of each group tells is what is on the axis of some context node.
-/
import Derived.Test.YtnfljohddpadhaaDoorStFar
set_option linter.unusedVariables false
namespace Go.Proofs.YtnfljohddpadhaaDoor
set_option maxRecDepth 100000
open Go.RowKit Go.WideShapes

/-- on the axis of one of the context nodes -/
def onJ (E : Nat → Nd) (N K : Nat) (C : Nat → Nat) (axis : Int) (i : Nat) : Prop := i < N ∧ ∃ j, j < K ∧ onA E (C j) axis i
theorem onA_1 (E : Nat → Nd) (n i : Nat) : onA E n 1 i ↔ ((E i).parent = n ∧ (E i).kind ≠ 2) := by simp [onA]
theorem onA_2 (E : Nat → Nd) (n i : Nat) : onA E n 2 i ↔ ((n < i ∧ i ≤ n + zN E n) ∧ (E i).kind ≠ 2) := by simp [onA]
theorem onA_3 (E : Nat → Nd) (n i : Nat) : onA E n 3 i ↔ (i = n ∨ ((n < i ∧ i ≤ n + zN E n) ∧ (E i).kind ≠ 2)) := by simp [onA]
theorem onA_4 (E : Nat → Nd) (n i : Nat) : onA E n 4 i ↔ i = n := by simp [onA]
theorem onA_5 (E : Nat → Nd) (n i : Nat) : onA E n 5 i ↔ (E n).parent = i := by simp [onA]
theorem onA_6 (E : Nat → Nd) (n i : Nat) : onA E n 6 i ↔ (i < n ∧ n ≤ i + zN E i) := by simp [onA]
theorem onA_7 (E : Nat → Nd) (n i : Nat) : onA E n 7 i ↔ (i = n ∨ (i < n ∧ n ≤ i + zN E i)) := by simp [onA]
theorem onA_8 (E : Nat → Nd) (n i : Nat) : onA E n 8 i ↔ (((∃ r, Rt E r i ∧ Rt E r n) ∧ n + zN E n < i) ∧ (E i).kind ≠ 2) := by simp [onA]
theorem onA_9 (E : Nat → Nd) (n i : Nat) : onA E n 9 i ↔ (((∃ r, Rt E r i ∧ Rt E r n) ∧ i + zN E i < n) ∧ (E i).kind ≠ 2) := by simp [onA]
theorem onA_10 (E : Nat → Nd) (n i : Nat) : onA E n 10 i ↔ (((((0 : Int) ≤ (E n).parent ∧ (E i).parent = (E n).parent) ∧ n < i) ∧ (E i).kind ≠ 2) ∧ (E n).kind ≠ 2) := by simp [onA]
theorem onA_11 (E : Nat → Nd) (n i : Nat) : onA E n 11 i ↔ (((((0 : Int) ≤ (E n).parent ∧ (E i).parent = (E n).parent) ∧ i < n) ∧ (E i).kind ≠ 2) ∧ (E n).kind ≠ 2) := by simp [onA]
theorem onA_12 (E : Nat → Nd) (n i : Nat) : onA E n 12 i ↔ ((E i).parent = n ∧ (E i).kind = 2) := by simp [onA]
theorem ax_8 {E : Nat → Nd} {N K : Nat} {C : Nat → Nat} (t : Tr E N) (hCN : ∀ j, j < K → C j < N) (i : Nat) : (∃ g c : Nat, bst (fun a b => decide (((a + zN E a : Nat) : Int) < ((b + zN E b : Nat) : Int))) (fun c => (rtN E c : Int)) C K (g : Int) = some c ∧ (c + zN E c < i ∧ i ≤ g + zN E g) ∧ (E i).kind ≠ 2) ↔ onJ E N K C 8 i := by
  constructor
  · rintro ⟨g, c, h1, h2, h3⟩
    rcases bst_is (fun a => ((a + zN E a : Nat) : Int)) (fun a b => decide (((a + zN E a : Nat) : Int) < ((b + zN E b : Nat) : Int))) (fun c => (rtN E c : Int)) C (fun a b => by first | rfl | (show decide _ = decide _; congr 1; exact propext ⟨fun h => by omega, fun h => by omega⟩)) (g := (g : Int)) (by omega) K with ⟨e, _⟩ | ⟨j, j1, e, e2, _⟩
    · rw [e] at h1; cases h1
    · rw [e] at h1
      cases h1
      have hR := rtN_is t (hCN j j1)
      obtain rfl : rtN E (C j) = g := by
        have e3 : (rtN E (C j) : Int) = (g : Int) := e2
        omega
      have hz := (t.sz (rtN E (C j)) (by have := hR.1.1; have := hCN j j1; omega)).2
      have k1 := hR.1.1
      have k2 := hR.1.2
      refine ⟨by omega, j, j1, (onA_8 E (C j) i).2 ⟨⟨⟨rtN E (C j), ⟨⟨by omega, by omega⟩, hR.2⟩, hR⟩, by omega⟩, h3⟩⟩
  · rintro ⟨hi, j, j1, h⟩
    obtain ⟨⟨⟨r, r1, r2⟩, h2⟩, h3⟩ := (onA_8 E (C j) i).1 h
    have hr : rtN E (C j) = r := Rt.one t (hCN j j1) (rtN_is t (hCN j j1)) r2
    rcases bst_is (fun a => ((a + zN E a : Nat) : Int)) (fun a b => decide (((a + zN E a : Nat) : Int) < ((b + zN E b : Nat) : Int))) (fun c => (rtN E c : Int)) C (fun a b => by first | rfl | (show decide _ = decide _; congr 1; exact propext ⟨fun h => by omega, fun h => by omega⟩)) (g := (r : Int)) (by omega) K with ⟨_, e⟩ | ⟨l, l1, e, e2, e3⟩
    · exact absurd (show (rtN E (C j) : Int) = (r : Int) by omega) (e j j1)
    · have h4 := e3 j j1 (show (rtN E (C j) : Int) = (r : Int) by omega)
      have k1 := r1.1.1
      have k2 := r1.1.2
      exact ⟨r, C l, e, by omega, h3⟩
theorem ax_9 {E : Nat → Nd} {N K : Nat} {C : Nat → Nat} (t : Tr E N) (hCN : ∀ j, j < K → C j < N) (i : Nat) : (∃ g c : Nat, bst (fun a b => decide ((b : Int) < (a : Int))) (fun c => (rtN E c : Int)) C K (g : Int) = some c ∧ ((g ≤ i ∧ i < c) ∧ i + zN E i < c) ∧ (E i).kind ≠ 2) ↔ onJ E N K C 9 i := by
  constructor
  · rintro ⟨g, c, h1, h2, h3⟩
    rcases bst_is (fun a => -(a : Int)) (fun a b => decide ((b : Int) < (a : Int))) (fun c => (rtN E c : Int)) C (fun a b => by first | rfl | (show decide _ = decide _; congr 1; exact propext ⟨fun h => by omega, fun h => by omega⟩)) (g := (g : Int)) (by omega) K with ⟨e, _⟩ | ⟨j, j1, e, e2, _⟩
    · rw [e] at h1; cases h1
    · rw [e] at h1
      cases h1
      have hR := rtN_is t (hCN j j1)
      obtain rfl : rtN E (C j) = g := by
        have e3 : (rtN E (C j) : Int) = (g : Int) := e2
        omega
      have hz := (t.sz (rtN E (C j)) (by have := hR.1.1; have := hCN j j1; omega)).2
      have k1 := hR.1.1
      have k2 := hR.1.2
      refine ⟨by omega, j, j1, (onA_9 E (C j) i).2 ⟨⟨⟨rtN E (C j), ⟨⟨by omega, by omega⟩, hR.2⟩, hR⟩, by omega⟩, h3⟩⟩
  · rintro ⟨hi, j, j1, h⟩
    obtain ⟨⟨⟨r, r1, r2⟩, h2⟩, h3⟩ := (onA_9 E (C j) i).1 h
    have hr : rtN E (C j) = r := Rt.one t (hCN j j1) (rtN_is t (hCN j j1)) r2
    rcases bst_is (fun a => -(a : Int)) (fun a b => decide ((b : Int) < (a : Int))) (fun c => (rtN E c : Int)) C (fun a b => by first | rfl | (show decide _ = decide _; congr 1; exact propext ⟨fun h => by omega, fun h => by omega⟩)) (g := (r : Int)) (by omega) K with ⟨_, e⟩ | ⟨l, l1, e, e2, e3⟩
    · exact absurd (show (rtN E (C j) : Int) = (r : Int) by omega) (e j j1)
    · have h4 := e3 j j1 (show (rtN E (C j) : Int) = (r : Int) by omega)
      have k1 := r1.1.1
      have k2 := r1.1.2
      exact ⟨r, C l, e, by omega, h3⟩
theorem ax_10 {E : Nat → Nd} {N K : Nat} {C : Nat → Nat} (t : Tr E N) (hCN : ∀ j, j < K → C j < N) (i : Nat) : (∃ g c : Nat, bst (fun a b => decide ((a : Int) < (b : Int))) (fun c => rowP (E c)) C K (g : Int) = some c ∧ (c + zN E c + 1 ≤ i ∧ i ≤ g + zN E g) ∧ (E i).parent = (g : Int) ∧ (E i).kind ≠ 2) ↔ onJ E N K C 10 i := by
  constructor
  · rintro ⟨g, c, h1, h2, h3, h4⟩
    rcases bst_is (fun a => (a : Int)) (fun a b => decide ((a : Int) < (b : Int))) (fun c => rowP (E c)) C (fun a b => by first | rfl | (show decide _ = decide _; congr 1; exact propext ⟨fun h => by omega, fun h => by omega⟩)) (g := (g : Int)) (by omega) K with ⟨e, _⟩ | ⟨j, j1, e, e2, _⟩
    · rw [e] at h1; cases h1
    · rw [e] at h1
      cases h1
      have hj := hCN j j1
      have e4 : rowP (E (C j)) = (g : Int) := e2
      unfold rowP at e4
      split at e4
      · omega
      · rename_i hk
        rcases t.up (C j) hj with k | ⟨p, k1, k2, k3⟩
        · omega
        · obtain rfl : p = g := by omega
          have hz := (t.sz p (by omega)).2
          exact ⟨by omega, j, j1, (onA_10 E (C j) i).2 ⟨⟨⟨⟨by omega, by omega⟩, by omega⟩, h4⟩, hk⟩⟩
  · rintro ⟨hi, j, j1, h⟩
    obtain ⟨⟨⟨⟨h1, h2⟩, h3⟩, h4⟩, h5⟩ := (onA_10 E (C j) i).1 h
    have hj := hCN j j1
    rcases t.up (C j) hj with k | ⟨p, k1, k2, k3⟩
    · omega
    · have hg : rowP (E (C j)) = (p : Int) := by unfold rowP; rw [if_neg h5]; exact k1
      rcases bst_is (fun a => (a : Int)) (fun a b => decide ((a : Int) < (b : Int))) (fun c => rowP (E c)) C (fun a b => by first | rfl | (show decide _ = decide _; congr 1; exact propext ⟨fun h => by omega, fun h => by omega⟩)) (g := (p : Int)) (by omega) K with ⟨_, e⟩ | ⟨l, l1, e, e2, e3⟩
      · exact absurd hg (e j j1)
      · have h6 := e3 j j1 hg
        have e4 : rowP (E (C l)) = (p : Int) := e2
        have hpl : (E (C l)).parent = (p : Int) := by
          unfold rowP at e4
          split at e4
          · omega
          · exact e4
        rcases t.up i hi with k' | ⟨p', m1, m2, m3⟩
        · omega
        · obtain rfl : p' = p := by omega
          rcases t.up (C l) (hCN l l1) with k'' | ⟨p'', n1, n2, n3⟩
          · omega
          · refine ⟨p', C l, e, ⟨?_, ?_⟩, by omega, h4⟩
            · by_cases hin : i ≤ C l + zN E (C l)
              · have := t.par (C l) i (hCN l l1) (by omega) hin
                omega
              · omega
            · omega
theorem ax_11 {E : Nat → Nd} {N K : Nat} {C : Nat → Nat} (t : Tr E N) (hCN : ∀ j, j < K → C j < N) (i : Nat) : (∃ g c : Nat, bst (fun a b => decide ((b : Int) < (a : Int))) (fun c => rowP (E c)) C K (g : Int) = some c ∧ (g + 1 ≤ i ∧ i ≤ c - 1) ∧ (E i).parent = (g : Int) ∧ (E i).kind ≠ 2) ↔ onJ E N K C 11 i := by
  constructor
  · rintro ⟨g, c, h1, h2, h3, h4⟩
    rcases bst_is (fun a => -(a : Int)) (fun a b => decide ((b : Int) < (a : Int))) (fun c => rowP (E c)) C (fun a b => by first | rfl | (show decide _ = decide _; congr 1; exact propext ⟨fun h => by omega, fun h => by omega⟩)) (g := (g : Int)) (by omega) K with ⟨e, _⟩ | ⟨j, j1, e, e2, _⟩
    · rw [e] at h1; cases h1
    · rw [e] at h1
      cases h1
      have hj := hCN j j1
      have e4 : rowP (E (C j)) = (g : Int) := e2
      unfold rowP at e4
      split at e4
      · omega
      · rename_i hk
        rcases t.up (C j) hj with k | ⟨p, k1, k2, k3⟩
        · omega
        · obtain rfl : p = g := by omega
          have hz := (t.sz p (by omega)).2
          exact ⟨by omega, j, j1, (onA_11 E (C j) i).2 ⟨⟨⟨⟨by omega, by omega⟩, by omega⟩, h4⟩, hk⟩⟩
  · rintro ⟨hi, j, j1, h⟩
    obtain ⟨⟨⟨⟨h1, h2⟩, h3⟩, h4⟩, h5⟩ := (onA_11 E (C j) i).1 h
    have hj := hCN j j1
    rcases t.up (C j) hj with k | ⟨p, k1, k2, k3⟩
    · omega
    · have hg : rowP (E (C j)) = (p : Int) := by unfold rowP; rw [if_neg h5]; exact k1
      rcases bst_is (fun a => -(a : Int)) (fun a b => decide ((b : Int) < (a : Int))) (fun c => rowP (E c)) C (fun a b => by first | rfl | (show decide _ = decide _; congr 1; exact propext ⟨fun h => by omega, fun h => by omega⟩)) (g := (p : Int)) (by omega) K with ⟨_, e⟩ | ⟨l, l1, e, e2, e3⟩
      · exact absurd hg (e j j1)
      · have h6 := e3 j j1 hg
        have e4 : rowP (E (C l)) = (p : Int) := e2
        have hpl : (E (C l)).parent = (p : Int) := by
          unfold rowP at e4
          split at e4
          · omega
          · exact e4
        rcases t.up i hi with k' | ⟨p', m1, m2, m3⟩
        · omega
        · obtain rfl : p' = p := by omega
          rcases t.up (C l) (hCN l l1) with k'' | ⟨p'', n1, n2, n3⟩
          · omega
          · refine ⟨p', C l, e, ⟨?_, ?_⟩, by omega, h4⟩
            · omega
            · omega
end Go.Proofs.YtnfljohddpadhaaDoor
