import Derived.Test.YtbnlekhjgkojlaaGreatDoorTcPlain
import Derived.KernelRfl
set_option linter.unusedVariables false
namespace Go.Proofs.YtbnlekhjgkojlaaGreatDoor
set_option maxRecDepth 100000
open Go.RowKit
def eats : Nat → Nat → List UInt8 → Option Nat
 | _, 0, _ => some 0
 | 0, _ + 1, _ => none
 | f + 1, k + 1, Y => if bk (bAt Y 0) = true then eats f k (Y.drop 1) else if (tk Y).1 = 0 then (if (tk Y).2.2 ≤ k + 1 then (eats f (k + 1 - (tk Y).2.2) (Y.drop (tk Y).2.2)).map (· + 1) else none) else none
theorem eats_cut {l : List UInt8} : ∀ (f k : Nat) (Y : List UInt8) (m : Nat) (L : List Tok) (a : Nat), CutTo l L a → l.drop a = Y → a + k ≤ l.length → eats f k Y = some m → L.length + m ≤ 200 → ∃ L', CutTo l L' (a + k) ∧ L'.length = L.length + m
 | f, 0, Y, m, L, a, h, hd, hk, he, hm => by
  have e : m = 0 := by cases f <;> (simp [eats] at he; exact he.symm)
  exact ⟨L, h, by omega⟩
 | 0, k + 1, Y, m, L, a, h, hd, hk, he, hm => by simp [eats] at he
 | f + 1, k + 1, Y, m, L, a, h, hd, hk, he, hm => by
  have ha : a < l.length := by omega
  have hb0 : bAt Y 0 = bAt l a := by rw [← hd, bAt_drop]; rfl
  rw [eats] at he
  by_cases c1 : bk (bAt Y 0) = true
  · rw [if_pos c1] at he
    have h1 : 1 ≤ bl (l.drop a) := by
     rw [hd]
     cases Y with
     | nil =>
      have := congrArg List.length hd
      rw [List.length_drop] at this
      simp at this
      omega
     | cons c r => rw [bAt_zero] at c1; unfold bl; rw [if_pos c1]; omega
    have h2 := h.blanks h1
    obtain ⟨L', i1, i2⟩ := eats_cut f k (Y.drop 1) m L (a + 1) h2 (by rw [← hd, List.drop_drop]) (by omega) he hm
    exact ⟨L', by rw [show a + (k + 1) = a + 1 + k by omega]; exact i1, i2⟩
  · rw [if_neg c1] at he
    by_cases c2 : (tk Y).1 = 0
    · rw [if_pos c2] at he
      by_cases c3 : (tk Y).2.2 ≤ k + 1
      · rw [if_pos c3] at he
        cases hr : eats f (k + 1 - (tk Y).2.2) (Y.drop (tk Y).2.2) with
        | none => rw [hr] at he; simp at he
        | some m' =>
         rw [hr] at he
         simp only [Option.map_some, Option.some.injEq] at he
         have c1' : bk (bAt l a) = false := by rw [← hb0]; simpa using c1
         have ht : (tk (l.drop a)).1 = 0 := by rw [hd]; exact c2
         have h2 := h.tok ha c1' (by omega) ht
         rw [hd] at h2
         obtain ⟨L', i1, i2⟩ := eats_cut f _ (Y.drop (tk Y).2.2) m' _ _ h2 (by rw [← hd, List.drop_drop, hd]) (by omega) hr (by rw [List.length_append]; simp only [List.length_singleton]; omega)
         refine ⟨L', by rw [show a + (k + 1) = a + (tk Y).2.2 + (k + 1 - (tk Y).2.2) by omega]; exact i1, ?_⟩
         rw [i2, List.length_append]
         simp only [List.length_singleton]
         omega
      · rw [if_neg c3] at he; cases he
    · rw [if_neg c2] at he; cases he
def Eat (X Y : List UInt8) (m : Nat) : Prop := ∃ f, eats f X.length (X ++ Y) = some m
theorem eat_cut {l X Y : List UInt8} {m : Nat} {L : List Tok} {a : Nat} (h : Eat X Y m) (hc : CutTo l L a) (hd : l.drop a = X ++ Y) (hm : L.length + m ≤ 200) : ∃ L', CutTo l L' (a + X.length) ∧ L'.length = L.length + m := by
 obtain ⟨f, hf⟩ := h
 have hl := congrArg List.length hd
 rw [List.length_drop, List.length_append] at hl
 rcases Nat.eq_zero_or_pos X.length with e | e
 · rw [e] at hf ⊢
   have e0 : m = 0 := by cases f <;> (simp [eats] at hf; exact hf.symm)
   exact ⟨L, hc, by omega⟩
 · exact eats_cut f _ _ m L a hc hd (by omega) hf hm
def Eats (X Y : List UInt8) (m : Nat) : Prop := ∀ (l : List UInt8) (L : List Tok) (a : Nat), CutTo l L a → l.drop a = X ++ Y → L.length + m ≤ 200 → ∃ L', CutTo l L' (a + X.length) ∧ L'.length ≤ L.length + m
theorem Eat.eats {X Y : List UInt8} {m n : Nat} (h : Eat X Y m) (hn : m ≤ n) : Eats X Y n := by
 intro l L a hc hd hm
 obtain ⟨L', i1, i2⟩ := eat_cut h hc hd (by omega)
 exact ⟨L', i1, by omega⟩
theorem Eats.append {X Z Y : List UInt8} {m n : Nat} (h1 : Eats X (Z ++ Y) m) (h2 : Eats Z Y n) : Eats (X ++ Z) Y (m + n) := by
 intro l L a hc hd hm
 obtain ⟨L1, i1, i2⟩ := h1 l L a hc (by rw [hd]; simp) (by omega)
 have hd2 : l.drop (a + X.length) = Z ++ Y := by rw [← List.drop_drop, hd, List.append_assoc, List.drop_left]
 obtain ⟨L2, j1, j2⟩ := h2 l L1 (a + X.length) i1 hd2 (by omega)
 exact ⟨L2, by rw [List.length_append, ← Nat.add_assoc]; exact j1, by omega⟩
theorem Eats.more {X Y : List UInt8} {m n : Nat} (h : Eats X Y m) (hn : m ≤ n) : Eats X Y n := by
 intro l L a hc hd hm
 obtain ⟨L', i1, i2⟩ := h l L a hc hd (by omega)
 exact ⟨L', i1, by omega⟩
def baseL : List (List UInt8) := [[47, 114], [47, 47, 97], [47, 47, 42], [47, 114, 47, 42], [47, 47, 64, 107], [47, 47, 116, 101, 120, 116, 40, 41]]
def stepL : List (List UInt8) := [[97], [98], [42], [64, 107], [64, 109], [46, 46], [116, 101, 120, 116, 40, 41], [110, 111, 100, 101, 40, 41], [100, 101, 115, 99, 101, 110, 100, 97, 110, 116, 58, 58, 97], [97, 110, 99, 101, 115, 116, 111, 114, 58, 58, 42], [102, 111, 108, 108, 111, 119, 105, 110, 103, 58, 58, 98], [112, 114, 101, 99, 101, 100, 105, 110, 103, 58, 58, 42], [102, 111, 108, 108, 111, 119, 105, 110, 103, 45, 115, 105, 98, 108, 105, 110, 103, 58, 58, 42], [112, 114, 101, 99, 101, 100, 105, 110, 103, 45, 115, 105, 98, 108, 105, 110, 103, 58, 58, 110, 111, 100, 101, 40, 41], [115, 101, 108, 102, 58, 58, 99], [100, 101, 115, 99, 101, 110, 100, 97, 110, 116, 45, 111, 114, 45, 115, 101, 108, 102, 58, 58, 110, 111, 100, 101, 40, 41], [99, 111, 109, 109, 101, 110, 116, 40, 41], [99]]
def q0L : List (List UInt8) := [[49], [47, 47, 97], [34, 120, 34], [116, 114, 117, 101, 40, 41], [40, 41]]
def sepL : List (List UInt8) := [[47], [47, 47]]
theorem base_eat (c : UInt8) (R : List UInt8) (hc : c = 47 ∨ c = 41 ∨ c = 32) : ∀ i, i < 6 → ∃ m, m ≤ 6 ∧ Eat (baseL.getD i []) (c :: R) m := by
 intro i hi
 have h : i = 0 ∨ i = 1 ∨ i = 2 ∨ i = 3 ∨ i = 4 ∨ i = 5 := by omega
 rcases hc with rfl | rfl | rfl
 all_goals
  rcases h with rfl | rfl | rfl | rfl | rfl | rfl
 · exact ⟨2, by decide, 12, by kernel_rfl⟩
 · exact ⟨2, by decide, 12, by kernel_rfl⟩
 · exact ⟨2, by decide, 12, by kernel_rfl⟩
 · exact ⟨4, by decide, 12, by kernel_rfl⟩
 · exact ⟨3, by decide, 12, by kernel_rfl⟩
 · exact ⟨4, by decide, 12, by kernel_rfl⟩
 · exact ⟨2, by decide, 12, by kernel_rfl⟩
 · exact ⟨2, by decide, 12, by kernel_rfl⟩
 · exact ⟨2, by decide, 12, by kernel_rfl⟩
 · exact ⟨4, by decide, 12, by kernel_rfl⟩
 · exact ⟨3, by decide, 12, by kernel_rfl⟩
 · exact ⟨4, by decide, 12, by kernel_rfl⟩
 · exact ⟨2, by decide, 12, by kernel_rfl⟩
 · exact ⟨2, by decide, 12, by kernel_rfl⟩
 · exact ⟨2, by decide, 12, by kernel_rfl⟩
 · exact ⟨4, by decide, 12, by kernel_rfl⟩
 · exact ⟨3, by decide, 12, by kernel_rfl⟩
 · exact ⟨4, by decide, 12, by kernel_rfl⟩
theorem step_eat (c : UInt8) (R : List UInt8) (hc : c = 47 ∨ c = 41 ∨ c = 32) : ∀ i, i < 18 → ∃ m, m ≤ 6 ∧ Eat (stepL.getD i []) (c :: R) m := by
 intro i hi
 have h : i = 0 ∨ i = 1 ∨ i = 2 ∨ i = 3 ∨ i = 4 ∨ i = 5 ∨ i = 6 ∨ i = 7 ∨ i = 8 ∨ i = 9 ∨ i = 10 ∨ i = 11 ∨ i = 12 ∨ i = 13 ∨ i = 14 ∨ i = 15 ∨ i = 16 ∨ i = 17 := by omega
 rcases hc with rfl | rfl | rfl
 all_goals
  rcases h with rfl | rfl | rfl | rfl | rfl | rfl | rfl | rfl | rfl | rfl | rfl | rfl | rfl | rfl | rfl | rfl | rfl | rfl
 · exact ⟨1, by decide, 12, by kernel_rfl⟩
 · exact ⟨1, by decide, 12, by kernel_rfl⟩
 · exact ⟨1, by decide, 12, by kernel_rfl⟩
 · exact ⟨2, by decide, 12, by kernel_rfl⟩
 · exact ⟨2, by decide, 12, by kernel_rfl⟩
 · exact ⟨1, by decide, 12, by kernel_rfl⟩
 · exact ⟨3, by decide, 12, by kernel_rfl⟩
 · exact ⟨3, by decide, 12, by kernel_rfl⟩
 · exact ⟨3, by decide, 12, by kernel_rfl⟩
 · exact ⟨3, by decide, 12, by kernel_rfl⟩
 · exact ⟨3, by decide, 12, by kernel_rfl⟩
 · exact ⟨3, by decide, 12, by kernel_rfl⟩
 · exact ⟨3, by decide, 12, by kernel_rfl⟩
 · exact ⟨5, by decide, 12, by kernel_rfl⟩
 · exact ⟨3, by decide, 12, by kernel_rfl⟩
 · exact ⟨5, by decide, 12, by kernel_rfl⟩
 · exact ⟨3, by decide, 12, by kernel_rfl⟩
 · exact ⟨1, by decide, 12, by kernel_rfl⟩
 · exact ⟨1, by decide, 12, by kernel_rfl⟩
 · exact ⟨1, by decide, 12, by kernel_rfl⟩
 · exact ⟨1, by decide, 12, by kernel_rfl⟩
 · exact ⟨2, by decide, 12, by kernel_rfl⟩
 · exact ⟨2, by decide, 12, by kernel_rfl⟩
 · exact ⟨1, by decide, 12, by kernel_rfl⟩
 · exact ⟨3, by decide, 12, by kernel_rfl⟩
 · exact ⟨3, by decide, 12, by kernel_rfl⟩
 · exact ⟨3, by decide, 12, by kernel_rfl⟩
 · exact ⟨3, by decide, 12, by kernel_rfl⟩
 · exact ⟨3, by decide, 12, by kernel_rfl⟩
 · exact ⟨3, by decide, 12, by kernel_rfl⟩
 · exact ⟨3, by decide, 12, by kernel_rfl⟩
 · exact ⟨5, by decide, 12, by kernel_rfl⟩
 · exact ⟨3, by decide, 12, by kernel_rfl⟩
 · exact ⟨5, by decide, 12, by kernel_rfl⟩
 · exact ⟨3, by decide, 12, by kernel_rfl⟩
 · exact ⟨1, by decide, 12, by kernel_rfl⟩
 · exact ⟨1, by decide, 12, by kernel_rfl⟩
 · exact ⟨1, by decide, 12, by kernel_rfl⟩
 · exact ⟨1, by decide, 12, by kernel_rfl⟩
 · exact ⟨2, by decide, 12, by kernel_rfl⟩
 · exact ⟨2, by decide, 12, by kernel_rfl⟩
 · exact ⟨1, by decide, 12, by kernel_rfl⟩
 · exact ⟨3, by decide, 12, by kernel_rfl⟩
 · exact ⟨3, by decide, 12, by kernel_rfl⟩
 · exact ⟨3, by decide, 12, by kernel_rfl⟩
 · exact ⟨3, by decide, 12, by kernel_rfl⟩
 · exact ⟨3, by decide, 12, by kernel_rfl⟩
 · exact ⟨3, by decide, 12, by kernel_rfl⟩
 · exact ⟨3, by decide, 12, by kernel_rfl⟩
 · exact ⟨5, by decide, 12, by kernel_rfl⟩
 · exact ⟨3, by decide, 12, by kernel_rfl⟩
 · exact ⟨5, by decide, 12, by kernel_rfl⟩
 · exact ⟨3, by decide, 12, by kernel_rfl⟩
 · exact ⟨1, by decide, 12, by kernel_rfl⟩
theorem sep_eat (R : List UInt8) : ∀ j, j < 2 → ∀ i, i < 18 → ∀ Z, stepL.getD i [] ++ R = Z → Eat (sepL.getD j []) Z 1 := by
 intro j hj i hi Z hZ
 have h : i = 0 ∨ i = 1 ∨ i = 2 ∨ i = 3 ∨ i = 4 ∨ i = 5 ∨ i = 6 ∨ i = 7 ∨ i = 8 ∨ i = 9 ∨ i = 10 ∨ i = 11 ∨ i = 12 ∨ i = 13 ∨ i = 14 ∨ i = 15 ∨ i = 16 ∨ i = 17 := by omega
 have h2 : j = 0 ∨ j = 1 := by omega
 subst hZ
 rcases h2 with rfl | rfl
 all_goals
  rcases h with rfl | rfl | rfl | rfl | rfl | rfl | rfl | rfl | rfl | rfl | rfl | rfl | rfl | rfl | rfl | rfl | rfl | rfl
 all_goals exact ⟨3, by kernel_rfl⟩
def OkP (X : List UInt8) (m : Nat) : Prop := ∀ c R, (c = 47 ∨ c = 41 ∨ c = 32) → Eats X (c :: R) m
theorem okP_base {i : Nat} (hi : i < 6) : OkP (baseL.getD i []) 6 := by
 intro c R hc
 obtain ⟨m, h1, h2⟩ := base_eat c R hc i hi
 exact h2.eats h1
theorem sep_first {j : Nat} (hj : j < 2) : ∃ S, sepL.getD j [] = 47 :: S := by
 have h2 : j = 0 ∨ j = 1 := by omega
 rcases h2 with rfl | rfl
 · exact ⟨[], rfl⟩
 · exact ⟨[47], rfl⟩
theorem OkP.step {X : List UInt8} {m i j : Nat} (h : OkP X m) (hj : j < 2) (hi : i < 18) : OkP (X ++ (sepL.getD j [] ++ stepL.getD i [])) (m + 7) := by
 intro c R hc
 obtain ⟨S, hS⟩ := sep_first hj
 obtain ⟨q, h1, h2⟩ := step_eat c R hc i hi
 have a2 : Eats (sepL.getD j [] ++ stepL.getD i []) (c :: R) (1 + 6) := Eats.append ((sep_eat (c :: R) j hj i hi _ rfl).eats (Nat.le_refl _)) (h2.eats h1)
 have a1 := h 47 (S ++ stepL.getD i [] ++ c :: R) (.inl rfl)
 refine Eats.append (n := 7) ?_ a2
 rw [hS]
 simpa using a1
end Go.Proofs.YtbnlekhjgkojlaaGreatDoor
