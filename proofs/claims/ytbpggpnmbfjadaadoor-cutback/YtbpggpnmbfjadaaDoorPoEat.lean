/-
  PIECES OF QUERIES, PLAINLY: how tokens are cut out of a text that is put together.
-/
import Derived.Test.YtbpggpnmbfjadaaDoorTcPlain
import Derived.KernelRfl
set_option linter.unusedVariables false
namespace Go.Proofs.YtbpggpnmbfjadaaDoor
set_option maxRecDepth 100000
open Go.RowKit

/-- so many bytes are eaten as whole tokens and blanks: how many tokens -/
def eats : Nat → Nat → List UInt8 → Option Nat
  | _, 0, _ => some 0
  | 0, _ + 1, _ => none
  | f + 1, k + 1, Y => if bk (bAt Y 0) = true then eats f k (Y.drop 1) else if (tk Y).1 = 0 then (if (tk Y).2.2 ≤ k + 1 then (eats f (k + 1 - (tk Y).2.2) (Y.drop (tk Y).2.2)).map (· + 1) else none) else none
theorem eats_cut {l : List UInt8} : ∀ (f k : Nat) (Y : List UInt8) (m : Nat) (L : List Tok) (a : Nat), CutTo l L a → l.drop a = Y → a + k ≤ l.length → eats f k Y = some m → L.length + m ≤ 200 → ∃ L', CutTo l L' (a + k) ∧ L'.length = L.length + m
  | f, 0, Y, m, L, a, h, hd, hk, he, hm => by
    have e : m = 0 := by cases f <;> (simp [eats] at he; exact he.symm)
    exact ⟨L, h, by omega⟩
  | 0, k + 1, Y, m, L, a, h, hd, hk, he, hm => by simp [eats] at he
  | f + 1, k + 1, Y, m, L, a, h, hd, hk, he, hm => by
    have ha : a < l.length := by omega
    have hb0 : bAt Y 0 = bAt l a := by rw [← hd, bAt_drop]; rfl
    rw [eats] at he
    by_cases c1 : bk (bAt Y 0) = true
    · rw [if_pos c1] at he
      have h1 : 1 ≤ bl (l.drop a) := by
        rw [hd]
        cases Y with
        | nil =>
          have := congrArg List.length hd
          rw [List.length_drop] at this
          simp at this
          omega
        | cons c r => rw [bAt_zero] at c1; unfold bl; rw [if_pos c1]; omega
      have h2 := h.blanks h1
      obtain ⟨L', i1, i2⟩ := eats_cut f k (Y.drop 1) m L (a + 1) h2 (by rw [← hd, List.drop_drop]) (by omega) he hm
      exact ⟨L', by rw [show a + (k + 1) = a + 1 + k by omega]; exact i1, i2⟩
    · rw [if_neg c1] at he
      by_cases c2 : (tk Y).1 = 0
      · rw [if_pos c2] at he
        by_cases c3 : (tk Y).2.2 ≤ k + 1
        · rw [if_pos c3] at he
          cases hr : eats f (k + 1 - (tk Y).2.2) (Y.drop (tk Y).2.2) with
          | none => rw [hr] at he; simp at he
          | some m' =>
            rw [hr] at he
            simp only [Option.map_some, Option.some.injEq] at he
            have c1' : bk (bAt l a) = false := by rw [← hb0]; simpa using c1
            have ht : (tk (l.drop a)).1 = 0 := by rw [hd]; exact c2
            have h2 := h.tok ha c1' (by omega) ht
            rw [hd] at h2
            obtain ⟨L', i1, i2⟩ := eats_cut f _ (Y.drop (tk Y).2.2) m' _ _ h2 (by rw [← hd, List.drop_drop, hd]) (by omega) hr (by rw [List.length_append]; simp only [List.length_singleton]; omega)
            refine ⟨L', by rw [show a + (k + 1) = a + (tk Y).2.2 + (k + 1 - (tk Y).2.2) by omega]; exact i1, ?_⟩
            rw [i2, List.length_append]
            simp only [List.length_singleton]
            omega
        · rw [if_neg c3] at he; cases he
      · rw [if_neg c2] at he; cases he
/-- a piece that is eaten whole, if these bytes follow -/
def Eat (X Y : List UInt8) (m : Nat) : Prop := ∃ f, eats f X.length (X ++ Y) = some m
theorem eat_cut {l X Y : List UInt8} {m : Nat} {L : List Tok} {a : Nat} (h : Eat X Y m) (hc : CutTo l L a) (hd : l.drop a = X ++ Y) (hm : L.length + m ≤ 200) : ∃ L', CutTo l L' (a + X.length) ∧ L'.length = L.length + m := by
  obtain ⟨f, hf⟩ := h
  have hl := congrArg List.length hd
  rw [List.length_drop, List.length_append] at hl
  rcases Nat.eq_zero_or_pos X.length with e | e
  · rw [e] at hf ⊢
    have e0 : m = 0 := by cases f <;> (simp [eats] at hf; exact hf.symm)
    exact ⟨L, hc, by omega⟩
  · exact eats_cut f _ _ m L a hc hd (by omega) hf hm
/-- pieces one behind the other -/
def Eats (X Y : List UInt8) (m : Nat) : Prop := ∀ (l : List UInt8) (L : List Tok) (a : Nat), CutTo l L a → l.drop a = X ++ Y → L.length + m ≤ 200 → ∃ L', CutTo l L' (a + X.length) ∧ L'.length ≤ L.length + m
theorem Eat.eats {X Y : List UInt8} {m n : Nat} (h : Eat X Y m) (hn : m ≤ n) : Eats X Y n := by
  intro l L a hc hd hm
  obtain ⟨L', i1, i2⟩ := eat_cut h hc hd (by omega)
  exact ⟨L', i1, by omega⟩
theorem Eats.append {X Z Y : List UInt8} {m n : Nat} (h1 : Eats X (Z ++ Y) m) (h2 : Eats Z Y n) : Eats (X ++ Z) Y (m + n) := by
  intro l L a hc hd hm
  obtain ⟨L1, i1, i2⟩ := h1 l L a hc (by rw [hd]; simp) (by omega)
  have hd2 : l.drop (a + X.length) = Z ++ Y := by rw [← List.drop_drop, hd, List.append_assoc, List.drop_left]
  obtain ⟨L2, j1, j2⟩ := h2 l L1 (a + X.length) i1 hd2 (by omega)
  exact ⟨L2, by rw [List.length_append, ← Nat.add_assoc]; exact j1, by omega⟩
theorem Eats.more {X Y : List UInt8} {m n : Nat} (h : Eats X Y m) (hn : m ≤ n) : Eats X Y n := by
  intro l L a hc hd hm
  obtain ⟨L', i1, i2⟩ := h l L a hc hd (by omega)
  exact ⟨L', i1, by omega⟩
def baseL : List (List UInt8) := [[47, 114], [47, 47, 97], [47, 47, 42], [47, 114, 47, 42], [47, 47, 64, 107], [47, 47, 116, 101, 120, 116, 40, 41]]
def stepL : List (List UInt8) := [[97], [98], [42], [64, 107], [64, 109], [46, 46], [116, 101, 120, 116, 40, 41], [110, 111, 100, 101, 40, 41], [100, 101, 115, 99, 101, 110, 100, 97, 110, 116, 58, 58, 97], [97, 110, 99, 101, 115, 116, 111, 114, 58, 58, 42], [102, 111, 108, 108, 111, 119, 105, 110, 103, 58, 58, 98], [112, 114, 101, 99, 101, 100, 105, 110, 103, 58, 58, 42], [102, 111, 108, 108, 111, 119, 105, 110, 103, 45, 115, 105, 98, 108, 105, 110, 103, 58, 58, 42], [112, 114, 101, 99, 101, 100, 105, 110, 103, 45, 115, 105, 98, 108, 105, 110, 103, 58, 58, 110, 111, 100, 101, 40, 41], [115, 101, 108, 102, 58, 58, 99], [100, 101, 115, 99, 101, 110, 100, 97, 110, 116, 45, 111, 114, 45, 115, 101, 108, 102, 58, 58, 110, 111, 100, 101, 40, 41], [99, 111, 109, 109, 101, 110, 116, 40, 41], [99]]
def q0L : List (List UInt8) := [[49], [47, 47, 97], [34, 120, 34], [116, 114, 117, 101, 40, 41], [40, 41]]
def opL : List (List UInt8) := [[32, 117, 110, 105, 111, 110, 32], [32, 105, 110, 116, 101, 114, 115, 101, 99, 116, 32], [32, 101, 120, 99, 101, 112, 116, 32]]
def sepL : List (List UInt8) := [[47], [47, 47]]
def badL : List (List UInt8) := [[35], [34, 97], [36], [36, 49], [57, 57, 57, 57, 57, 57, 57, 57, 57, 57, 57, 57, 57, 57], [97, 98, 99, 100, 101, 102, 103, 104, 105, 106, 107, 108, 109, 110, 111, 112, 113, 114, 115, 116, 117], [37]]
def badEL : List Int := [4, 5, 10, 10, 2, 10, 4]
theorem base_eat (c : UInt8) (R : List UInt8) (hc : c = 47 ∨ c = 41 ∨ c = 32) : ∀ i, i < 6 → ∃ m, m ≤ 6 ∧ Eat (baseL.getD i []) (c :: R) m := by
  intro i hi
  have h : i = 0 ∨ i = 1 ∨ i = 2 ∨ i = 3 ∨ i = 4 ∨ i = 5 := by omega
  rcases hc with rfl | rfl | rfl
  all_goals
    rcases h with rfl | rfl | rfl | rfl | rfl | rfl
  · exact ⟨2, by decide, 12, by kernel_rfl⟩
  · exact ⟨2, by decide, 12, by kernel_rfl⟩
  · exact ⟨2, by decide, 12, by kernel_rfl⟩
  · exact ⟨4, by decide, 12, by kernel_rfl⟩
  · exact ⟨3, by decide, 12, by kernel_rfl⟩
  · exact ⟨4, by decide, 12, by kernel_rfl⟩
  · exact ⟨2, by decide, 12, by kernel_rfl⟩
  · exact ⟨2, by decide, 12, by kernel_rfl⟩
  · exact ⟨2, by decide, 12, by kernel_rfl⟩
  · exact ⟨4, by decide, 12, by kernel_rfl⟩
  · exact ⟨3, by decide, 12, by kernel_rfl⟩
  · exact ⟨4, by decide, 12, by kernel_rfl⟩
  · exact ⟨2, by decide, 12, by kernel_rfl⟩
  · exact ⟨2, by decide, 12, by kernel_rfl⟩
  · exact ⟨2, by decide, 12, by kernel_rfl⟩
  · exact ⟨4, by decide, 12, by kernel_rfl⟩
  · exact ⟨3, by decide, 12, by kernel_rfl⟩
  · exact ⟨4, by decide, 12, by kernel_rfl⟩
theorem step_eat (c : UInt8) (R : List UInt8) (hc : c = 47 ∨ c = 41 ∨ c = 32) : ∀ i, i < 18 → ∃ m, m ≤ 6 ∧ Eat (stepL.getD i []) (c :: R) m := by
  intro i hi
  have h : i = 0 ∨ i = 1 ∨ i = 2 ∨ i = 3 ∨ i = 4 ∨ i = 5 ∨ i = 6 ∨ i = 7 ∨ i = 8 ∨ i = 9 ∨ i = 10 ∨ i = 11 ∨ i = 12 ∨ i = 13 ∨ i = 14 ∨ i = 15 ∨ i = 16 ∨ i = 17 := by omega
  rcases hc with rfl | rfl | rfl
  all_goals
    rcases h with rfl | rfl | rfl | rfl | rfl | rfl | rfl | rfl | rfl | rfl | rfl | rfl | rfl | rfl | rfl | rfl | rfl | rfl
  · exact ⟨1, by decide, 12, by kernel_rfl⟩
  · exact ⟨1, by decide, 12, by kernel_rfl⟩
  · exact ⟨1, by decide, 12, by kernel_rfl⟩
  · exact ⟨2, by decide, 12, by kernel_rfl⟩
  · exact ⟨2, by decide, 12, by kernel_rfl⟩
  · exact ⟨1, by decide, 12, by kernel_rfl⟩
  · exact ⟨3, by decide, 12, by kernel_rfl⟩
  · exact ⟨3, by decide, 12, by kernel_rfl⟩
  · exact ⟨3, by decide, 12, by kernel_rfl⟩
  · exact ⟨3, by decide, 12, by kernel_rfl⟩
  · exact ⟨3, by decide, 12, by kernel_rfl⟩
  · exact ⟨3, by decide, 12, by kernel_rfl⟩
  · exact ⟨3, by decide, 12, by kernel_rfl⟩
  · exact ⟨5, by decide, 12, by kernel_rfl⟩
  · exact ⟨3, by decide, 12, by kernel_rfl⟩
  · exact ⟨5, by decide, 12, by kernel_rfl⟩
  · exact ⟨3, by decide, 12, by kernel_rfl⟩
  · exact ⟨1, by decide, 12, by kernel_rfl⟩
  · exact ⟨1, by decide, 12, by kernel_rfl⟩
  · exact ⟨1, by decide, 12, by kernel_rfl⟩
  · exact ⟨1, by decide, 12, by kernel_rfl⟩
  · exact ⟨2, by decide, 12, by kernel_rfl⟩
  · exact ⟨2, by decide, 12, by kernel_rfl⟩
  · exact ⟨1, by decide, 12, by kernel_rfl⟩
  · exact ⟨3, by decide, 12, by kernel_rfl⟩
  · exact ⟨3, by decide, 12, by kernel_rfl⟩
  · exact ⟨3, by decide, 12, by kernel_rfl⟩
  · exact ⟨3, by decide, 12, by kernel_rfl⟩
  · exact ⟨3, by decide, 12, by kernel_rfl⟩
  · exact ⟨3, by decide, 12, by kernel_rfl⟩
  · exact ⟨3, by decide, 12, by kernel_rfl⟩
  · exact ⟨5, by decide, 12, by kernel_rfl⟩
  · exact ⟨3, by decide, 12, by kernel_rfl⟩
  · exact ⟨5, by decide, 12, by kernel_rfl⟩
  · exact ⟨3, by decide, 12, by kernel_rfl⟩
  · exact ⟨1, by decide, 12, by kernel_rfl⟩
  · exact ⟨1, by decide, 12, by kernel_rfl⟩
  · exact ⟨1, by decide, 12, by kernel_rfl⟩
  · exact ⟨1, by decide, 12, by kernel_rfl⟩
  · exact ⟨2, by decide, 12, by kernel_rfl⟩
  · exact ⟨2, by decide, 12, by kernel_rfl⟩
  · exact ⟨1, by decide, 12, by kernel_rfl⟩
  · exact ⟨3, by decide, 12, by kernel_rfl⟩
  · exact ⟨3, by decide, 12, by kernel_rfl⟩
  · exact ⟨3, by decide, 12, by kernel_rfl⟩
  · exact ⟨3, by decide, 12, by kernel_rfl⟩
  · exact ⟨3, by decide, 12, by kernel_rfl⟩
  · exact ⟨3, by decide, 12, by kernel_rfl⟩
  · exact ⟨3, by decide, 12, by kernel_rfl⟩
  · exact ⟨5, by decide, 12, by kernel_rfl⟩
  · exact ⟨3, by decide, 12, by kernel_rfl⟩
  · exact ⟨5, by decide, 12, by kernel_rfl⟩
  · exact ⟨3, by decide, 12, by kernel_rfl⟩
  · exact ⟨1, by decide, 12, by kernel_rfl⟩
theorem q0_eat (R : List UInt8) : ∀ i, i < 5 → ∃ m, m ≤ 6 ∧ Eat (q0L.getD i []) (93 :: R) m := by
  intro i hi
  have h : i = 0 ∨ i = 1 ∨ i = 2 ∨ i = 3 ∨ i = 4 := by omega
  rcases h with rfl | rfl | rfl | rfl | rfl
  · exact ⟨1, by decide, 12, by kernel_rfl⟩
  · exact ⟨2, by decide, 12, by kernel_rfl⟩
  · exact ⟨1, by decide, 12, by kernel_rfl⟩
  · exact ⟨3, by decide, 12, by kernel_rfl⟩
  · exact ⟨2, by decide, 12, by kernel_rfl⟩
theorem op_eat (R : List UInt8) : ∀ i, i < 3 → Eat (opL.getD i [] ++ [47, 47, 42, 41]) R 4 := by
  intro i hi
  have h : i = 0 ∨ i = 1 ∨ i = 2 := by omega
  rcases h with rfl | rfl | rfl
  · exact ⟨16, by kernel_rfl⟩
  · exact ⟨16, by kernel_rfl⟩
  · exact ⟨16, by kernel_rfl⟩
theorem open_eat (R : List UInt8) : Eat [40] R 1 := ⟨3, by kernel_rfl⟩
theorem mid_eat (R : List UInt8) : Eat [41, 91] R 2 := ⟨4, by kernel_rfl⟩
theorem shut_eat (R : List UInt8) : Eat [93] R 1 := ⟨3, by kernel_rfl⟩
theorem sep_eat (R : List UInt8) : ∀ j, j < 2 → ∀ i, i < 18 → ∀ Z, stepL.getD i [] ++ R = Z → Eat (sepL.getD j []) Z 1 := by
  intro j hj i hi Z hZ
  have h : i = 0 ∨ i = 1 ∨ i = 2 ∨ i = 3 ∨ i = 4 ∨ i = 5 ∨ i = 6 ∨ i = 7 ∨ i = 8 ∨ i = 9 ∨ i = 10 ∨ i = 11 ∨ i = 12 ∨ i = 13 ∨ i = 14 ∨ i = 15 ∨ i = 16 ∨ i = 17 := by omega
  have h2 : j = 0 ∨ j = 1 := by omega
  subst hZ
  rcases h2 with rfl | rfl
  all_goals
    rcases h with rfl | rfl | rfl | rfl | rfl | rfl | rfl | rfl | rfl | rfl | rfl | rfl | rfl | rfl | rfl | rfl | rfl | rfl
  all_goals exact ⟨3, by kernel_rfl⟩
theorem bad_tk : ∀ i : Fin 7, (tk (badL.getD i [])).1 = badEL.getD i 0 ∧ bk (bAt (badL.getD i []) 0) = false ∧ ¬ badEL.getD i 0 = 0 := by decide +kernel
/-- a path, behind which a slash, a parenthesis or a blank may stand -/
def OkP (X : List UInt8) (m : Nat) : Prop := ∀ c R, (c = 47 ∨ c = 41 ∨ c = 32) → Eats X (c :: R) m
theorem okP_base {i : Nat} (hi : i < 6) : OkP (baseL.getD i []) 6 := by
  intro c R hc
  obtain ⟨m, h1, h2⟩ := base_eat c R hc i hi
  exact h2.eats h1
theorem sep_first {j : Nat} (hj : j < 2) : ∃ S, sepL.getD j [] = 47 :: S := by
  have h2 : j = 0 ∨ j = 1 := by omega
  rcases h2 with rfl | rfl
  · exact ⟨[], rfl⟩
  · exact ⟨[47], rfl⟩
theorem OkP.step {X : List UInt8} {m i j : Nat} (h : OkP X m) (hj : j < 2) (hi : i < 18) : OkP (X ++ (sepL.getD j [] ++ stepL.getD i [])) (m + 7) := by
  intro c R hc
  obtain ⟨S, hS⟩ := sep_first hj
  obtain ⟨q, h1, h2⟩ := step_eat c R hc i hi
  have a2 : Eats (sepL.getD j [] ++ stepL.getD i []) (c :: R) (1 + 6) := Eats.append ((sep_eat (c :: R) j hj i hi _ rfl).eats (Nat.le_refl _)) (h2.eats h1)
  have a1 := h 47 (S ++ stepL.getD i [] ++ c :: R) (.inl rfl)
  refine Eats.append (n := 7) ?_ a2
  rw [hS]
  simpa using a1
theorem OkP.filter {X : List UInt8} {m i : Nat} (h : OkP X m) (hi : i < 5) : OkP ([40] ++ X ++ [41, 91] ++ q0L.getD i [] ++ [93]) (m + 10) := by
  intro c R hc
  obtain ⟨q, h1, h2⟩ := q0_eat (c :: R) i hi
  have b1 : Eats [93] (c :: R) 1 := (shut_eat _).eats (Nat.le_refl _)
  have b2 : Eats (q0L.getD i [] ++ [93]) (c :: R) (6 + 1) := Eats.append (h2.eats h1) b1
  have b3 : Eats ([41, 91] ++ (q0L.getD i [] ++ [93])) (c :: R) (2 + (6 + 1)) := Eats.append ((mid_eat _).eats (Nat.le_refl _)) b2
  have b4 : Eats (X ++ ([41, 91] ++ (q0L.getD i [] ++ [93]))) (c :: R) (m + (2 + (6 + 1))) := Eats.append (by have := h 41 (91 :: (q0L.getD i [] ++ [93]) ++ c :: R) (.inr (.inl rfl)); simpa using this) b3
  have b5 : Eats ([40] ++ (X ++ ([41, 91] ++ (q0L.getD i [] ++ [93])))) (c :: R) (1 + (m + (2 + (6 + 1)))) := Eats.append ((open_eat _).eats (Nat.le_refl _)) b4
  have e : [40] ++ X ++ [41, 91] ++ q0L.getD i [] ++ [93] = [40] ++ (X ++ ([41, 91] ++ (q0L.getD i [] ++ [93]))) := by simp
  rw [e]
  exact b5.more (by omega)
theorem op_first {i : Nat} (hi : i < 3) : ∃ S, opL.getD i [] = 32 :: S := by
  have h : i = 0 ∨ i = 1 ∨ i = 2 := by omega
  rcases h with rfl | rfl | rfl
  · exact ⟨_, rfl⟩
  · exact ⟨_, rfl⟩
  · exact ⟨_, rfl⟩
theorem OkP.oper {X : List UInt8} {m i : Nat} (h : OkP X m) (hi : i < 3) : OkP ([40] ++ X ++ opL.getD i [] ++ [47, 47, 42, 41]) (m + 5) := by
  intro c R hc
  obtain ⟨S, hS⟩ := op_first hi
  have b3 : Eats (opL.getD i [] ++ [47, 47, 42, 41]) (c :: R) 4 := (op_eat _ i hi).eats (Nat.le_refl _)
  have b4 : Eats (X ++ (opL.getD i [] ++ [47, 47, 42, 41])) (c :: R) (m + 4) := Eats.append (by rw [hS]; have := h 32 (S ++ [47, 47, 42, 41] ++ c :: R) (.inr (.inr rfl)); simpa using this) b3
  have b5 : Eats ([40] ++ (X ++ (opL.getD i [] ++ [47, 47, 42, 41]))) (c :: R) (1 + (m + 4)) := Eats.append ((open_eat _).eats (Nat.le_refl _)) b4
  have e : [40] ++ X ++ opL.getD i [] ++ [47, 47, 42, 41] = [40] ++ (X ++ (opL.getD i [] ++ [47, 47, 42, 41])) := by simp
  rw [e]
  exact b5.more (by omega)
/-- behind a path what is no token is told, with its place -/
theorem bad_cut {X : List UInt8} {m i : Nat} (h : OkP X m) (hm : m ≤ 150) (hx : X.length ≤ 900) (hi : i < 7) : cutP (X ++ [32] ++ badL.getD i []) = X.length + 1 ∧ cutE (X ++ [32] ++ badL.getD i []) = badEL.getD i 0 := by
  obtain ⟨t1, t2, t3⟩ := bad_tk ⟨i, hi⟩
  simp only at t1 t2 t3
  obtain ⟨B, hB⟩ : ∃ B, B = badL.getD i [] := ⟨_, rfl⟩
  rw [← hB] at t1 t2 ⊢
  have hBl : 0 < B.length ∧ B.length ≤ 30 := by
    have : ∀ i : Fin 7, 0 < (badL.getD i []).length ∧ (badL.getD i []).length ≤ 30 := by decide
    rw [hB]; exact this ⟨i, hi⟩
  obtain ⟨l, hl⟩ : ∃ l, l = X ++ [32] ++ B := ⟨_, rfl⟩
  rw [← hl]
  have hlen : l.length = X.length + 1 + B.length := by rw [hl]; simp; omega
  obtain ⟨L', i1, i2⟩ := h 32 B (.inr (.inr rfl)) l [] 0 (CutTo.zero l) (by rw [List.drop_zero, hl]; simp) (by simp only [List.length_nil]; omega)
  rw [Nat.zero_add] at i1
  have hd1 : l.drop X.length = 32 :: B := by rw [hl, List.append_assoc, List.drop_left]; rfl
  have i3 := i1.blanks (k := 1) (by rw [hd1]; unfold bl; rw [if_pos (by decide)]; omega)
  have hd2 : l.drop (X.length + 1) = B := by rw [← List.drop_drop, hd1]; rfl
  have hb : bk (bAt l (X.length + 1)) = false := by rw [show X.length + 1 = X.length + 1 + 0 from rfl, ← bAt_drop, hd2]; exact t2
  have := i3.err (by omega) (by omega) hb (by simp only [List.length_nil] at i2; omega) (by rw [hd2, t1]; exact t3)
  exact ⟨this.2.1, by rw [this.2.2, hd2, t1]⟩
end Go.Proofs.YtbpggpnmbfjadaaDoor
