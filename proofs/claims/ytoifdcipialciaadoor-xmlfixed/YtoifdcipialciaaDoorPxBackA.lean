/-
  WHAT IS SHOWN IS PARSED (plainly): the parser's scanners at a text whose next piece is known.
-/
import Derived.Test.YtoifdcipialciaaDoorPxParse
import Derived.Test.YtoifdcipialciaaDoorShowPlain
set_option linter.unusedVariables false
namespace Go.Proofs.YtoifdcipialciaaDoor
set_option maxRecDepth 100000
open Go.RowKit

def tx (T : List UInt8) : ByteArray := ⟨T.toArray⟩
theorem tx_size (T : List UInt8) : (tx T).size = T.length := rfl
theorem tx_list (T : List UInt8) : (tx T).data.toList = T := rfl
theorem tx_rest (T : List UInt8) (p : Nat) : ((tx T).extract p (tx T).size).data.toList = T.drop p := by
  rw [Lib.extract_data, tx_list, tx_size, List.take_of_length_le (by simp)]
theorem hit_at (A R t : List UInt8) : hitB (tx (A ++ R)) A.length ⟨t.toArray⟩ = t.isPrefixOf R := by
  unfold hitB Lib.hasPrefix
  rw [tx_rest, List.drop_left]
theorem byteU_at (A R : List UInt8) (c : UInt8) : byteU (tx (A ++ c :: R)) A.length = c := by
  unfold byteU
  rw [tx_list, List.getD_eq_getElem?_getD, List.getElem?_append_right (Nat.le_refl _)]
  simp
theorem byte_at (A R : List UInt8) (c : UInt8) : byteAt (tx (A ++ c :: R)) A.length = (c.toNat : Int) := by
  have := byteU_at A R c
  unfold byteU at this
  unfold byteAt
  rw [this]
theorem hit_one (A R : List UInt8) (c d : UInt8) : hitB (tx (A ++ d :: R)) A.length ⟨#[c]⟩ = (c == d) := by
  have h := hit_at A (d :: R) [c]
  rw [show (⟨#[c]⟩ : ByteArray) = ⟨[c].toArray⟩ from rfl, h]
  simp [List.isPrefixOf]
theorem hit_nil (A : List UInt8) (c : UInt8) : hitB (tx A) A.length ⟨#[c]⟩ = false := by
  have h := hit_at A [] [c]
  rw [List.append_nil] at h
  rw [show (⟨#[c]⟩ : ByteArray) = ⟨[c].toArray⟩ from rfl, h]
  rfl
/-- a text that is expected and stands there -/
theorem exF_at (t : List UInt8) : ∀ (k : Nat) (i : Nat) (A Y : List UInt8), i + k = t.length → exF (tx (A ++ t.drop i ++ Y)) ⟨t.toArray⟩ i A.length k = (A.length + k, true)
  | 0, i, A, Y, h => by rw [exF]; rfl
  | k + 1, i, A, Y, h => by
    have hi : i < t.length := by omega
    have ed : t.drop i = t[i] :: t.drop (i + 1) := List.drop_eq_getElem_cons hi
    have e1 : one1 ⟨t.toArray⟩ i = ⟨#[t[i]]⟩ := by
      unfold one1
      have h1 : ((⟨t.toArray⟩ : ByteArray).extract i (i + 1)).data.toList = [t[i]] := by
        rw [Lib.extract_data]
        show ((t.toArray).toList.drop i).take (i + 1 - i) = [t[i]]
        rw [List.toList_toArray, ed, show i + 1 - i = 1 by omega]
        rfl
      cases hh : (⟨t.toArray⟩ : ByteArray).extract i (i + 1) with
      | mk d =>
        rw [hh] at h1
        congr
        exact Array.toList_inj.1 (by rw [h1])
    have eT : A ++ t.drop i ++ Y = A ++ t[i] :: (t.drop (i + 1) ++ Y) := by rw [ed, List.append_assoc, List.cons_append]
    have ih := exF_at t k (i + 1) (A ++ [t[i]]) Y (by omega)
    rw [show A ++ [t[i]] ++ t.drop (i + 1) ++ Y = A ++ t.drop i ++ Y by rw [ed, List.append_assoc, List.append_assoc, List.append_assoc]; rfl, show (A ++ [t[i]]).length = A.length + 1 by simp] at ih
    rw [exF, e1]
    rw [if_pos (by rw [eT, hit_one]; simp), ih]
    congr 1
    omega
theorem ex_at (t A Y : List UInt8) : exTo (tx (A ++ t ++ Y)) A.length ⟨t.toArray⟩ = A.length + t.length ∧ exE (tx (A ++ t ++ Y)) A.length ⟨t.toArray⟩ = 0 := by
  have h := exF_at t t.length 0 A Y (by omega)
  rw [List.drop_zero] at h
  have hz : (⟨t.toArray⟩ : ByteArray).size = t.length := rfl
  unfold exE exTo
  rw [hz, h]
  exact ⟨rfl, rfl⟩
/-- names -/
theorem nmF_at (f : Nat) : ∀ (X A Y : List UInt8) (k : Nat), (∀ i (hi : i < X.length), nb (X[i].toNat : Int) (((A.length + i : Nat) : Int) == (f : Int)) = true) →
    (∀ y Y', Y = y :: Y' → nb (y.toNat : Int) (((A.length + X.length : Nat) : Int) == (f : Int)) = false) → k = X.length + Y.length → nmF (tx (A ++ X ++ Y)) f A.length k = A.length + X.length
  | [], A, Y, k, hX, hY, hk => by
    rw [List.append_nil]
    cases Y with
    | nil => subst hk; rfl
    | cons y Y' =>
      simp only [List.length_nil, Nat.zero_add, List.length_cons, Nat.add_zero] at hk hY
      subst hk
      rw [nmF, if_neg]
      · rfl
      · unfold nmB
        rw [byte_at, hY y Y' rfl]
        decide
  | x :: X, A, Y, k, hX, hY, hk => by
    obtain ⟨k', rfl⟩ : ∃ k', k = k' + 1 := ⟨k - 1, by simp at hk; omega⟩
    have ih := nmF_at f X (A ++ [x]) Y k' (fun i hi => by
      have := hX (i + 1) (by simp; omega)
      rw [show (A ++ [x]).length + i = A.length + (i + 1) by simp; omega]
      exact this) (fun y Y' e => by
      have := hY y Y' e
      rw [show (A ++ [x]).length + X.length = A.length + (x :: X).length by simp; omega]
      exact this) (by simp at hk; omega)
    rw [show A ++ [x] ++ X ++ Y = A ++ (x :: X) ++ Y by simp, show (A ++ [x]).length = A.length + 1 by simp] at ih
    rw [nmF, if_pos]
    · rw [ih]; simp; omega
    · unfold nmB
      rw [show A ++ (x :: X) ++ Y = A ++ x :: (X ++ Y) by simp, byte_at]
      exact hX 0 (by simp)
/-- a name that may be -/
def NameL (X : List UInt8) : Prop := X ≠ [] ∧ ∀ i (hi : i < X.length), nb (X[i].toNat : Int) ((i : Int) == 0) = true
theorem nm_at {X : List UInt8} (hX : NameL X) (A Y : List UInt8) (hY : ∀ y Y', Y = y :: Y' → nb (y.toNat : Int) false = false) :
    nmTo (tx (A ++ X ++ Y)) A.length = A.length + X.length ∧ nmE (tx (A ++ X ++ Y)) A.length = 0 ∧ nmS (tx (A ++ X ++ Y)) A.length = tx X := by
  have hl : 0 < X.length := List.length_pos_iff.2 hX.1
  have h : nmTo (tx (A ++ X ++ Y)) A.length = A.length + X.length := by
    unfold nmTo
    refine nmF_at A.length X A Y _ (fun i hi => ?_) (fun y Y' e => ?_) (by rw [tx_size, List.length_append, List.length_append]; omega)
    · have := hX.2 i hi
      rw [show ((((A.length + i : Nat) : Int)) == (A.length : Int)) = ((i : Int) == 0) by
        rw [Bool.eq_iff_iff, beq_iff_eq, beq_iff_eq]; omega]
      exact this
    · rw [show ((((A.length + X.length : Nat) : Int)) == (A.length : Int)) = false by rw [beq_eq_false_iff_ne]; omega]
      exact hY y Y' e
  refine ⟨h, ?_, ?_⟩
  · unfold nmE; rw [if_neg (by omega)]
  · unfold nmS
    rw [if_neg (by omega), h]
    have h1 : ((tx (A ++ X ++ Y)).extract A.length (A.length + X.length)).data.toList = X := by
      rw [Lib.extract_data, tx_list, List.append_assoc, List.drop_left, show A.length + X.length - A.length = X.length by omega, List.take_left]
    cases hh : (tx (A ++ X ++ Y)).extract A.length (A.length + X.length) with
    | mk d =>
      rw [hh] at h1
      unfold tx
      congr
      exact Array.toList_inj.1 (by rw [h1])
/-- blanks -/
def isBl (c : UInt8) : Bool := c == 32 || (c == 10 || c == 9)
theorem blB_at (A R : List UInt8) (c : UInt8) : blB (tx (A ++ c :: R)) A.length = isBl c := by
  unfold blB isBl
  rw [hit_one, hit_one, hit_one, Bool.beq_comm (a := 32), Bool.beq_comm (a := 10), Bool.beq_comm (a := 9)]
theorem bl_none (A R : List UInt8) (c : UInt8) (h : isBl c = false) : blTo (tx (A ++ c :: R)) A.length = A.length := blTo_stop (by rw [blB_at, h])
theorem bl_one (A R : List UInt8) (c : UInt8) (h : isBl c = false) : blTo (tx (A ++ 32 :: c :: R)) A.length = A.length + 1 := by
  rw [blTo_step (by rw [tx_size]; simp) (by rw [blB_at]; rfl)]
  have := bl_none (A ++ [32]) R c h
  rw [show A ++ [32] ++ c :: R = A ++ 32 :: c :: R by simp, show (A ++ [(32 : UInt8)]).length = A.length + 1 by simp] at this
  exact this
end Go.Proofs.YtoifdcipialciaaDoor
