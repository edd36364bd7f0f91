/-
  PLAIN FACTS: rows that are paired; two lists, one behind the other.
-/
import Derived.Test.YtmoeipdchapodaaGreatDoorRlKept
set_option linter.unusedVariables false
namespace Go.Proofs.YtmoeipdchapodaaGreatDoor
set_option maxRecDepth 100000
open Go.RowKit Go.WideShapes

/-- the rows that are made of the first k rows, each with its partners -/
def pairL (pn : Nat → Nat) (PR : Nat → Nat → Row) (R : Nat → Row) : Nat → List Row
  | 0 => []
  | k + 1 => pairL pn PR R k ++ (List.range (pn k)).map (fun i => appI (R k) (PR k i))
/-- how many they are -/
def pairN (pn : Nat → Nat) : Nat → Nat
  | 0 => 0
  | k + 1 => pairN pn k + pn k
def pairR (pn : Nat → Nat) (PR : Nat → Nat → Row) (R : Nat → Row) (m j : Nat) : Row := (pairL pn PR R m).getD j ⟨0, fun _ => ⟨0, 0, ⟨#[]⟩⟩⟩
theorem pairL_len (pn : Nat → Nat) (PR : Nat → Nat → Row) (R : Nat → Row) (k : Nat) : (pairL pn PR R k).length = pairN pn k := by
  induction k with
  | zero => rfl
  | succ k ih => simp [pairL, pairN, ih]
theorem pairL_pre (pn : Nat → Nat) (PR : Nat → Nat → Row) (R : Nat → Row) (k d : Nat) : ∃ r, pairL pn PR R (k + d) = pairL pn PR R k ++ r := by
  induction d with
  | zero => exact ⟨[], by simp⟩
  | succ d ih =>
    obtain ⟨r, hr⟩ := ih
    exact ⟨r ++ (List.range (pn (k + d))).map (fun i => appI (R (k + d)) (PR (k + d) i)), by rw [← Nat.add_assoc]; show pairL pn PR R (k + d) ++ _ = _; rw [hr, List.append_assoc]⟩
theorem pairR_at {pn : Nat → Nat} {PR : Nat → Nat → Row} {R : Nat → Row} {k m i : Nat} (hk : k < m) (hi : i < pn k) : pairR pn PR R m (pairN pn k + i) = appI (R k) (PR k i) := by
  obtain ⟨r, hr⟩ := pairL_pre pn PR R (k + 1) (m - (k + 1))
  rw [show k + 1 + (m - (k + 1)) = m by omega] at hr
  unfold pairR
  rw [hr, List.getD_eq_getElem?_getD, List.getElem?_append_left (by rw [pairL_len]; show pairN pn k + i < pairN pn k + pn k; omega)]
  show ((pairL pn PR R k ++ (List.range (pn k)).map (fun i => appI (R k) (PR k i)))[pairN pn k + i]?).getD _ = _
  rw [List.getElem?_append_right (by rw [pairL_len]; omega), pairL_len, show pairN pn k + i - pairN pn k = i by omega]
  simp [hi]
theorem pairN_le {pn : Nat → Nat} {b : Nat} (h : ∀ k, pn k ≤ b) (k : Nat) : pairN pn k ≤ k * b := by
  induction k with
  | zero => simp [pairN]
  | succ k ih =>
    have := h k
    show pairN pn k + pn k ≤ _
    rw [Nat.succ_mul]
    omega
theorem pairN_mono (pn : Nat → Nat) {k m : Nat} (h : k ≤ m) : pairN pn k ≤ pairN pn m := by
  induction m with
  | zero => obtain rfl : k = 0 := by omega
            exact Nat.le_refl _
  | succ m ih =>
    by_cases e : k = m + 1
    · rw [e]; exact Nat.le_refl _
    · exact Nat.le_trans (ih (by omega)) (Nat.le_add_right _ _)
theorem pairN_lt (pn : Nat → Nat) {k m i : Nat} (hk : k < m) (hi : i < pn k) : pairN pn k + i < pairN pn m := by
  have : pairN pn (k + 1) ≤ pairN pn m := pairN_mono pn hk
  have e : pairN pn (k + 1) = pairN pn k + pn k := rfl
  omega
theorem appI_nil (x : Nat → It) (a : Row) : appI ⟨0, x⟩ a = a := by
  obtain ⟨l, at_⟩ := a
  show (⟨0 + l, fun i => if i < 0 then x i else at_ (i - 0)⟩ : Row) = ⟨l, at_⟩
  rw [Nat.zero_add]
  congr 1
theorem appS_nil (x : Nat → ByteArray) (a : Txts) : appS ⟨0, x⟩ a = a := by
  obtain ⟨l, at_⟩ := a
  show (⟨0 + l, fun i => if i < 0 then x i else at_ (i - 0)⟩ : Txts) = ⟨l, at_⟩
  rw [Nat.zero_add]
  congr 1
theorem catI_two (A B : Row) : catI (fun i => if i = 0 then A else B) 2 = appI A B := by
  show appI (appI ⟨0, _⟩ A) B = _
  rw [appI_nil]
theorem catS_two (A B : Txts) : catS (fun i => if i = 0 then A else B) 2 = appS A B := by
  show appS (appS ⟨0, _⟩ A) B = _
  rw [appS_nil]
theorem two_at {w : World} {b off : Nat} {u v : Value} (h : w.cell? ⟨b, off, none⟩ = some u) (h' : w.cell? ⟨b, off + 1, none⟩ = some v) : ∀ i, i < 2 → w.cell? ⟨b, off + i, none⟩ = some (if i = 0 then u else v) := by
  intro i hi
  obtain rfl | rfl : i = 0 ∨ i = 1 := by omega
  · exact h
  · exact h'
theorem seqsI_two {w : World} {b off : Nat} {u v : Value} {A B : Row} (h : w.cell? ⟨b, off, none⟩ = some u) (h' : w.cell? ⟨b, off + 1, none⟩ = some v) (hu : ItsIs w u A.len A.at_) (hv : ItsIs w v B.len B.at_) : SeqsI w b off 2 (fun i => if i = 0 then A else B) := by
  intro i hi
  refine ⟨_, two_at h h' i hi, ?_⟩
  obtain rfl | rfl : i = 0 ∨ i = 1 := by omega
  · exact hu
  · exact hv
theorem seqsS_two {w : World} {b off : Nat} {u v : Value} {A B : Txts} (h : w.cell? ⟨b, off, none⟩ = some u) (h' : w.cell? ⟨b, off + 1, none⟩ = some v) (hu : StrsIs w u A.len A.at_) (hv : StrsIs w v B.len B.at_) : SeqsS w b off 2 (fun i => if i = 0 then A else B) := by
  intro i hi
  refine ⟨_, two_at h h' i hi, ?_⟩
  obtain rfl | rfl : i = 0 ∨ i = 1 := by omega
  · exact hu
  · exact hv
theorem concatI_two (b off cap : Nat) (u v : Value) (A B : Row) (w : World) (h1 : 2 ≤ cap) (hc : cap ≤ maxLen) (hb : b < w.heap.size) (h : w.cell? ⟨b, off, none⟩ = some u) (h' : w.cell? ⟨b, off + 1, none⟩ = some v) (hu : ItsIs w u A.len A.at_) (hv : ItsIs w v B.len B.at_) (hn : (appI A B).len * 32 ≤ 140737488351232) :
    Calls Tryz.prog 121 #[.slice (some ⟨b, off, none⟩) 2 cap] w fun e w' => ∃ v, e = .returned v ∧ ItsApart w' w.heap.size none v (appI A B).len (appI A B).at_ ∧ (∃ a' c', v = .slice a' (appI A B).len c') ∧ Below w.heap.size w w' := by
  refine (concatI_some b off 2 cap (fun i => if i = 0 then A else B) w h1 hc hb (seqsI_two h h' hu hv) (by rw [catI_two]; exact hn)).mono ?_
  rintro e w' ⟨v, rfl, hv, hbel⟩
  rw [catI_two] at hv
  exact ⟨v, rfl, its_new hv (fun k hk => nomatch hk), own_shape hv, hbel⟩
theorem concatS_two (b off cap : Nat) (u v : Value) (A B : Txts) (w : World) (h1 : 2 ≤ cap) (hc : cap ≤ maxLen) (hb : b < w.heap.size) (h : w.cell? ⟨b, off, none⟩ = some u) (h' : w.cell? ⟨b, off + 1, none⟩ = some v) (hu : StrsIs w u A.len A.at_) (hv : StrsIs w v B.len B.at_) (hn : (appS A B).len * 16 ≤ 140737488351232) :
    Calls Tryz.prog 111 #[.slice (some ⟨b, off, none⟩) 2 cap] w fun e w' => ∃ v, e = .returned v ∧ StrsFrom w' w.heap.size v (appS A B).len (appS A B).at_ ∧ (∃ a' c', v = .slice a' (appS A B).len c') ∧ Below w.heap.size w w' := by
  refine (concatS_some b off 2 cap (fun i => if i = 0 then A else B) w h1 hc hb (seqsS_two h h' hu hv) (by rw [catS_two]; exact hn)).mono ?_
  rintro e w' ⟨v, rfl, hv, hbel⟩
  rw [catS_two] at hv
  exact ⟨v, rfl, strs_from hv, own_shape hv, hbel⟩
end Go.Proofs.YtmoeipdchapodaaGreatDoor
