/-
  EVENTS, PLAINLY, as the document's answer looks at them: where elements that are open start; what is not good of a comment.
-/
import Derived.Test.YtoifdcipialciaaDoorEv
import Derived.WalkSmall
namespace Go.Proofs.YtoifdcipialciaaDoor
open Go.RowKit

/-- where the elements that are open start, behind k events -/
def opens (E : Nat → Ev) : Nat → List Nat
  | 0 => []
  | k + 1 => if (E k).kind = 1 then opens E k ++ [k] else if (E k).kind = 5 then (opens E k).dropLast else opens E k
theorem opens_d (E : Nat → Ev) : ∀ k, (opens E k).length = (stAt E k).d
  | 0 => rfl
  | k + 1 => by
    have ih := opens_d E k
    show (opens E (k + 1)).length = (nextS (stAt E k) (E k)).d
    simp only [opens, nextS]
    split
    · simp [ih]
    · split
      · simp [ih]
      · exact ih
/-- where a tag is open, its start is the last one, and behind it there are attributes alone -/
theorem opens_tag {E : Nat → Ev} : ∀ {k : Nat}, okTo E k → 0 < k → inTagB (E (k - 1)).kind = true → ∃ p l, opens E k = l ++ [p] ∧ p < k ∧ (E p).kind = 1 ∧ ∀ j, p < j → j < k → (E j).kind = 2
  | k + 1, h, _, ht => by
    rw [show k + 1 - 1 = k from rfl] at ht
    have h2 : (E k).kind = 1 ∨ (E k).kind = 2 := of_decide_eq_true ht
    rcases h2 with h2 | h2
    · refine ⟨k, opens E k, ?_, by omega, h2, fun j h1 h2 => by omega⟩
      simp [opens, h2]
    · have hr := err_rest (h k (by omega))
      rw [if_neg (by omega), if_pos h2] at hr
      have ti := tag_inv (k := k) (fun j hj => h j (by omega))
      cases hg : (stAt E k).tag with
      | none => rw [hg] at hr; simp at hr
      | some ns =>
        rw [hg] at ti
        obtain ⟨p, l, h3, h4, h5, h6⟩ := opens_tag (k := k) (fun j hj => h j (by omega)) ti.1 ti.2.1
        refine ⟨p, l, ?_, by omega, h5, fun j h7 h8 => ?_⟩
        · simp [opens, h2, h3]
        · by_cases e : j = k
          · subst e; exact h2
          · exact h6 j h7 (by omega)
theorem twice_yes {E : Nat → Ev} {nm : ByteArray} {p j : Nat} (hj : p < j) (hn : ((E j).name.toList == nm.toList) = true) : ∀ {k : Nat}, j < k → (∀ i, p < i → i < k → (E i).kind = 2) → twice E nm k = true
  | k + 1, hk, ha => by
    have h2 := ha k (by omega) (by omega)
    rw [twice, if_pos h2]
    by_cases e : j = k
    · subst e; rw [hn, Bool.true_or]
    · rw [twice_yes hj hn (k := k) (by omega) (fun i h3 h4 => ha i h3 (by omega)), Bool.or_true]
theorem twice_none {E : Nat → Ev} {nm : ByteArray} {p : Nat} (hp : (E p).kind = 1) : ∀ {k : Nat}, p < k → (∀ i, p < i → i < k → (E i).kind = 2) → (∀ i, p < i → i < k → ((E i).name.toList == nm.toList) = false) → twice E nm k = false
  | k + 1, hk, ha, hn => by
    by_cases e : p = k
    · subst e; simp [twice, hp]
    · have h2 := ha k (by omega) (by omega)
      rw [twice, if_pos h2, hn k (by omega) (by omega), twice_none hp (k := k) (by omega) (fun i h3 h4 => ha i h3 (by omega)) (fun i h3 h4 => hn i h3 (by omega))]
      rfl

/-- is the byte at a place a - that may not be? -/
def dashAt (v : ByteArray) (k : Nat) : Bool := decide (byteAt v k = 45 ∧ (k + 1 = v.size ∨ byteAt v (k + 1) = 45))
theorem byteAt_dash {v : ByteArray} {k : Nat} (h : byteAt v k = 45) : v.data.toList[k]? = some 45 := by
  unfold byteAt at h
  by_cases hk : k < v.data.toList.length
  · rw [List.getD_eq_getElem?_getD, List.getElem?_eq_getElem hk, Option.getD_some] at h
    rw [List.getElem?_eq_getElem hk]
    congr 1
    apply UInt8.toNat_inj.1
    have h45 : UInt8.toNat 45 = 45 := rfl
    have : (v.data.toList[k].toNat : Int) = 45 := h
    omega
  · rw [List.getD_eq_getElem?_getD, List.getElem?_eq_none (by omega)] at h
    exact absurd h (by decide)
theorem dash_byteAt {v : ByteArray} {k : Nat} (h : v.data.toList[k]? = some 45) : byteAt v k = 45 := by
  unfold byteAt
  rw [List.getD_eq_getElem?_getD, h]
  rfl
theorem contains_iff (l : List UInt8) : Lib.contains l [45, 45] = true ↔ ∃ k : Nat, l[k]? = some 45 ∧ l[k + 1]? = some 45 := by
  unfold Lib.contains
  rw [decide_eq_true_eq]
  induction l with
  | nil => simp [Lib.index]
  | cons c l ih =>
    have hge := Lib.index_ge l [45, 45]
    unfold Lib.index
    by_cases h : List.isPrefixOf [45, 45] (c :: l) = true
    · rw [if_pos h]
      simp only [Int.le_refl, true_iff]
      cases l with
      | nil => simp [List.isPrefixOf] at h
      | cons d l =>
        simp [List.isPrefixOf] at h
        exact ⟨0, by simp [h.1], by simp [h.2]⟩
    · rw [if_neg h]
      by_cases h2 : (Lib.index l [45, 45] == -1) = true
      · rw [if_pos h2]
        have h3 : Lib.index l [45, 45] = -1 := by simpa using h2
        rw [h3] at ih
        constructor
        · intro hh; exact absurd hh (by decide)
        · rintro ⟨k, hk1, hk2⟩
          cases k with
          | zero =>
            exfalso; apply h
            cases l with
            | nil => simp at hk2
            | cons d l => simp at hk1 hk2; simp [List.isPrefixOf, hk1, hk2]
          | succ k => exact absurd (ih.2 ⟨k, by simpa using hk1, by simpa using hk2⟩) (by decide)
      · rw [if_neg h2]
        have h3 : ¬ Lib.index l [45, 45] = -1 := by simpa using h2
        have h4 : 0 ≤ Lib.index l [45, 45] := by omega
        constructor
        · intro _
          obtain ⟨k, hk1, hk2⟩ := ih.1 h4
          exact ⟨k + 1, by simpa using hk1, by simpa using hk2⟩
        · intro _; omega
theorem suffix_iff (l : List UInt8) : Lib.hasSuffix l [45] = true ↔ l[l.length - 1]? = some 45 := by
  unfold Lib.hasSuffix
  rw [List.isSuffixOf_iff_suffix]
  constructor
  · rintro ⟨t, rfl⟩
    simp
  · intro h
    rcases List.eq_nil_or_concat l with rfl | ⟨t, a, rfl⟩
    · simp at h
    · simp at h
      exact ⟨t, by simp [h]⟩
theorem comm_yes {v : ByteArray} {k : Nat} (h : dashAt v k = true) : commB v = true := by
  obtain ⟨h1, h2⟩ := of_decide_eq_true h
  unfold commB
  rw [Bool.or_eq_true]
  rcases h2 with h2 | h2
  · right
    rw [suffix_iff]
    have e : v.data.toList.length = v.size := rfl
    rw [e, ← h2]
    exact byteAt_dash h1
  · left
    rw [contains_iff]
    exact ⟨k, byteAt_dash h1, byteAt_dash h2⟩
theorem comm_no {v : ByteArray} (h : ∀ k, k < v.size → dashAt v k = false) : commB v = false := by
  cases hc : commB v with
  | false => rfl
  | true =>
    unfold commB at hc
    rw [Bool.or_eq_true] at hc
    have e : v.data.toList.length = v.size := rfl
    rcases hc with hc | hc
    · rw [contains_iff] at hc
      obtain ⟨k, h1, h2⟩ := hc
      have hk : k < v.size := by
        have := (List.getElem?_eq_some_iff.1 h1).1
        omega
      have := of_decide_eq_false (h k hk)
      exact absurd ⟨dash_byteAt h1, .inr (dash_byteAt h2)⟩ this
    · rw [suffix_iff] at hc
      have hl := (List.getElem?_eq_some_iff.1 hc).1
      have hk : v.size - 1 < v.size := by omega
      have := of_decide_eq_false (h (v.size - 1) hk)
      exact absurd ⟨dash_byteAt hc, .inl (by omega)⟩ this

/-- the places of a list lie in a row of the call's own -/
def OpenIs (w : World) (base : Nat) (v : Value) (l : List Nat) : Prop := w.ownsRow base 3 1 v l.length (l.map fun p : Nat => Value.int .i64 (p : Int))
theorem ownsRow_below {w w' : World} {base : Nat} {e : TypeId} {size : Nat} {v : Value} {n : Nat} {xs : List Value} (h : w.ownsRow base e size v n xs) (hb : Below w.heap.size w w') : w'.ownsRow base e size v n xs := by
  refine ⟨h.1, ?_⟩
  rcases h.2 with h1 | ⟨g, cap, cur, h1, h2, h3, h4⟩
  · exact .inl h1
  · refine .inr ⟨g, cap, cur, h1, h2, ?_, h4⟩
    rw [hb.block g (Array.getElem?_eq_some_iff.1 h3).1]
    exact h3
theorem OpenIs.below {w w' : World} {base : Nat} {v : Value} {l : List Nat} (h : OpenIs w base v l) (hb : Below w.heap.size w w') : OpenIs w' base v l := ownsRow_below h hb
theorem OpenIs.pop {w : World} {base : Nat} {v : Value} {l : List Nat} (h : OpenIs w base v l) (hl : 0 < l.length) : ∃ g cap, v = .slice (some ⟨g, 0, none⟩) l.length cap ∧ base ≤ g ∧ g < w.heap.size ∧ l.length ≤ cap ∧ cap ≤ maxLen ∧
    (∀ (p : Nat) (r : List Nat), l = r ++ [p] → w.cell? ⟨g, l.length - 1, none⟩ = some (.int .i64 p)) ∧ OpenIs w base (.slice (some ⟨g, 0, none⟩) (l.length - 1) cap) l.dropLast := by
  obtain ⟨h1, h2 | ⟨g, cap, cur, rfl, h2, h3, h4, h5, h6, h7⟩⟩ := h
  · omega
  · refine ⟨g, cap, rfl, h2, (Array.getElem?_eq_some_iff.1 h3).1, h4, h5, ?_, ?_⟩
    · rintro p r rfl
      have h8 : w.ownsRow base 3 1 (.slice (some ⟨g, 0, none⟩) (r ++ [p]).length cap) (r ++ [p]).length ((r ++ [p]).map fun p : Nat => Value.int .i64 (p : Int)) := ⟨h1, .inr ⟨g, cap, cur, rfl, h2, h3, h4, h5, h6, h7⟩⟩
      rw [h8.cellAt _ (by simp)]
      simp
    · refine ⟨by simp, .inr ⟨g, cap, cur, by simp, h2, h3, by simp; omega, h5, h6, ?_⟩⟩
      rw [List.map_dropLast, ← h7]
      simp only [Nat.mul_one, List.length_dropLast]
      have hL : (cur.toList.take l.length).length = l.length := by simp; omega
      rw [List.dropLast_eq_take, hL, List.take_take, Nat.min_eq_left (by omega)]
end Go.Proofs.YtoifdcipialciaaDoor
