/-
  WHAT IS SHOWN IS PARSED (plainly): a document's text, event by event.
-/
import Derived.Test.YtoifdcipialciaaDoorPxBackB
set_option linter.unusedVariables false
namespace Go.Proofs.YtoifdcipialciaaDoor
set_option maxRecDepth 100000
open Go.RowKit

/-- what is left of the text, from an event on -/
def tailR (E : Nat → Ev) : Nat → Nat → List UInt8
  | _, 0 => []
  | k, m + 1 => gt E k ++ body E k ++ tailR E (k + 1) m
theorem showR_tail (E : Nat → Ev) : ∀ m k, showR E (k + m) = showR E k ++ tailR E k m
  | 0, k => by simp [tailR]
  | m + 1, k => by
    have := showR_tail E m (k + 1)
    rw [show k + (m + 1) = k + 1 + m by omega, this]
    simp [showR, tailR]
/-- the same behind the end of a tag -/
def restC (E : Nat → Ev) (k : Nat) : Nat → List UInt8
  | 0 => []
  | m + 1 => body E k ++ tailR E (k + 1) m
def Ls (E : Nat → Ev) (k : Nat) : List Ev := (List.range k).map E
theorem Ls_succ (E : Nat → Ev) (k : Nat) : Ls E (k + 1) = Ls E k ++ [E k] := by simp [Ls, List.range_succ]
structure Val (E : Nat → Ev) (n : Nat) : Prop where
  ok : okTo E n
  dz : (stAt E n).d = 0
  pos : 0 < n
theorem ba_zero {s : ByteArray} (h : s.size = 0) : s = ⟨#[]⟩ := by
  obtain ⟨⟨l⟩⟩ := s
  cases l with
  | nil => rfl
  | cons => simp [ByteArray.size] at h
theorem ba_tx (s : ByteArray) : tx s.data.toList = s := by
  obtain ⟨⟨l⟩⟩ := s
  rfl
theorem Val.d {E : Nat → Ev} {n k : Nat} (V : Val E n) (h0 : 0 < k) (hk : k < n) : 0 < (stAt E k).d := by
  have h := (err_zero (V.ok k hk)).2.1
  rw [stAt_i] at h
  rcases Nat.eq_zero_or_pos (stAt E k).d with e | e
  · exact absurd ⟨e, .inr h0⟩ h
  · exact e
theorem kinds {E : Nat → Ev} {n k : Nat} (V : Val E n) (hk : k < n) : (E k).kind = 1 ∨ (E k).kind = 2 ∨ (E k).kind = 3 ∨ (E k).kind = 4 ∨ (E k).kind = 5 := by
  have := (err_zero (V.ok k hk)).1
  omega
theorem nameL_of {E : Nat → Ev} {n k : Nat} (V : Val E n) (hk : k < n) (h : (E k).kind = 1 ∨ (E k).kind = 2) : NameL (E k).name.data.toList := by
  have h3 := (err_zero (V.ok k hk)).2.2.1
  unfold nameOfF at h3
  rw [if_pos (show inTagB (E k).kind = true from decide_eq_true h)] at h3
  by_cases c : (E k).name.size < 1 ∨ 20 < (E k).name.size
  · rw [nameF_size c] at h3; exact absurd h3 (by decide)
  · refine ⟨fun e => ?_, fun i hi => ?_⟩
    · have : (E k).name.data.toList.length = 0 := by rw [e]; rfl
      have : (E k).name.size = 0 := this
      omega
    · have hi' : i < (E k).name.size := hi
      cases hb : nb (byteAt (E k).name i) ((i : Int) == 0) with
      | false =>
        rw [nameF_no c hi' hb] at h3
        exact absurd h3 (by decide)
      | true =>
        have e : byteAt (E k).name i = ((E k).name.data.toList[i].toNat : Int) := by
          unfold byteAt
          rw [List.getD_eq_getElem?_getD, List.getElem?_eq_getElem hi]
          rfl
        rw [← e]
        exact hb
theorem value_zero {E : Nat → Ev} {n k : Nat} (V : Val E n) (hk : k < n) (h : (E k).kind = 1 ∨ (E k).kind = 5) : (E k).value = ⟨#[]⟩ := by
  have h4 := (err_zero (V.ok k hk)).2.2.2
  unfold valueOfF at h4
  rw [if_pos (show startEnd (E k).kind = true from decide_eq_true h)] at h4
  by_cases z : (E k).value.size = 0
  · exact ba_zero z
  · rw [if_neg z] at h4; exact absurd h4 (by decide)
theorem name_zero {E : Nat → Ev} {n k : Nat} (V : Val E n) (hk : k < n) (h1 : ¬ (E k).kind = 1) (h2 : ¬ (E k).kind = 2) : (E k).name = ⟨#[]⟩ := by
  have h3 := (err_zero (V.ok k hk)).2.2.1
  unfold nameOfF at h3
  rw [if_neg (by unfold inTagB; simp [h1, h2])] at h3
  by_cases z : (E k).name.size = 0
  · exact ba_zero z
  · rw [if_neg z] at h3; exact absurd h3 (by decide)
theorem ev_eq {e : Ev} {k : Int} {n v : ByteArray} (h1 : e.kind = k) (h2 : e.name = n) (h3 : e.value = v) : e = ⟨k, n, v⟩ := by
  obtain ⟨a, b, c⟩ := e
  simp only at h1 h2 h3
  rw [h1, h2, h3]
theorem text_val {E : Nat → Ev} {n k : Nat} (V : Val E n) (hk : k < n) (h : (E k).kind = 3) : (E k).value.data.toList ≠ [] ∧ (0 < k → ¬ (E (k - 1)).kind = 3) := by
  have hr := err_rest (V.ok k hk)
  rw [if_neg (by omega), if_neg (by omega), if_pos h] at hr
  by_cases c : (E k).value.size = 0 ∨ (stAt E k).txt = true
  · rw [if_pos c] at hr; exact absurd hr (by decide)
  · refine ⟨fun e => c (.inl ?_), fun h0 e => c (.inr ?_)⟩
    · have : (E k).value.data.toList.length = 0 := by rw [e]; rfl
      exact this
    · rw [txt_inv h0]; exact decide_eq_true e
theorem comm_val {E : Nat → Ev} {n k : Nat} (V : Val E n) (hk : k < n) (h : (E k).kind = 4) : commB (tx (E k).value.data.toList) = false := by
  have hr := err_rest (V.ok k hk)
  rw [if_neg (by omega), if_neg (by omega), if_neg (by omega), if_pos h] at hr
  rw [ba_tx]
  cases c : commB (E k).value with
  | false => rfl
  | true => rw [if_pos c] at hr; exact absurd hr (by decide)
theorem attr_prev {E : Nat → Ev} {n k : Nat} (V : Val E n) (hk : k < n) (h : (E k).kind = 2) : 0 < k ∧ inTagB (E (k - 1)).kind = true := by
  have hr := err_rest (V.ok k hk)
  rw [if_neg (by omega), if_pos h] at hr
  have ti := tag_inv (E := E) (k := k) (fun j hj => V.ok j (by omega))
  cases ht : (stAt E k).tag with
  | none => rw [ht] at hr; simp at hr
  | some ns => rw [ht] at ti; exact ⟨ti.1, ti.2.1⟩
theorem inTag_no {k : Int} (h1 : ¬ k = 1) (h2 : ¬ k = 2) : inTagB k = false := by unfold inTagB; simp [h1, h2]
theorem gt_none {E : Nat → Ev} {k : Nat} (h : inTagB (E (k - 1)).kind = false) : gt E k = [] := by unfold gt gtB; simp [h]
theorem gt_inner {E : Nat → Ev} {k : Nat} (h : (E k).kind = 2 ∨ (E k).kind = 5) : gt E k = [] := by
  unfold gt gtB
  rcases h with h | h <;> simp [h]
theorem gt_some {E : Nat → Ev} {k : Nat} (h0 : 0 < k) (ht : inTagB (E (k - 1)).kind = true) (h2 : ¬ (E k).kind = 2) (h5 : ¬ (E k).kind = 5) : gt E k = [62] := by
  unfold gt gtB
  simp [h0, ht, h2, h5]
theorem body1 {E : Nat → Ev} {k : Nat} (h : (E k).kind = 1) : body E k = 60 :: (E k).name.data.toList := by unfold body; rw [if_pos h]; rfl
theorem body2 {E : Nat → Ev} {k : Nat} (h : (E k).kind = 2) : body E k = 32 :: ((E k).name.data.toList ++ [61, 34] ++ escL (E k).value.data.toList ++ [34]) := by unfold body; rw [if_neg (by omega), if_pos h]; simp
theorem body3 {E : Nat → Ev} {k : Nat} (h : (E k).kind = 3) : body E k = escL (E k).value.data.toList := by unfold body; rw [if_neg (by omega), if_neg (by omega), if_pos h]
theorem body4 {E : Nat → Ev} {k : Nat} (h : (E k).kind = 4) : body E k = [60, 33] ++ [45, 45] ++ (E k).value.data.toList ++ [45, 45, 62] := by unfold body; rw [if_neg (by omega), if_neg (by omega), if_neg (by omega), if_pos h]; simp
theorem body5t {E : Nat → Ev} {k : Nat} (h : (E k).kind = 5) (ht : inTagB (E (k - 1)).kind = true) : body E k = [47, 62] := by unfold body; rw [if_neg (by omega), if_neg (by omega), if_neg (by omega), if_neg (by omega), if_pos ht]
theorem body5n {E : Nat → Ev} {k : Nat} (h : (E k).kind = 5) (ht : inTagB (E (k - 1)).kind = false) : body E k = [60, 47] ++ (topName E k).data.toList ++ [62] := by unfold body; rw [if_neg (by omega), if_neg (by omega), if_neg (by omega), if_neg (by omega), if_neg (by rw [ht]; decide)]
theorem body_pos {E : Nat → Ev} {n k : Nat} (V : Val E n) (hk : k < n) : 1 ≤ (body E k).length := by
  rcases kinds V hk with h | h | h | h | h
  · rw [body1 h]; simp
  · rw [body2 h]; simp
  · rw [body3 h]
    have := escL_ge (E k).value.data.toList
    have := List.length_pos_iff.2 (text_val V hk h).1
    omega
  · rw [body4 h]; simp
  · cases ht : inTagB (E (k - 1)).kind with
    | true => rw [body5t h ht]; simp
    | false => rw [body5n h ht]; simp
theorem tail_len {E : Nat → Ev} {n : Nat} (V : Val E n) : ∀ m k, k + m = n → m ≤ (tailR E k m).length
  | 0, k, _ => Nat.zero_le _
  | m + 1, k, h => by
    have h1 := tail_len V m (k + 1) (by omega)
    have h2 := body_pos V (show k < n by omega)
    simp only [tailR, List.length_append]
    omega
/-- behind a tag's name or attribute: a blank, a slash or the tag's end -/
theorem tail_tag {E : Nat → Ev} {n k m : Nat} (V : Val E n) (hk : k + (m + 1) = n) (h0 : 0 < k) (ht : inTagB (E (k - 1)).kind = true) : ∃ c R, tailR E k (m + 1) = c :: R ∧ (c = 32 ∨ c = 47 ∨ c = 62) := by
  rcases kinds V (show k < n by omega) with h | h | h | h | h
  · exact ⟨62, _, by simp only [tailR]; rw [gt_some h0 ht (by omega) (by omega)]; rfl, .inr (.inr rfl)⟩
  · exact ⟨32, _, by simp only [tailR]; rw [gt_inner (.inl h), body2 h]; rfl, .inl rfl⟩
  · exact ⟨62, _, by simp only [tailR]; rw [gt_some h0 ht (by omega) (by omega)]; rfl, .inr (.inr rfl)⟩
  · exact ⟨62, _, by simp only [tailR]; rw [gt_some h0 ht (by omega) (by omega)]; rfl, .inr (.inr rfl)⟩
  · exact ⟨47, _, by simp only [tailR]; rw [gt_inner (.inr h), body5t h ht]; rfl, .inr (.inl rfl)⟩
theorem nb_tag {c : UInt8} (h : c = 32 ∨ c = 47 ∨ c = 62) : nb (c.toNat : Int) false = false := by rcases h with rfl | rfl | rfl <;> decide
/-- behind a text there is a tag -/
theorem tail_lt {E : Nat → Ev} {n k m : Nat} (V : Val E n) (hk : k + 1 + (m + 1) = n) (h3 : (E k).kind = 3) : ∃ R, tailR E (k + 1) (m + 1) = 60 :: R := by
  have ht : inTagB (E (k + 1 - 1)).kind = false := by rw [show k + 1 - 1 = k from rfl, h3]; decide
  have hg := gt_none (k := k + 1) ht
  rcases kinds V (show k + 1 < n by omega) with h | h | h | h | h
  · exact ⟨_, by simp only [tailR]; rw [hg, body1 h]; rfl⟩
  · have := (attr_prev V (show k + 1 < n by omega) h).2
    rw [ht] at this; cases this
  · exact absurd h3 ((text_val V (show k + 1 < n by omega) h).2 (by omega))
  · exact ⟨_, by simp only [tailR]; rw [hg, body4 h]; rfl⟩
  · exact ⟨_, by simp only [tailR]; rw [hg, body5n h ht]; rfl⟩
/-- where content goes on -/
def Side (E : Nat → Ev) (k m : Nat) : Prop := m = 0 ∨ (¬ (E k).kind = 2 ∧ ((E k).kind = 5 → inTagB (E (k - 1)).kind = false))
theorem in_d {E : Nat → Ev} {n k : Nat} (V : Val E n) (h0 : 0 < k) (hk : k ≤ n) (ht : inTagB (E (k - 1)).kind = true) : k < n := by
  rcases Nat.lt_or_ge k n with h | h
  · exact h
  · have e : k = n := by omega
    subst e
    have h5 := last_end (E := E) (n := k - 1) (by rw [show k - 1 + 1 = k by omega]; exact V.ok) (by rw [show k - 1 + 1 = k by omega]; exact V.dz)
    rw [h5] at ht
    exact absurd ht (by decide)
theorem side_next {E : Nat → Ev} {n k m : Nat} (V : Val E n) (hk : k + m = n) (ht : inTagB (E (k - 1)).kind = false) : Side E k m := by
  rcases Nat.eq_zero_or_pos m with h | h
  · exact .inl h
  · refine .inr ⟨fun h2 => ?_, fun _ => ht⟩
    have := (attr_prev V (show k < n by omega) h2).2
    rw [ht] at this; cases this
theorem rest_tail {E : Nat → Ev} {k m : Nat} (ht : inTagB (E (k - 1)).kind = false) : restC E k m = tailR E k m := by
  cases m with
  | zero => rfl
  | succ m => simp only [restC, tailR]; rw [gt_none ht]; rfl
end Go.Proofs.YtoifdcipialciaaDoor
