/-
  EVENTS, PLAINLY: what is said of a list of events (P1.2), as a machine with a state; and the laws that the walks use. Nothing of the program.
-/
import Derived.Test.YtoifdcipialciaaDoorPlain
import Derived.Lib.IndexMore
import Derived.Lib.Strings
namespace Go.Proofs.YtoifdcipialciaaDoor
open Go.RowKit

/-- an event -/
structure Ev where
  kind : Int
  name : ByteArray
  value : ByteArray

def inTagB (k : Int) : Bool := decide (k = 1 ∨ k = 2)
def nameOfF (e : Ev) : Int := if inTagB e.kind = true then nameF e.name else if e.name.size = 0 then 0 else 4
def startEnd (k : Int) : Bool := decide (k = 1 ∨ k = 5)
def valueOfF (e : Ev) : Int := if startEnd e.kind = true then (if e.value.size = 0 then 0 else 4) else textF e.value
/-- a comment that may not be -/
def commB (v : ByteArray) : Bool := Lib.contains v.data.toList [45, 45] || Lib.hasSuffix v.data.toList [45]

/-- the state ahead of an event: how many there were, how many elements are open, the names of the attributes of the tag that is open (none: none is), whether the last event is a text -/
structure St where
  i : Nat
  d : Nat
  tag : Option (List ByteArray)
  txt : Bool
def stepF (st : St) (e : Ev) : Int :=
  if e.kind < 1 ∨ 5 < e.kind then 3
  else if st.d = 0 ∧ (e.kind ≠ 1 ∨ 0 < st.i) then 4
  else if nameOfF e ≠ 0 then nameOfF e
  else if valueOfF e ≠ 0 then valueOfF e
  else if e.kind = 1 then (if 20 ≤ st.d then 8 else 0)
  else if e.kind = 2 then (match st.tag with | none => 4 | some ns => if (ns.any fun m => m.toList == e.name.toList) = true then 7 else 0)
  else if e.kind = 3 then (if e.value.size = 0 ∨ st.txt = true then 4 else 0)
  else if e.kind = 4 then (if commB e.value = true then 4 else 0)
  else 0
def nextS (st : St) (e : Ev) : St :=
  { i := st.i + 1
    d := if e.kind = 1 then st.d + 1 else if e.kind = 5 then st.d - 1 else st.d
    tag := if e.kind = 1 then some [] else if e.kind = 2 then st.tag.map (e.name :: ·) else none
    txt := decide (e.kind = 3) }
def stAt (E : Nat → Ev) : Nat → St
  | 0 => ⟨0, 0, none, false⟩
  | k + 1 => nextS (stAt E k) (E k)
def errAt (E : Nat → Ev) (k : Nat) : Int := stepF (stAt E k) (E k)
def okTo (E : Nat → Ev) (k : Nat) : Prop := ∀ j, j < k → errAt E j = 0
/-- what is said of the first n events -/
def checkN (E : Nat → Ev) (n : Nat) : Int :=
  if 400 < n then 1 else match (List.range n).find? (fun j => decide (errAt E j ≠ 0)) with
    | some j => errAt E j
    | none => if n = 0 ∨ 0 < (stAt E n).d then 5 else 0
theorem okTo_zero (E : Nat → Ev) : okTo E 0 := fun j hj => by omega
theorem okTo_succ {E : Nat → Ev} {k : Nat} (h : okTo E k) (hk : errAt E k = 0) : okTo E (k + 1) := by
  intro j hj
  by_cases e : j = k
  · subst e; exact hk
  · exact h j (by omega)
theorem checkN_size {E : Nat → Ev} {n : Nat} (h : 400 < n) : checkN E n = 1 := by unfold checkN; rw [if_pos h]
theorem find_first {p : Nat → Bool} {n k : Nat} (hk : k < n) (h0 : ∀ j, j < k → p j = false) (h1 : p k = true) : (List.range n).find? p = some k := by
  rw [List.find?_range_eq_some]
  exact ⟨h1, List.mem_range.2 hk, fun j hj => by simp [h0 j hj]⟩
theorem checkN_err {E : Nat → Ev} {n k : Nat} (h : ¬ 400 < n) (hk : k < n) (ho : okTo E k) (he : errAt E k ≠ 0) : checkN E n = errAt E k := by
  unfold checkN
  rw [if_neg h, find_first (k := k) hk (fun j hj => by simp [ho j hj]) (by simpa using he)]
theorem checkN_end {E : Nat → Ev} {n : Nat} (h : ¬ 400 < n) (ho : okTo E n) : checkN E n = if n = 0 ∨ 0 < (stAt E n).d then 5 else 0 := by
  unfold checkN
  have : (List.range n).find? (fun j => decide (errAt E j ≠ 0)) = none := by
    rw [List.find?_eq_none]
    intro j hj
    simp [ho j (List.mem_range.1 hj)]
  rw [if_neg h, this]
theorem stAt_i (E : Nat → Ev) : ∀ k, (stAt E k).i = k
  | 0 => rfl
  | k + 1 => by show (stAt E k).i + 1 = k + 1; rw [stAt_i E k]
/-- is a name among those of the attributes right ahead? -/
def twice (E : Nat → Ev) (nm : ByteArray) : Nat → Bool
  | 0 => false
  | i + 1 => if (E i).kind = 2 then ((E i).name.toList == nm.toList) || twice E nm i else false
def attrF (E : Nat → Ev) (m : Nat) (x : Ev) : Int := if inTagB (E (m - 1)).kind = true then (if twice E x.name m = true then 7 else 0) else 4
/-- what is said of an event behind m others, d elements being open: as the program looks at it -/
def evF (E : Nat → Ev) (m d : Nat) (x : Ev) : Int :=
  if x.kind < 1 ∨ 5 < x.kind then 3
  else if d = 0 ∧ (x.kind ≠ 1 ∨ 0 < m) then 4
  else if nameOfF x ≠ 0 then nameOfF x
  else if valueOfF x ≠ 0 then valueOfF x
  else if x.kind = 1 then (if 20 ≤ d then 8 else 0)
  else if x.kind = 2 then attrF E m x
  else if x.kind = 3 then (if x.value.size = 0 ∨ (E (m - 1)).kind = 3 then 4 else 0)
  else if x.kind = 4 then (if commB x.value = true then 4 else 0)
  else 0
theorem err_zero {E : Nat → Ev} {k : Nat} (h : errAt E k = 0) : ¬ ((E k).kind < 1 ∨ 5 < (E k).kind) ∧ ¬ ((stAt E k).d = 0 ∧ ((E k).kind ≠ 1 ∨ 0 < (stAt E k).i)) ∧ nameOfF (E k) = 0 ∧ valueOfF (E k) = 0 := by
  unfold errAt stepF at h
  by_cases a1 : (E k).kind < 1 ∨ 5 < (E k).kind
  · rw [if_pos a1] at h; exact absurd h (by decide)
  · rw [if_neg a1] at h
    by_cases a2 : (stAt E k).d = 0 ∧ ((E k).kind ≠ 1 ∨ 0 < (stAt E k).i)
    · rw [if_pos a2] at h; exact absurd h (by decide)
    · rw [if_neg a2] at h
      by_cases a3 : nameOfF (E k) = 0
      · rw [if_neg (by simp [a3])] at h
        by_cases a4 : valueOfF (E k) = 0
        · exact ⟨a1, a2, a3, a4⟩
        · rw [if_pos a4] at h; exact absurd h a4
      · rw [if_pos a3] at h; exact absurd h a3
theorem err_rest {E : Nat → Ev} {k : Nat} (h : errAt E k = 0) : (if (E k).kind = 1 then (if 20 ≤ (stAt E k).d then 8 else 0)
  else if (E k).kind = 2 then (match (stAt E k).tag with | none => 4 | some ns => if (ns.any fun m => m.toList == (E k).name.toList) = true then 7 else 0)
  else if (E k).kind = 3 then (if (E k).value.size = 0 ∨ (stAt E k).txt = true then 4 else 0)
  else if (E k).kind = 4 then (if commB (E k).value = true then 4 else 0)
  else 0 : Int) = 0 := by
  obtain ⟨a1, a2, a3, a4⟩ := err_zero h
  unfold errAt stepF at h
  rwa [if_neg a1, if_neg a2, if_neg (by simp [a3]), if_neg (by simp [a4])] at h
theorem first_start {E : Nat → Ev} {k : Nat} (h : okTo E k) (hk : 0 < k) : (E 0).kind = 1 := by
  have := (err_zero (h 0 hk)).2.1
  have h0 : (stAt E 0).d = 0 := rfl
  by_cases e : (E 0).kind = 1
  · exact e
  · exact absurd ⟨h0, .inl e⟩ this
theorem tag_inv {E : Nat → Ev} : ∀ {k : Nat}, okTo E k → match (stAt E k).tag with
    | none => k = 0 ∨ inTagB (E (k - 1)).kind = false
    | some ns => 0 < k ∧ inTagB (E (k - 1)).kind = true ∧ ∀ nm : ByteArray, twice E nm k = ns.any fun m => m.toList == nm.toList
  | 0, _ => .inl rfl
  | k + 1, h => by
    have ih := tag_inv (k := k) (fun j hj => h j (by omega))
    have hr := err_rest (h k (by omega))
    show match (nextS (stAt E k) (E k)).tag with
      | none => k + 1 = 0 ∨ inTagB (E k).kind = false
      | some ns => 0 < k + 1 ∧ inTagB (E k).kind = true ∧ ∀ nm : ByteArray, twice E nm (k + 1) = ns.any fun m => m.toList == nm.toList
    by_cases k1 : (E k).kind = 1
    · simp [nextS, k1, inTagB, twice]
    · by_cases k2 : (E k).kind = 2
      · rw [if_neg k1, if_pos k2] at hr
        cases ht : (stAt E k).tag with
        | none => rw [ht] at hr; simp at hr
        | some ns =>
          rw [ht] at ih
          have i3 := ih.2.2
          simp [nextS, k2, inTagB, twice, ht, i3]
      · have : inTagB (E k).kind = false := by simp [inTagB, k1, k2]
        simp [nextS, k1, k2, this]
theorem txt_inv {E : Nat → Ev} : ∀ {k : Nat}, 0 < k → (stAt E k).txt = decide ((E (k - 1)).kind = 3)
  | _ + 1, _ => rfl
theorem evF_eq {E : Nat → Ev} {k : Nat} (h : okTo E k) (hd : (stAt E k).d = 0 ∨ 0 < k) : evF E k (stAt E k).d (E k) = errAt E k := by
  unfold evF errAt stepF
  rw [stAt_i]
  by_cases a1 : (E k).kind < 1 ∨ 5 < (E k).kind
  · rw [if_pos a1, if_pos a1]
  rw [if_neg a1, if_neg a1]
  by_cases a2 : (stAt E k).d = 0 ∧ ((E k).kind ≠ 1 ∨ 0 < k)
  · rw [if_pos a2, if_pos a2]
  rw [if_neg a2, if_neg a2]
  by_cases k1 : (E k).kind = 1
  · simp only [if_pos k1]
  have hk : 0 < k := by
    rcases hd with hd | hd
    · exact absurd ⟨hd, .inl k1⟩ a2
    · exact hd
  simp only [if_neg k1]
  by_cases k2 : (E k).kind = 2
  · simp only [if_pos k2]
    have ti := tag_inv h
    cases ht : (stAt E k).tag with
    | none =>
      rw [ht] at ti
      have : inTagB (E (k - 1)).kind = false := by
        rcases ti with t | t
        · omega
        · exact t
      simp [attrF, this]
    | some ns =>
      rw [ht] at ti
      obtain ⟨_, t2, t3⟩ := ti
      simp [attrF, t2, t3]
  simp only [if_neg k2]
  rw [txt_inv hk]
  simp only [decide_eq_true_eq]
theorem d_inv {E : Nat → Ev} : ∀ k : Nat, (stAt E k).d ≤ k
  | 0 => Nat.le_refl _
  | k + 1 => by
    have := d_inv (E := E) k
    show (nextS (stAt E k) (E k)).d ≤ k + 1
    simp only [nextS]
    split
    · omega
    · split <;> omega
theorem empty_of_size {s : ByteArray} (h : s.size = 0) : s.toList.isEmpty = true := by
  rw [ByteArray.toList_eq, List.isEmpty_iff, List.eq_nil_iff_length_eq_zero]; exact h
theorem nonempty_of_size {s : ByteArray} (h : ¬ s.size = 0) : s.toList.isEmpty = false := by
  rw [ByteArray.toList_eq, List.isEmpty_eq_false_iff, ne_eq, List.eq_nil_iff_length_eq_zero]; exact h

/-- n events lie in memory, from a place on -/
def EvsAt (w : World) (b off n : Nat) (E : Nat → Ev) : Prop :=
  ∀ i, i < n → w.cell? ⟨b, off + i * 3, none⟩ = some (.int .i64 (E i).kind) ∧ w.cell? ⟨b, off + i * 3 + 1, none⟩ = some (.string (E i).name) ∧ w.cell? ⟨b, off + i * 3 + 2, none⟩ = some (.string (E i).value)
theorem EvsAt.less {w : World} {b off n m : Nat} {E : Nat → Ev} (h : EvsAt w b off n E) (hm : m ≤ n) : EvsAt w b off m E := fun i hi => h i (by omega)
theorem EvsAt.below {w w' : World} {b off n B : Nat} {E : Nat → Ev} (h : EvsAt w b off n E) (hb : Below B w w') (hB : b < B) : EvsAt w' b off n E := by
  intro i hi
  obtain ⟨h1, h2, h3⟩ := h i hi
  exact ⟨(hb.cell (p := ⟨b, _, none⟩) hB).trans h1, (hb.cell (p := ⟨b, _, none⟩) hB).trans h2, (hb.cell (p := ⟨b, _, none⟩) hB).trans h3⟩
end Go.Proofs.YtoifdcipialciaaDoor
