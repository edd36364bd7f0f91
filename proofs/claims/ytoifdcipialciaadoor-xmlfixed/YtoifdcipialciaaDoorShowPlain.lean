/-
  A DOCUMENT's TEXT, PLAINLY (P1.3), event by event; how long it may be; what a writer's memory keeps.
-/
import Derived.Test.YtoifdcipialciaaDoorEvRef
import Derived.Test.YtoifdcipialciaaDoorEscape
set_option linter.unusedVariables false
namespace Go.Proofs.YtoifdcipialciaaDoor
open Go.RowKit

/-- names of the elements that are open -/
def names (E : Nat → Ev) (k : Nat) : List ByteArray := (opens E k).map fun p => (E p).name
def topName (E : Nat → Ev) (k : Nat) : ByteArray := (names E k).getLast?.getD ⟨#[]⟩
/-- what an event writes by itself -/
def body (E : Nat → Ev) (i : Nat) : List UInt8 :=
  if (E i).kind = 1 then [60] ++ (E i).name.data.toList
  else if (E i).kind = 2 then [32] ++ (E i).name.data.toList ++ [61, 34] ++ escL (E i).value.data.toList ++ [34]
  else if (E i).kind = 3 then escL (E i).value.data.toList
  else if (E i).kind = 4 then [60, 33, 45, 45] ++ (E i).value.data.toList ++ [45, 45, 62]
  else if inTagB (E (i - 1)).kind = true then [47, 62] else [60, 47] ++ (topName E i).data.toList ++ [62]
/-- what closes the tag ahead -/
def gtB (E : Nat → Ev) (i : Nat) : Bool := decide (0 < i) && inTagB (E (i - 1)).kind && decide ((E i).kind ≠ 2) && decide ((E i).kind ≠ 5)
def gt (E : Nat → Ev) (i : Nat) : List UInt8 := if gtB E i = true then [62] else []
def showR (E : Nat → Ev) : Nat → List UInt8
  | 0 => []
  | k + 1 => showR E k ++ (gt E k ++ body E k)

theorem names_push {E : Nat → Ev} {k : Nat} (h : (E k).kind = 1) : names E (k + 1) = names E k ++ [(E k).name] := by
  unfold names; simp [opens, h]
theorem names_pop {E : Nat → Ev} {k : Nat} (h : (E k).kind = 5) : names E (k + 1) = (names E k).dropLast := by
  unfold names; simp [opens, h]
theorem names_keep {E : Nat → Ev} {k : Nat} (h1 : (E k).kind ≠ 1) (h5 : (E k).kind ≠ 5) : names E (k + 1) = names E k := by
  unfold names; simp [opens, h1, h5]
theorem names_len (E : Nat → Ev) (k : Nat) : (names E k).length = (stAt E k).d := by
  unfold names; rw [List.length_map, opens_d]
theorem opens_mem {E : Nat → Ev} : ∀ {k p : Nat}, p ∈ opens E k → p < k ∧ (E p).kind = 1
  | k + 1, p, h => by
    simp only [opens] at h
    split at h
    · rename_i h1
      rcases List.mem_append.1 h with h2 | h2
      · have := opens_mem h2; exact ⟨by omega, this.2⟩
      · have : p = k := by simpa using h2
        subst this; exact ⟨by omega, h1⟩
    · split at h
      · have := opens_mem (List.dropLast_subset _ h); exact ⟨by omega, this.2⟩
      · have := opens_mem h; exact ⟨by omega, this.2⟩
theorem name_small {E : Nat → Ev} {k : Nat} (h : errAt E k = 0) (hk : (E k).kind = 1 ∨ (E k).kind = 2) : (E k).name.size ≤ 20 := by
  have h3 := (err_zero h).2.2.1
  unfold nameOfF at h3
  rw [if_pos (show inTagB (E k).kind = true from decide_eq_true hk)] at h3
  by_cases c : (E k).name.size < 1 ∨ 20 < (E k).name.size
  · rw [nameF_size c] at h3; exact absurd h3 (by decide)
  · omega
theorem value_small {E : Nat → Ev} {k : Nat} (h : errAt E k = 0) : (E k).value.size ≤ 20000 := by
  have h4 := (err_zero h).2.2.2
  unfold valueOfF at h4
  by_cases c : startEnd (E k).kind = true
  · rw [if_pos c] at h4
    by_cases z : (E k).value.size = 0
    · omega
    · rw [if_neg z] at h4; exact absurd h4 (by decide)
  · rw [if_neg c] at h4
    by_cases z : 20000 < (E k).value.size
    · rw [textF_size z] at h4; exact absurd h4 (by decide)
    · omega
theorem top_small {E : Nat → Ev} {k : Nat} (h : okTo E k) : (topName E k).size ≤ 20 := by
  unfold topName
  cases hl : (names E k).getLast? with
  | none => exact Nat.zero_le _
  | some x =>
    obtain ⟨p, hp, rfl⟩ := List.mem_map.1 (List.mem_of_getLast? hl)
    obtain ⟨h1, h2⟩ := opens_mem hp
    simpa using name_small (h p h1) (.inl h2)
theorem gt_len (E : Nat → Ev) (i : Nat) : (gt E i).length ≤ 1 := by unfold gt; split <;> simp
theorem body_len {E : Nat → Ev} {k : Nat} (h : okTo E (k + 1)) : (body E k).length ≤ 120100 := by
  have hv := value_small (h k (by omega))
  have ht := top_small (k := k) (fun j hj => h j (by omega))
  have he := escL_len (E k).value.data.toList
  have e1 : (E k).name.data.toList.length = (E k).name.size := rfl
  have e2 : (E k).value.data.toList.length = (E k).value.size := rfl
  have e3 : (topName E k).data.toList.length = (topName E k).size := rfl
  unfold body
  split
  · rename_i h1
    have := name_small (h k (by omega)) (.inl h1)
    simp only [List.length_append, List.length_cons, List.length_nil]; omega
  · split
    · rename_i h1
      have := name_small (h k (by omega)) (.inr h1)
      simp only [List.length_append, List.length_cons, List.length_nil]; omega
    · split
      · omega
      · split
        · simp only [List.length_append, List.length_cons, List.length_nil]; omega
        · split
          · simp
          · simp only [List.length_append, List.length_cons, List.length_nil]; omega
theorem show_len {E : Nat → Ev} : ∀ {k : Nat}, okTo E k → (showR E k).length ≤ k * 130000
  | 0, _ => by simp [showR]
  | k + 1, h => by
    have h1 := show_len (k := k) (fun j hj => h j (by omega))
    have h2 := body_len h
    have h3 := gt_len E k
    simp only [showR, List.length_append]
    omega
/-- the last event of a document is an End -/
theorem last_end {E : Nat → Ev} {n : Nat} (h : okTo E (n + 1)) (hd : (stAt E (n + 1)).d = 0) : (E n).kind = 5 := by
  have h1 := (err_zero (h n (by omega))).2.1
  have h2 : (stAt E (n + 1)).d = if (E n).kind = 1 then (stAt E n).d + 1 else if (E n).kind = 5 then (stAt E n).d - 1 else (stAt E n).d := rfl
  by_cases c : (E n).kind = 5
  · exact c
  · by_cases c1 : (E n).kind = 1
    · rw [if_pos c1] at h2; omega
    · rw [if_neg c1, if_neg c] at h2
      exact absurd ⟨h2.symm.trans hd, .inl c1⟩ h1

/-- names in a row of the call's own -/
def NamesIs (w : World) (base : Nat) (v : Value) (l : List ByteArray) : Prop := w.ownsRow base 9 1 v l.length (l.map Value.string)
theorem NamesIs.shape {w : World} {base : Nat} {v : Value} {l : List ByteArray} (h : NamesIs w base v l) : ∃ a cap, v = .slice a l.length cap := by
  obtain ⟨h1, ⟨rfl, h2⟩ | ⟨g, cap, cur, rfl, h2⟩⟩ := h
  · exact ⟨none, 0, by rw [h2]⟩
  · exact ⟨_, cap, rfl⟩
theorem NamesIs.pop {w : World} {base : Nat} {v : Value} {l : List ByteArray} (h : NamesIs w base v l) (hl : 0 < l.length) : ∃ g cap, v = .slice (some ⟨g, 0, none⟩) l.length cap ∧ base ≤ g ∧ g < w.heap.size ∧ l.length ≤ cap ∧ cap ≤ maxLen ∧
    w.cell? ⟨g, l.length - 1, none⟩ = some (.string (l.getLast?.getD ⟨#[]⟩)) ∧ NamesIs w base (.slice (some ⟨g, 0, none⟩) (l.length - 1) cap) l.dropLast := by
  obtain ⟨h1, h2 | ⟨g, cap, cur, rfl, h2, h3, h4, h5, h6, h7⟩⟩ := h
  · omega
  · refine ⟨g, cap, rfl, h2, (Array.getElem?_eq_some_iff.1 h3).1, h4, h5, ?_, ?_⟩
    · have h8 : w.ownsRow base 9 1 (.slice (some ⟨g, 0, none⟩) l.length cap) l.length (l.map Value.string) := ⟨h1, .inr ⟨g, cap, cur, rfl, h2, h3, h4, h5, h6, h7⟩⟩
      rw [h8.cellAt _ (by omega), List.getElem?_map, List.getLast?_eq_getElem?]
      rw [List.getElem?_eq_getElem (by omega)]
      rfl
    · refine ⟨by simp, .inr ⟨g, cap, cur, by simp, h2, h3, by simp; omega, h5, h6, ?_⟩⟩
      rw [List.map_dropLast, ← h7]
      simp only [Nat.mul_one, List.length_dropLast]
      have hL : (cur.toList.take l.length).length = l.length := by simp; omega
      rw [List.dropLast_eq_take, hL, List.take_take, Nat.min_eq_left (by omega)]
/-- the row's block, if there is one -/
theorem NamesIs.block {w : World} {base : Nat} {v : Value} {l : List ByteArray} (h : NamesIs w base v l) : ∀ g, v.ownBlock = some g → base ≤ g ∧ ∃ c, w.heap[g]? = some (.cells c 9 (0, 0)) := by
  intro g hg
  obtain ⟨h1, ⟨rfl, h2⟩ | ⟨g', cap, cur, rfl, h2, h3, _⟩⟩ := h
  · cases hg
  · cases hg
    exact ⟨h2, cur, h3⟩
/-- what stands in the way of nobody: the names behind a write to the builder -/
theorem NamesIs.others {w w' : World} {base b : Nat} {v : Value} {l : List ByteArray} {bs : List Value} (h : NamesIs w base v l) (hb : Lib.IsBuilderF 41 5 base b bs w) (ho : Lib.OthersKept 5 (some b) w w') : NamesIs w' base v l := by
  have hbb : ∃ c, w.heap[b]? = some (.cells c 41 (0, 0)) := by
    rcases hb with ⟨_, x, hx, _⟩ | ⟨_, x, hx, _⟩
    · exact ⟨_, hx⟩
    · exact ⟨_, hx⟩
  obtain ⟨cb, hcb⟩ := hbb
  refine ⟨h.1, ?_⟩
  rcases h.2 with h1 | ⟨g, cap, cur, h1, h2, h3, h4⟩
  · exact .inl h1
  · refine .inr ⟨g, cap, cur, h1, h2, ho g _ h3 ?_ ?_, h4⟩
    · intro e
      cases e
      rw [hcb] at h3
      cases h3
    · intro c fz e
      cases e
theorem NamesIs.below {w w' : World} {base : Nat} {v : Value} {l : List ByteArray} (h : NamesIs w base v l) (hb : Below w.heap.size w w') : NamesIs w' base v l := ownsRow_below h hb
theorem NamesIs.pushed {w1 : World} {base d : Nat} {v : Value} {l : List ByteArray} {x : ByteArray} (hl : l.length = d)
    (h : w1.ownsRow base 9 1 v (d + 1) (l.map Value.string ++ [.string x])) : NamesIs w1 base v (l ++ [x]) := by
  unfold NamesIs
  rw [List.length_append, List.length_singleton, hl, List.map_append]
  exact h
/-- the builder behind an append to the names -/
theorem builder_grown {w w' : World} {base b : Nat} {v : Value} {l : List ByteArray} {bs : List Value} (hb : Lib.IsBuilderF 41 5 base b bs w) (h : NamesIs w base v l) (hg : w.grownBy w' v.ownBlock) : Lib.IsBuilderF 41 5 base b bs w' := by
  have key : ∀ p, Lib.BuilderAtF 41 5 base b p bs w → Lib.BuilderAtF 41 5 base b p bs w' := by
    rintro p ⟨hB, x, hx, ⟨h1, h2⟩, hne⟩
    have ne : ∀ k c t fz, t ≠ 9 → w.heap[k]? = some (.cells c t fz) → some k ≠ v.ownBlock := by
      intro k c t fz ht hk e
      obtain ⟨_, c', hc'⟩ := h.block k e.symm
      rw [hc'] at hk
      cases hk
      exact ht rfl
    refine ⟨hB, x, ?_, ⟨h1, ?_⟩, hne⟩
    · rw [hg.block b (Array.getElem?_eq_some_iff.1 hx).1 (ne b _ 41 _ (by decide) hx)]; exact hx
    · rcases h2 with h2 | ⟨g, cap, cur, fz, q1, q2, q3, q4⟩
      · exact .inl h2
      · refine .inr ⟨g, cap, cur, fz, q1, q2, ?_, q4⟩
        rw [hg.block g (Array.getElem?_eq_some_iff.1 q3).1 (ne g _ 5 _ (by decide) q3)]; exact q3
  exact hb.elim (fun x => .inl (key _ x)) (fun x => .inr (key _ x))
theorem builder_below {b base : Nat} {bs : List Value} {w w' : World} (h : Lib.IsBuilderF 41 5 base b bs w) (hb : Below w.heap.size w w') : Lib.IsBuilderF 41 5 base b bs w' := by
  have key : ∀ p, Lib.BuilderAtF 41 5 base b p bs w → Lib.BuilderAtF 41 5 base b p bs w' := by
    rintro p ⟨hB, x, hx, ⟨h1, h2⟩, hne⟩
    refine ⟨hB, x, ?_, ⟨h1, ?_⟩, hne⟩
    · rw [hb.block b (Array.getElem?_eq_some_iff.1 hx).1]; exact hx
    · rcases h2 with h2 | ⟨g, cap, cur, fz, q1, q2, q3, q4⟩
      · exact .inl h2
      · refine .inr ⟨g, cap, cur, fz, q1, q2, ?_, q4⟩
        rw [hb.block g (Array.getElem?_eq_some_iff.1 q3).1]; exact q3
  exact h.elim (fun x => .inl (key _ x)) (fun x => .inr (key _ x))
/-- a box of an event -/
def BoxIs (w : World) (xb : Nat) (e : Ev) : Prop := w.heap[xb]? = some (.cells #[.int .i64 e.kind, .string e.name, .string e.value] 31 (0, 0))
theorem BoxIs.cells {w : World} {xb : Nat} {e : Ev} (h : BoxIs w xb e) : w.cell? ⟨xb, 0, none⟩ = some (.int .i64 e.kind) ∧ w.cell? ⟨xb, 1, none⟩ = some (.string e.name) ∧ w.cell? ⟨xb, 2, none⟩ = some (.string e.value) := by
  unfold BoxIs at h
  refine ⟨?_, ?_, ?_⟩ <;> simp [World.cell?, h]
theorem BoxIs.below {w w' : World} {xb : Nat} {e : Ev} (h : BoxIs w xb e) (hb : Below w.heap.size w w') : BoxIs w' xb e :=
  (hb.block xb (Array.getElem?_eq_some_iff.1 h).1).trans h
theorem BoxIs.others {w w' : World} {base b xb : Nat} {e : Ev} {bs : List Value} (h : BoxIs w xb e) (hb : Lib.IsBuilderF 41 5 base b bs w) (ho : Lib.OthersKept 5 (some b) w w') : BoxIs w' xb e := by
  have hbb : ∃ c, w.heap[b]? = some (.cells c 41 (0, 0)) := by
    rcases hb with ⟨_, x, hx, _⟩ | ⟨_, x, hx, _⟩
    · exact ⟨_, hx⟩
    · exact ⟨_, hx⟩
  obtain ⟨cb, hcb⟩ := hbb
  refine ho xb _ h ?_ ?_
  · intro e
    cases e
    unfold BoxIs at h
    rw [hcb] at h
    cases h
  · intro c fz e
    cases e
theorem BoxIs.grown {w w' : World} {base xb : Nat} {e : Ev} {v : Value} {l : List ByteArray} (hx : BoxIs w xb e) (h : NamesIs w base v l) (hg : w.grownBy w' v.ownBlock) : BoxIs w' xb e := by
  unfold BoxIs at hx ⊢
  rw [hg.block xb (Array.getElem?_eq_some_iff.1 hx).1]
  · exact hx
  · intro e
    obtain ⟨_, c', hc'⟩ := h.block xb e.symm
    rw [hc'] at hx
    cases hx
theorem BoxIs.made (w : World) (e : Ev) : BoxIs (w.alloc (.cells #[.int .i64 e.kind, .string e.name, .string e.value] 31)) w.heap.size e := heap_alloc_new _ _
theorem BoxIs.alloc {w : World} {xb : Nat} {e : Ev} (h : BoxIs w xb e) (o : Obj) : BoxIs (w.alloc o) xb e := h.below ((Below.refl _ _).alloc (Nat.le_refl _) _)
theorem NamesIs.alloc {w : World} {base : Nat} {v : Value} {l : List ByteArray} (h : NamesIs w base v l) (o : Obj) : NamesIs (w.alloc o) base v l := World.ownsRow.alloc h o
end Go.Proofs.YtoifdcipialciaaDoor
