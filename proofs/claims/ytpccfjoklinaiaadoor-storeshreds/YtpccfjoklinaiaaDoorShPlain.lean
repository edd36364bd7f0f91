/-
  SHREDDING, PLAINLY (P2.1): the nodes as they are made, and what the document's answer has beside them.
-/
import Derived.Test.YtpccfjoklinaiaaDoorNdMade
import Derived.Test.YtpccfjoklinaiaaDoorEvOpen
set_option linter.unusedVariables false
namespace Go.Proofs.YtpccfjoklinaiaaDoor
open Go.RowKit

def upd (N : Nat → Nd) (j : Nat) (x : Nd) : Nat → Nd := fun i => if i = j then x else N i
theorem upd_same (N : Nat → Nd) (j : Nat) (x : Nd) : upd N j x j = x := if_pos rfl
theorem upd_other {N : Nat → Nd} {i j : Nat} {x : Nd} (h : i ≠ j) : upd N j x i = N i := if_neg h
def setSize (x : Nd) (s : Int) : Nd := ⟨x.kind, x.name, x.value, s, x.level, x.parent⟩
/-- how many nodes there are, the places of those that are open (the last one first), the nodes -/
structure Sh where
  c : Nat
  st : List Nat
  N : Nat → Nd
def topO (s : Sh) : Nat := s.st.headD 0
def newN (s : Sh) (e : Ev) : Nd := ⟨e.kind, e.name, e.value, 0, (s.N (topO s)).level + 1, (topO s : Int)⟩
def shStep (s : Sh) (e : Ev) : Sh :=
  if e.kind = 5 then ⟨s.c, s.st.tail, upd s.N (topO s) (setSize (s.N (topO s)) ((s.c : Int) - 1 - (topO s : Int)))⟩
  else ⟨s.c + 1, if e.kind = 1 then s.c :: s.st else s.st, upd s.N s.c (newN s e)⟩
def shAt (E : Nat → Ev) : Nat → Sh
  | 0 => ⟨1, [0], fun _ => ⟨6, ⟨#[]⟩, ⟨#[]⟩, 0, 0, -1⟩⟩
  | k + 1 => shStep (shAt E k) (E k)
/-- those that are open: each one's parent is the next one, the last one is the document -/
def Links (N : Nat → Nd) : List Nat → Prop
  | [] => False
  | [o] => o = 0 ∧ (N o).parent = -1
  | o :: o' :: r => (N o).parent = (o' : Int) ∧ o' < o ∧ Links N (o' :: r)
theorem Links.congr {N M : Nat → Nd} : ∀ {l : List Nat}, Links N l → (∀ j ∈ l, (M j).parent = (N j).parent) → Links M l
  | [o], h, e => ⟨h.1, by rw [e o (by simp)]; exact h.2⟩
  | o :: o' :: r, h, e => ⟨by rw [e o (by simp)]; exact h.1, h.2.1, Links.congr h.2.2 (fun j hj => e j (List.mem_cons_of_mem _ hj))⟩
theorem Links.le {N : Nat → Nd} : ∀ {l : List Nat} {o : Nat}, Links N (o :: l) → ∀ j ∈ l, j < o
  | [], o, _, j, hj => by cases hj
  | o' :: r, o, h, j, hj => by
    rcases List.mem_cons.1 hj with rfl | hj
    · exact h.2.1
    · have := Links.le h.2.2 j hj
      have := h.2.1
      omega
/-- what holds of the nodes as they are made -/
structure ShInv (s : Sh) : Prop where
  pos : 0 < s.c
  links : Links s.N s.st
  lt : ∀ j ∈ s.st, j < s.c
  lv : ∀ j, j < s.c → 0 ≤ (s.N j).level ∧ (s.N j).level ≤ j
theorem ShInv.ne {s : Sh} (h : ShInv s) : ∃ r, s.st = topO s :: r := by
  have h1 := h.links
  unfold topO
  cases hs : s.st with
  | nil => rw [hs] at h1; exact h1.elim
  | cons o r => exact ⟨r, rfl⟩
theorem ShInv.top {s : Sh} (h : ShInv s) : topO s < s.c := by
  obtain ⟨r, hr⟩ := h.ne
  exact h.lt _ (by rw [hr]; simp)
theorem shInv_step {s : Sh} {e : Ev} (h : ShInv s) (h5 : e.kind = 5 → 1 < s.st.length) : ShInv (shStep s e) := by
  obtain ⟨r, hr⟩ := h.ne
  have ht := h.top
  unfold shStep
  by_cases h1 : e.kind = 5
  · rw [if_pos h1]
    have h2 := h5 h1
    have hl := h.links
    generalize topO s = o at *
    rw [hr] at hl h2
    cases r with
    | nil => simp at h2
    | cons o' r =>
      refine ⟨h.pos, ?_, fun j hj => h.lt j (List.mem_of_mem_tail hj), fun j hj => ?_⟩
      · show Links _ s.st.tail
        rw [hr]
        refine hl.2.2.congr fun j hj => ?_
        have hlt := Links.le hl j hj
        show (upd s.N o _ j).parent = _
        rw [upd_other (by omega)]
      · by_cases e : j = o
        · subst e
          show 0 ≤ (upd s.N j _ j).level ∧ (upd s.N j _ j).level ≤ j
          rw [upd_same]; exact h.lv j hj
        · show 0 ≤ (upd s.N o _ j).level ∧ (upd s.N o _ j).level ≤ j
          rw [upd_other e]; exact h.lv j hj
  · rw [if_neg h1]
    have hlk : Links (upd s.N s.c (newN s e)) s.st := h.links.congr fun j hj => by
      have := h.lt j hj
      rw [upd_other (by omega)]
    refine ⟨by show 0 < s.c + 1; omega, ?_, fun j hj => ?_, fun j hj => ?_⟩
    · by_cases hk : e.kind = 1
      · show Links _ (if e.kind = 1 then s.c :: s.st else s.st)
        rw [if_pos hk, hr]
        rw [hr] at hlk
        refine ⟨?_, ht, hlk⟩
        show (upd s.N s.c (newN s e) s.c).parent = _
        rw [upd_same]; rfl
      · show Links _ (if e.kind = 1 then s.c :: s.st else s.st)
        rw [if_neg hk]; exact hlk
    · have hj' : j ∈ (if e.kind = 1 then s.c :: s.st else s.st) := hj
      show j < s.c + 1
      split at hj'
      · rcases List.mem_cons.1 hj' with rfl | hj'
        · omega
        · have := h.lt j hj'; omega
      · have := h.lt j hj'; omega
    · have hj' : j < s.c + 1 := hj
      by_cases e1 : j = s.c
      · subst e1
        have := h.lv (topO s) ht
        show 0 ≤ (upd s.N s.c _ s.c).level ∧ (upd s.N s.c _ s.c).level ≤ s.c
        rw [upd_same]
        show 0 ≤ (s.N (topO s)).level + 1 ∧ (s.N (topO s)).level + 1 ≤ (s.c : Int)
        omega
      · show 0 ≤ (upd s.N s.c _ j).level ∧ (upd s.N s.c _ j).level ≤ j
        rw [upd_other e1]; exact h.lv j (by omega)
theorem sh_len {E : Nat → Ev} : ∀ {k : Nat}, okTo E k → ShInv (shAt E k) ∧ (shAt E k).st.length = (stAt E k).d + 1 ∧ (shAt E k).c ≤ k + 1
  | 0, _ => ⟨⟨Nat.one_pos, ⟨rfl, rfl⟩, fun j hj => by simp [shAt] at hj ⊢; omega, fun j hj => by simp [shAt] at hj ⊢⟩, rfl, Nat.le_refl _⟩
  | k + 1, h => by
    obtain ⟨i1, i2, i3⟩ := sh_len (k := k) (fun j hj => h j (by omega))
    have he := err_zero (h k (by omega))
    have h5 : (E k).kind = 5 → (stAt E k).d ≠ 0 := fun h5 h0 => he.2.1 ⟨h0, .inl (by omega)⟩
    refine ⟨shInv_step i1 (fun hk => by have := h5 hk; omega), ?_, ?_⟩
    · have hd : (stAt E (k + 1)).d = if (E k).kind = 1 then (stAt E k).d + 1 else if (E k).kind = 5 then (stAt E k).d - 1 else (stAt E k).d := rfl
      have hs : (shAt E (k + 1)).st = if (E k).kind = 5 then (shAt E k).st.tail else if (E k).kind = 1 then (shAt E k).c :: (shAt E k).st else (shAt E k).st := by
        show (shStep (shAt E k) (E k)).st = _
        unfold shStep
        by_cases k5 : (E k).kind = 5
        · rw [if_pos k5, if_pos k5]
        · rw [if_neg k5, if_neg k5]
      rw [hd, hs]
      by_cases k5 : (E k).kind = 5
      · rw [if_pos k5, if_neg (by omega), if_pos k5, List.length_tail]
        have := h5 k5
        omega
      · rw [if_neg k5, if_neg k5]
        by_cases k1 : (E k).kind = 1
        · rw [if_pos k1, if_pos k1, List.length_cons]; omega
        · rw [if_neg k1, if_neg k1]; omega
    · show (shStep (shAt E k) (E k)).c ≤ _
      unfold shStep
      by_cases k5 : (E k).kind = 5
      · rw [if_pos k5]; show (shAt E k).c ≤ _; omega
      · rw [if_neg k5]; show (shAt E k).c + 1 ≤ _; omega
/-- the next one that is open, behind an End -/
theorem sh_pop {s : Sh} (h : ShInv s) (hl : 1 < s.st.length) : ∃ o', s.st.tail.headD 0 = o' ∧ (s.N (topO s)).parent = (o' : Int) := by
  obtain ⟨r, hr⟩ := h.ne
  have hl2 := h.links
  generalize topO s = o at *
  rw [hr] at hl2 hl
  cases r with
  | nil => simp at hl
  | cons o' r => exact ⟨o', by rw [hr]; rfl, hl2.1⟩

/-- what the document's answer has: those that are open have as many within as there are by now -/
def refN (s : Sh) (j : Nat) : Nd := setSize (s.N j) (if j ∈ s.st then (s.c : Int) - 1 - j else (s.N j).size)
/-- what is shredded at the end -/
def doneN (s : Sh) : Nat → Nd := upd s.N 0 (setSize (s.N 0) ((s.c : Int) - 1 - ((0 : Nat) : Int)))
theorem refN_done {s : Sh} (h : s.st = [0]) (j : Nat) : refN s j = doneN s j := by
  unfold refN doneN
  by_cases e : j = 0
  · subst e
    rw [upd_same, if_pos (by rw [h]; simp)]
  · rw [upd_other e, if_neg (by rw [h]; simp [e])]
    rfl
theorem refN_same (s : Sh) (j : Nat) : (refN s j).level = (s.N j).level ∧ (refN s j).parent = (s.N j).parent := ⟨rfl, rfl⟩
/-- an End changes nothing there -/
theorem refN_end {s : Sh} {e : Ev} (h : ShInv s) (hk : e.kind = 5) (j : Nat) : refN (shStep s e) j = refN s j := by
  obtain ⟨r, hr⟩ := h.ne
  have hl := h.links
  unfold shStep
  rw [if_pos hk]
  generalize topO s = o at *
  rw [hr] at hl
  unfold refN
  by_cases e1 : j = o
  · subst e1
    have hn : ¬ j ∈ s.st.tail := fun hj => by
      rw [hr] at hj
      have := Links.le hl j hj
      omega
    rw [if_neg hn, if_pos (by rw [hr]; simp)]
    show setSize (upd s.N j _ j) (upd s.N j _ j).size = _
    rw [upd_same]; rfl
  · show setSize (upd s.N o _ j) (if j ∈ s.st.tail then _ else (upd s.N o _ j).size) = _
    rw [upd_other e1, hr]
    by_cases hj : j ∈ r
    · rw [if_pos (by simpa using hj), if_pos (by simp [hj])]
    · rw [if_neg (by simpa using hj), if_neg (by simp [hj, e1])]
/-- a node more: the new one; of those that are open one more within each -/
theorem refN_new {s : Sh} {e : Ev} (h : ShInv s) (hk : e.kind ≠ 5) (j : Nat) (hj : j ≤ s.c) :
    refN (shStep s e) j = if j = s.c then newN s e else if j ∈ s.st then setSize (refN s j) ((refN s j).size + 1) else refN s j := by
  unfold shStep
  rw [if_neg hk]
  by_cases e1 : j = s.c
  · subst e1
    rw [if_pos rfl]
    unfold refN
    show setSize (upd s.N s.c (newN s e) s.c) (if s.c ∈ (if e.kind = 1 then s.c :: s.st else s.st) then ((s.c + 1 : Nat) : Int) - 1 - s.c else (upd s.N s.c (newN s e) s.c).size) = _
    rw [upd_same]
    have hz : (if s.c ∈ (if e.kind = 1 then s.c :: s.st else s.st) then ((s.c + 1 : Nat) : Int) - 1 - s.c else (newN s e).size) = 0 := by
      by_cases hm : s.c ∈ (if e.kind = 1 then s.c :: s.st else s.st)
      · rw [if_pos hm]; omega
      · rw [if_neg hm]; rfl
    rw [hz]; rfl
  · rw [if_neg e1]
    unfold refN
    show setSize (upd s.N s.c (newN s e) j) (if j ∈ (if e.kind = 1 then s.c :: s.st else s.st) then ((s.c + 1 : Nat) : Int) - 1 - j else (upd s.N s.c (newN s e) j).size) = _
    rw [upd_other e1]
    have hm : j ∈ (if e.kind = 1 then s.c :: s.st else s.st) ↔ j ∈ s.st := by
      split
      · simp [e1]
      · rfl
    by_cases hj : j ∈ s.st
    · rw [if_pos (hm.2 hj), if_pos hj, if_pos hj]
      show (⟨_, _, _, _, _, _⟩ : Nd) = ⟨_, _, _, _, _, _⟩
      congr 1
      show _ = (s.c : Int) - 1 - j + 1
      omega
    · rw [if_neg (fun h => hj (hm.1 h)), if_neg hj, if_neg hj]
/-- .. while the document's answer goes up: those ahead of what is left have it already -/
def partN (s : Sh) (e : Ev) (l : List Nat) (j : Nat) : Nd := if j = s.c then newN s e else if j ∈ s.st ∧ j ∉ l then setSize (refN s j) ((refN s j).size + 1) else refN s j

theorem ndCells_set (N : Nat → Nd) (n o : Nat) (s : Int) (ho : o < n) : (ndCells N n).set (o * 6 + 3) (.int .i64 s) = ndCells (upd N o (setSize (N o) s)) n := by
  apply List.ext_getElem?
  intro j
  by_cases hj : j < n * 6
  · rw [ndCells_at _ n j hj]
    by_cases e : j = o * 6 + 3
    · subst e
      rw [List.getElem?_set_self (by rw [ndCells_len]; exact hj), show (o * 6 + 3) / 6 = o by omega, show (o * 6 + 3) % 6 = 3 by omega, upd_same]
      rfl
    · rw [List.getElem?_set_ne (fun h => e h.symm), ndCells_at N n j hj]
      by_cases e2 : j / 6 = o
      · rw [e2, upd_same]
        have hm : j % 6 = 0 ∨ j % 6 = 1 ∨ j % 6 = 2 ∨ j % 6 = 4 ∨ j % 6 = 5 := by omega
        rcases hm with h | h | h | h | h <;> rw [h] <;> rfl
      · rw [upd_other e2]
  · rw [List.getElem?_eq_none (by rw [List.length_set, ndCells_len]; omega), List.getElem?_eq_none (by rw [ndCells_len]; omega)]
theorem RowIs.stored {w : World} {base g cap n : Nat} {N : Nat → Nd} (h : RowIs w base (.slice (some ⟨g, 0, none⟩) n cap) n N) (o : Nat) (ho : o < n) (s : Int) :
    RowIs (w.setCell ⟨g, o * 6 + 3, none⟩ (.int .i64 s)) base (.slice (some ⟨g, 0, none⟩) n cap) n (upd N o (setSize (N o) s)) ∧ w.grownBy (w.setCell ⟨g, o * 6 + 3, none⟩ (.int .i64 s)) (some g) := by
  obtain ⟨h1, h2⟩ := World.ownsRow.stored h (o * 6 + 3) (.int .i64 s)
  unfold RowIs
  rw [ndCells_set N n o s ho] at h1
  exact ⟨h1, h2⟩
theorem RowIs.congr {w : World} {base : Nat} {v : Value} {n : Nat} {N M : Nat → Nd} (h : RowIs w base v n N) (e : ∀ j, j < n → N j = M j) : RowIs w base v n M := by
  unfold RowIs at h ⊢
  rwa [ndCells_congr e] at h
/-- a row of one, just laid -/
theorem RowIs.one {w : World} {base : Nat} (x : Nd) (N : Nat → Nd) (hN : N 0 = x) (hb : base ≤ w.heap.size) : RowIs (w.alloc (.cells #[.int .i64 x.kind, .string x.name, .string x.value, .int .i64 x.size, .int .i64 x.level, .int .i64 x.parent] 42)) base (.slice (some ⟨w.heap.size, 0, none⟩) 1 1) 1 N := by
  subst hN
  refine ⟨rfl, .inr ⟨w.heap.size, 1, _, rfl, hb, heap_alloc_new w _, Nat.le_refl _, by unfold maxLen; omega, rfl, ?_⟩⟩
  rw [ndCells_succ]
  rfl
end Go.Proofs.YtpccfjoklinaiaaDoor
