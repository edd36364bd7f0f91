/-
  CONTRACT of xml.checkEvent.
-/
import Derived.Test.YtoifdcipialciaaDoorAttr
set_option linter.unusedVariables false
namespace Go.Proofs.YtoifdcipialciaaDoor
open Go.RowKit

/-- what the calls ask of memory: the tables, and a variable of the library -/
structure Env (w : World) : Prop where
  tabs : Tabs w
  big : 3 < w.heap.size
  maxLen : ∃ mx : Int, w.cell? ⟨3, 0, none⟩ = some (.int .i64 mx)
theorem Env.below {w w' : World} (h : Env w) (hb : Below w.heap.size w w') : Env w' := by
  obtain ⟨mx, hm⟩ := h.maxLen
  exact ⟨Utf8Tabs_below h.tabs hb, Nat.lt_of_lt_of_le h.big hb.size, mx, (hb.cell (p := ⟨3, 0, none⟩) h.big).trans hm⟩

/-- the road to the kinds: name and value are fine -/
theorem evF_kinds {E : Nat → Ev} {m d : Nat} {x : Ev} (h1 : ¬ (x.kind < 1 ∨ 5 < x.kind)) (h2 : ¬ (d = 0 ∧ (x.kind ≠ 1 ∨ 0 < m))) (h3 : nameOfF x = 0) (h4 : valueOfF x = 0) :
    evF E m d x = (if x.kind = 1 then (if 20 ≤ d then 8 else 0)
  else if x.kind = 2 then attrF E m x
  else if x.kind = 3 then (if x.value.size = 0 ∨ (E (m - 1)).kind = 3 then 4 else 0)
  else if x.kind = 4 then (if commB x.value = true then 4 else 0)
  else 0) := by
  unfold evF
  rw [if_neg h1, if_neg h2, if_neg (by simp [h3]), if_neg (by simp [h4])]
theorem evF_name {E : Nat → Ev} {m d : Nat} {x : Ev} (h1 : ¬ (x.kind < 1 ∨ 5 < x.kind)) (h2 : ¬ (d = 0 ∧ (x.kind ≠ 1 ∨ 0 < m))) (h3 : ¬ nameOfF x = 0) : evF E m d x = nameOfF x := by
  unfold evF
  rw [if_neg h1, if_neg h2, if_pos h3]
theorem evF_value {E : Nat → Ev} {m d : Nat} {x : Ev} (h1 : ¬ (x.kind < 1 ∨ 5 < x.kind)) (h2 : ¬ (d = 0 ∧ (x.kind ≠ 1 ∨ 0 < m))) (h3 : nameOfF x = 0) (h4 : ¬ valueOfF x = 0) : evF E m d x = valueOfF x := by
  unfold evF
  rw [if_neg h1, if_neg h2, if_neg (by simp [h3]), if_pos h4]
theorem evF_form {E : Nat → Ev} {m d : Nat} {x : Ev} (h1 : ¬ (x.kind < 1 ∨ 5 < x.kind)) (h2 : d = 0 ∧ (x.kind ≠ 1 ∨ 0 < m)) : evF E m d x = 4 := by
  unfold evF
  rw [if_neg h1, if_pos h2]
theorem evF_kind {E : Nat → Ev} {m d : Nat} {x : Ev} (h1 : x.kind < 1 ∨ 5 < x.kind) : evF E m d x = 3 := by
  unfold evF
  rw [if_pos h1]

set_option maxHeartbeats 400000 in
theorem event_kind (k : Int) (n v : ByteArray) (b off m cap d : Nat) (E : Nat → Ev) (w : World) (hm : m < 400) (h1 : k < 1 ∨ 5 < k) :
    Calls Tryd.prog 18 #[.slice (some ⟨b, off, none⟩) m cap, .agg #[.int .i64 k, .string n, .string v], .int .i64 d] w fun e w' => e = .returned (.int .i64 (evF E m d ⟨k, n, v⟩)) ∧ Below w.heap.size w w' := by
  have HF : Hid (evF E m d ⟨k, n, v⟩ = 3) := evF_kind (x := ⟨k, n, v⟩) h1
  rcases h1 with h1 | h1
  · go_enter Tryd.func18, Tryd.ntmps18
    go_wp2
    go_ret
    exact ⟨ret_int HF.out.symm, (Below.refl _ _).alloc (Nat.le_refl _) _⟩
  · have h2 : ¬ k < 1 := by omega
    go_enter Tryd.func18, Tryd.ntmps18
    go_wp2
    go_ret
    exact ⟨ret_int HF.out.symm, (Below.refl _ _).alloc (Nat.le_refl _) _⟩

set_option maxHeartbeats 400000 in
theorem event_form (k : Int) (n v : ByteArray) (b off m cap d : Nat) (E : Nat → Ev) (w : World) (hm : m < 400) (h1 : 1 ≤ k) (h1' : k ≤ 5) (h2 : d = 0 ∧ (k ≠ 1 ∨ 0 < m)) :
    Calls Tryd.prog 18 #[.slice (some ⟨b, off, none⟩) m cap, .agg #[.int .i64 k, .string n, .string v], .int .i64 d] w fun e w' => e = .returned (.int .i64 (evF E m d ⟨k, n, v⟩)) ∧ Below w.heap.size w w' := by
  have HF : Hid (evF E m d ⟨k, n, v⟩ = 4) := evF_form (x := ⟨k, n, v⟩) (by show ¬ (k < 1 ∨ 5 < k); omega) h2
  obtain ⟨rfl, h2⟩ := h2
  by_cases h3 : k = 1
  · have h4 : 0 < m := by
      rcases h2 with h | h
      · exact absurd h3 h
      · exact h
    have h5 : (0 : Int) < (m : Int) := by omega
    subst h3
    clear h2
    go_enter Tryd.func18, Tryd.ntmps18
    go_wp2
    go_ret
    exact ⟨ret_int HF.out.symm, (Below.refl _ _).alloc (Nat.le_refl _) _⟩
  · have h4 : (k != 1) = true := by simpa using h3
    have h5 : (k == 1) = false := by simpa using h3
    clear h2 h3
    go_enter Tryd.func18, Tryd.ntmps18
    go_wp2
    go_ret
    exact ⟨ret_int HF.out.symm, (Below.refl _ _).alloc (Nat.le_refl _) _⟩

set_option maxHeartbeats 800000 in
theorem event_name (k : Int) (n v : ByteArray) (b off m cap d : Nat) (E : Nat → Ev) (w : World) (hm : m < 400) (hnl : n.size ≤ Go.maxLen) (h1 : 1 ≤ k) (h1' : k ≤ 5) (h2 : (0 < d) ∨ (d = 0 ∧ k = 1 ∧ m = 0)) (h3 : ¬ nameOfF ⟨k, n, v⟩ = 0) :
    Calls Tryd.prog 18 #[.slice (some ⟨b, off, none⟩) m cap, .agg #[.int .i64 k, .string n, .string v], .int .i64 d] w fun e w' => e = .returned (.int .i64 (evF E m d ⟨k, n, v⟩)) ∧ Below w.heap.size w w' := by
  have HF : Hid (evF E m d ⟨k, n, v⟩ = nameOfF ⟨k, n, v⟩) := evF_name (x := ⟨k, n, v⟩) (by show ¬ (k < 1 ∨ 5 < k); omega) (by show ¬ (d = 0 ∧ (k ≠ 1 ∨ 0 < m)); omega) h3
  have hne : (nameOfF ⟨k, n, v⟩ != 0) = true := by simpa using h3
  clear h3
  rcases h2 with h2 | ⟨rfl, rfl, rfl⟩
  · have hd : ((d : Int) == 0) = false := by simp; omega
    go_enter Tryd.func18, Tryd.ntmps18
    go_wp2_with (first | (go_at_call 30; refine (checkNameOf_any _ _ _ _ hnl).mono ?_; rintro e w1 ⟨rfl, hb1⟩; obtain ⟨hc1, hf1⟩ := bcell hb1))
    go_ret
    exact ⟨ret_int HF.out.symm, ((Below.refl _ _).alloc (Nat.le_refl _) _).trans (hb1.mono (by simp))⟩
  · go_enter Tryd.func18, Tryd.ntmps18
    go_wp2_with (first | (go_at_call 30; refine (checkNameOf_any _ _ _ _ hnl).mono ?_; rintro e w1 ⟨rfl, hb1⟩; obtain ⟨hc1, hf1⟩ := bcell hb1))
    go_ret
    exact ⟨ret_int HF.out.symm, ((Below.refl _ _).alloc (Nat.le_refl _) _).trans (hb1.mono (by simp))⟩

set_option maxHeartbeats 800000 in
theorem event_value (k : Int) (n v : ByteArray) (b off m cap d : Nat) (E : Nat → Ev) (w : World) (hm : m < 400) (hnl : n.size ≤ Go.maxLen) (hvl : v.size ≤ Go.maxLen) (henv : Env w) (hb0 : b < w.heap.size) (h1 : 1 ≤ k) (h1' : k ≤ 5) (h2 : (0 < d) ∨ (d = 0 ∧ k = 1 ∧ m = 0)) (h3 : nameOfF ⟨k, n, v⟩ = 0) (h4 : ¬ valueOfF ⟨k, n, v⟩ = 0) :
    Calls Tryd.prog 18 #[.slice (some ⟨b, off, none⟩) m cap, .agg #[.int .i64 k, .string n, .string v], .int .i64 d] w fun e w' => e = .returned (.int .i64 (evF E m d ⟨k, n, v⟩)) ∧ Below w.heap.size w w' := by
  have CV : Hid (∀ W, Below w.heap.size w W → Calls Tryd.prog 31 #[.agg #[.int .i64 k, .string n, .string v]] W fun e w' => e = .returned (.int .i64 (valueOfF ⟨k, n, v⟩)) ∧ Below W.heap.size W w') :=
    fun W hb => checkValueOf_any k n v W hvl (henv.below hb).tabs
  have HF : Hid (evF E m d ⟨k, n, v⟩ = valueOfF ⟨k, n, v⟩) := evF_value (x := ⟨k, n, v⟩) (by show ¬ (k < 1 ∨ 5 < k); omega) (by show ¬ (d = 0 ∧ (k ≠ 1 ∨ 0 < m)); omega) h3 h4
  have hne : (valueOfF ⟨k, n, v⟩ != 0) = true := by simpa using h4
  clear h4 henv
  rcases h2 with h2 | ⟨rfl, rfl, rfl⟩
  · have hd : ((d : Int) == 0) = false := by simp; omega
    go_enter Tryd.func18, Tryd.ntmps18
    go_wp2_with (first | (go_at_call 30; refine (checkNameOf_any _ _ _ _ hnl).mono ?_; rintro e w1 ⟨rfl, hb1⟩; obtain ⟨hc1, hf1⟩ := bcell hb1))
    have hw1 : Below w.heap.size w w1 := ((Below.refl _ _).alloc (Nat.le_refl _) _).trans (hb1.mono (by simp))
    have hz1 : w.heap.size < w1.heap.size := by have := hb1.size; simp at this; omega
    have hzb : b < w1.heap.size := by omega
    go_wp2_with (first | (go_at_call 31; refine (CV.out w1 hw1).mono ?_; rintro e w2 ⟨rfl, hb2⟩; obtain ⟨hc2, hf2⟩ := bcell hb2))
    go_ret
    exact ⟨ret_int HF.out.symm, hw1.trans (hb2.mono hw1.size)⟩
  · go_enter Tryd.func18, Tryd.ntmps18
    go_wp2_with (first | (go_at_call 30; refine (checkNameOf_any _ _ _ _ hnl).mono ?_; rintro e w1 ⟨rfl, hb1⟩; obtain ⟨hc1, hf1⟩ := bcell hb1))
    have hw1 : Below w.heap.size w w1 := ((Below.refl _ _).alloc (Nat.le_refl _) _).trans (hb1.mono (by simp))
    have hz1 : w.heap.size < w1.heap.size := by have := hb1.size; simp at this; omega
    have hzb : b < w1.heap.size := by omega
    go_wp2_with (first | (go_at_call 31; refine (CV.out w1 hw1).mono ?_; rintro e w2 ⟨rfl, hb2⟩; obtain ⟨hc2, hf2⟩ := bcell hb2))
    go_ret
    exact ⟨ret_int HF.out.symm, hw1.trans (hb2.mono hw1.size)⟩

set_option maxHeartbeats 800000 in
theorem event_start (n v : ByteArray) (b off m cap d : Nat) (E : Nat → Ev) (w : World) (hm : m < 400) (hnl : n.size ≤ Go.maxLen) (hvl : v.size ≤ Go.maxLen) (henv : Env w) (hb0 : b < w.heap.size) (h2 : (0 < d) ∨ (d = 0 ∧ (1 : Int) = 1 ∧ m = 0)) (h3 : nameOfF ⟨1, n, v⟩ = 0) (h4 : valueOfF ⟨1, n, v⟩ = 0) :
    Calls Tryd.prog 18 #[.slice (some ⟨b, off, none⟩) m cap, .agg #[Value.int .i64 1, .string n, .string v], .int .i64 d] w fun e w' => e = .returned (.int .i64 (evF E m d ⟨1, n, v⟩)) ∧ Below w.heap.size w w' := by
  have CV : Hid (∀ W, Below w.heap.size w W → Calls Tryd.prog 31 #[.agg #[Value.int .i64 1, .string n, .string v]] W fun e w' => e = .returned (.int .i64 (valueOfF ⟨1, n, v⟩)) ∧ Below W.heap.size W w') :=
    fun W hb => checkValueOf_any 1 n v W hvl (henv.below hb).tabs
  have HK := evF_kinds (E := E) (m := m) (d := d) (x := ⟨1, n, v⟩) (by show ¬ ((1 : Int) < 1 ∨ 5 < (1 : Int)); omega) (by show ¬ (d = 0 ∧ ((1 : Int) ≠ 1 ∨ 0 < m)); omega) h3 h4
  rcases h2 with h2 | ⟨rfl, _, rfl⟩
  · have hd : ((d : Int) == 0) = false := by simp; omega
    by_cases h5 : 20 ≤ d
    · have HF : Hid (evF E m d ⟨1, n, v⟩ = 8) := by
        have e : evF E m d ⟨1, n, v⟩ = 8 := by rw [HK]; simp [h5]
        exact e
      clear HK henv
      go_enter Tryd.func18, Tryd.ntmps18
      go_wp2_with (first | (go_at_call 30; refine (checkNameOf_any _ _ _ _ hnl).mono ?_; rintro e w1 ⟨rfl, hb1⟩; obtain ⟨hc1, hf1⟩ := bcell hb1))
      have hw1 : Below w.heap.size w w1 := ((Below.refl _ _).alloc (Nat.le_refl _) _).trans (hb1.mono (by simp))
      have hz1 : w.heap.size < w1.heap.size := by have := hb1.size; simp at this; omega
      have hzb : b < w1.heap.size := by omega
      go_wp2_with (first | (go_at_call 31; refine (CV.out w1 hw1).mono ?_; rintro e w2 ⟨rfl, hb2⟩; obtain ⟨hc2, hf2⟩ := bcell hb2))
      go_ret
      exact ⟨ret_int HF.out.symm, hw1.trans (hb2.mono hw1.size)⟩
    · have HF : Hid (evF E m d ⟨1, n, v⟩ = 0) := by
        have e : evF E m d ⟨1, n, v⟩ = 0 := by rw [HK]; simp [h5]
        exact e
      clear HK henv
      go_enter Tryd.func18, Tryd.ntmps18
      go_wp2_with (first | (go_at_call 30; refine (checkNameOf_any _ _ _ _ hnl).mono ?_; rintro e w1 ⟨rfl, hb1⟩; obtain ⟨hc1, hf1⟩ := bcell hb1))
      have hw1 : Below w.heap.size w w1 := ((Below.refl _ _).alloc (Nat.le_refl _) _).trans (hb1.mono (by simp))
      have hz1 : w.heap.size < w1.heap.size := by have := hb1.size; simp at this; omega
      have hzb : b < w1.heap.size := by omega
      go_wp2_with (first | (go_at_call 31; refine (CV.out w1 hw1).mono ?_; rintro e w2 ⟨rfl, hb2⟩; obtain ⟨hc2, hf2⟩ := bcell hb2))
      go_ret
      exact ⟨ret_int HF.out.symm, hw1.trans (hb2.mono hw1.size)⟩
  · have HF : Hid (evF E 0 0 ⟨1, n, v⟩ = 0) := by
      have e : evF E 0 0 ⟨1, n, v⟩ = 0 := by rw [HK]; simp
      exact e
    clear HK henv
    go_enter Tryd.func18, Tryd.ntmps18
    go_wp2_with (first | (go_at_call 30; refine (checkNameOf_any _ _ _ _ hnl).mono ?_; rintro e w1 ⟨rfl, hb1⟩; obtain ⟨hc1, hf1⟩ := bcell hb1))
    have hw1 : Below w.heap.size w w1 := ((Below.refl _ _).alloc (Nat.le_refl _) _).trans (hb1.mono (by simp))
    have hz1 : w.heap.size < w1.heap.size := by have := hb1.size; simp at this; omega
    have hzb : b < w1.heap.size := by omega
    go_wp2_with (first | (go_at_call 31; refine (CV.out w1 hw1).mono ?_; rintro e w2 ⟨rfl, hb2⟩; obtain ⟨hc2, hf2⟩ := bcell hb2))
    go_ret
    exact ⟨ret_int HF.out.symm, hw1.trans (hb2.mono hw1.size)⟩

set_option maxHeartbeats 800000 in
theorem event_end (n v : ByteArray) (b off m cap d : Nat) (E : Nat → Ev) (w : World) (hm : m < 400) (hnl : n.size ≤ Go.maxLen) (hvl : v.size ≤ Go.maxLen) (henv : Env w) (hb0 : b < w.heap.size) (h2 : 0 < d) (h3 : nameOfF ⟨5, n, v⟩ = 0) (h4 : valueOfF ⟨5, n, v⟩ = 0) :
    Calls Tryd.prog 18 #[.slice (some ⟨b, off, none⟩) m cap, .agg #[Value.int .i64 5, .string n, .string v], .int .i64 d] w fun e w' => e = .returned (.int .i64 (evF E m d ⟨5, n, v⟩)) ∧ Below w.heap.size w w' := by
  have CV : Hid (∀ W, Below w.heap.size w W → Calls Tryd.prog 31 #[.agg #[Value.int .i64 5, .string n, .string v]] W fun e w' => e = .returned (.int .i64 (valueOfF ⟨5, n, v⟩)) ∧ Below W.heap.size W w') :=
    fun W hb => checkValueOf_any 5 n v W hvl (henv.below hb).tabs
  have HF : Hid (evF E m d ⟨5, n, v⟩ = 0) := by
    have e : evF E m d ⟨5, n, v⟩ = 0 := by rw [evF_kinds (E := E) (m := m) (d := d) (x := ⟨5, n, v⟩) (by show ¬ ((5 : Int) < 1 ∨ 5 < (5 : Int)); omega) (by show ¬ (d = 0 ∧ ((5 : Int) ≠ 1 ∨ 0 < m)); omega) h3 h4]; simp
    exact e
  have hd : ((d : Int) == 0) = false := by simp; omega
  clear henv
  go_enter Tryd.func18, Tryd.ntmps18
  go_wp2_with (first | (go_at_call 30; refine (checkNameOf_any _ _ _ _ hnl).mono ?_; rintro e w1 ⟨rfl, hb1⟩; obtain ⟨hc1, hf1⟩ := bcell hb1))
  have hw1 : Below w.heap.size w w1 := ((Below.refl _ _).alloc (Nat.le_refl _) _).trans (hb1.mono (by simp))
  have hz1 : w.heap.size < w1.heap.size := by have := hb1.size; simp at this; omega
  have hzb : b < w1.heap.size := by omega
  go_wp2_with (first | (go_at_call 31; refine (CV.out w1 hw1).mono ?_; rintro e w2 ⟨rfl, hb2⟩; obtain ⟨hc2, hf2⟩ := bcell hb2))
  go_ret
  exact ⟨ret_int HF.out.symm, hw1.trans (hb2.mono hw1.size)⟩

set_option maxHeartbeats 800000 in
theorem event_attr (n v : ByteArray) (b off m cap d : Nat) (E : Nat → Ev) (w : World) (hm : m < 400) (hnl : n.size ≤ Go.maxLen) (hvl : v.size ≤ Go.maxLen) (henv : Env w) (hb0 : b < w.heap.size) (hE : EvsAt w b off m E) (hm0 : 0 < m) (h0 : (E 0).kind ≠ 2) (h2 : 0 < d) (h3 : nameOfF ⟨2, n, v⟩ = 0) (h4 : valueOfF ⟨2, n, v⟩ = 0) :
    Calls Tryd.prog 18 #[.slice (some ⟨b, off, none⟩) m cap, .agg #[Value.int .i64 2, .string n, .string v], .int .i64 d] w fun e w' => e = .returned (.int .i64 (evF E m d ⟨2, n, v⟩)) ∧ Below w.heap.size w w' := by
  have CV : Hid (∀ W, Below w.heap.size w W → Calls Tryd.prog 31 #[.agg #[Value.int .i64 2, .string n, .string v]] W fun e w' => e = .returned (.int .i64 (valueOfF ⟨2, n, v⟩)) ∧ Below W.heap.size W w') :=
    fun W hb => checkValueOf_any 2 n v W hvl (henv.below hb).tabs
  obtain ⟨q, rfl⟩ : ∃ q, m = q + 1 := ⟨m - 1, by omega⟩
  have CA : Hid (∀ W, Below w.heap.size w W → Calls Tryd.prog 32 #[.slice (some ⟨b, off, none⟩) (q + 1) cap, .agg #[.int .i64 2, .string n, .string v]] W fun e w' => e = .returned (.int .i64 (attrF E (q + 1) ⟨2, n, v⟩)) ∧ Below W.heap.size W w') :=
    fun W hb => checkAttr_any 2 n v b off q cap E W (by omega) (hE.below hb hb0) (Nat.lt_of_lt_of_le hb0 hb.size) h0
  have HF : Hid (evF E (q + 1) d ⟨2, n, v⟩ = attrF E (q + 1) ⟨2, n, v⟩) := by
    have e : evF E (q + 1) d ⟨2, n, v⟩ = attrF E (q + 1) ⟨2, n, v⟩ := by rw [evF_kinds (E := E) (m := q + 1) (d := d) (x := ⟨2, n, v⟩) (by show ¬ ((2 : Int) < 1 ∨ 5 < (2 : Int)); omega) (by show ¬ (d = 0 ∧ ((2 : Int) ≠ 1 ∨ 0 < q + 1)); omega) h3 h4]; simp
    exact e
  have hd : ((d : Int) == 0) = false := by simp; omega
  clear henv hE h0
  go_enter Tryd.func18, Tryd.ntmps18
  go_wp2_with (first | (go_at_call 30; refine (checkNameOf_any _ _ _ _ hnl).mono ?_; rintro e w1 ⟨rfl, hb1⟩; obtain ⟨hc1, hf1⟩ := bcell hb1))
  have hw1 : Below w.heap.size w w1 := ((Below.refl _ _).alloc (Nat.le_refl _) _).trans (hb1.mono (by simp))
  have hz1 : w.heap.size < w1.heap.size := by have := hb1.size; simp at this; omega
  have hzb : b < w1.heap.size := by omega
  go_wp2_with (first | (go_at_call 31; refine (CV.out w1 hw1).mono ?_; rintro e w2 ⟨rfl, hb2⟩; obtain ⟨hc2, hf2⟩ := bcell hb2))
  have hw2 : Below w.heap.size w w2 := hw1.trans (hb2.mono hw1.size)
  go_wp2_with (first | (go_at_call 32; refine (CA.out w2 hw2).mono ?_; rintro e w3 ⟨rfl, hb3⟩))
  go_ret
  exact ⟨ret_int HF.out.symm, hw2.trans (hb3.mono hw2.size)⟩

set_option maxHeartbeats 800000 in
theorem event_text (n v : ByteArray) (b off m cap d : Nat) (E : Nat → Ev) (w : World) (hm : m < 400) (hnl : n.size ≤ Go.maxLen) (hvl : v.size ≤ Go.maxLen) (henv : Env w) (hb0 : b < w.heap.size) (hE : EvsAt w b off m E) (hm0 : 0 < m) (h2 : 0 < d) (h3 : nameOfF ⟨3, n, v⟩ = 0) (h4 : valueOfF ⟨3, n, v⟩ = 0) :
    Calls Tryd.prog 18 #[.slice (some ⟨b, off, none⟩) m cap, .agg #[Value.int .i64 3, .string n, .string v], .int .i64 d] w fun e w' => e = .returned (.int .i64 (evF E m d ⟨3, n, v⟩)) ∧ Below w.heap.size w w' := by
  have CV : Hid (∀ W, Below w.heap.size w W → Calls Tryd.prog 31 #[.agg #[Value.int .i64 3, .string n, .string v]] W fun e w' => e = .returned (.int .i64 (valueOfF ⟨3, n, v⟩)) ∧ Below W.heap.size W w') :=
    fun W hb => checkValueOf_any 3 n v W hvl (henv.below hb).tabs
  obtain ⟨q, rfl⟩ : ∃ q, m = q + 1 := ⟨m - 1, by omega⟩
  obtain ⟨e1, e2, e3⟩ := hE q (by omega)
  have HK := evF_kinds (E := E) (m := q + 1) (d := d) (x := ⟨3, n, v⟩) (by show ¬ ((3 : Int) < 1 ∨ 5 < (3 : Int)); omega) (by show ¬ (d = 0 ∧ ((3 : Int) ≠ 1 ∨ 0 < q + 1)); omega) h3 h4
  have hd : ((d : Int) == 0) = false := by simp; omega
  clear henv hE
  by_cases h5 : v.size = 0
  · have HF : Hid (evF E (q + 1) d ⟨3, n, v⟩ = 4) := by
      have e : evF E (q + 1) d ⟨3, n, v⟩ = 4 := by rw [HK]; simp [h5]
      exact e
    have he := empty_of_size h5
    clear HK h5
    go_enter Tryd.func18, Tryd.ntmps18
    go_wp2_with (first | (go_at_call 30; refine (checkNameOf_any _ _ _ _ hnl).mono ?_; rintro e w1 ⟨rfl, hb1⟩; obtain ⟨hc1, hf1⟩ := bcell hb1))
    have hw1 : Below w.heap.size w w1 := ((Below.refl _ _).alloc (Nat.le_refl _) _).trans (hb1.mono (by simp))
    have hz1 : w.heap.size < w1.heap.size := by have := hb1.size; simp at this; omega
    have hzb : b < w1.heap.size := by omega
    go_wp2_with (first | (go_at_call 31; refine (CV.out w1 hw1).mono ?_; rintro e w2 ⟨rfl, hb2⟩; obtain ⟨hc2, hf2⟩ := bcell hb2))
    go_ret
    exact ⟨ret_int HF.out.symm, hw1.trans (hb2.mono hw1.size)⟩
  · have he := nonempty_of_size h5
    cases h6 : ((E q).kind == 3)
    · have HF : Hid (evF E (q + 1) d ⟨3, n, v⟩ = 0) := by
        have h7 : ¬ (E q).kind = 3 := by simpa using h6
        have e : evF E (q + 1) d ⟨3, n, v⟩ = 0 := by rw [HK]; simp [h5, h7]
        exact e
      clear HK h5
      go_enter Tryd.func18, Tryd.ntmps18
      go_wp2_with (first | (go_at_call 30; refine (checkNameOf_any _ _ _ _ hnl).mono ?_; rintro e w1 ⟨rfl, hb1⟩; obtain ⟨hc1, hf1⟩ := bcell hb1))
      have hw1 : Below w.heap.size w w1 := ((Below.refl _ _).alloc (Nat.le_refl _) _).trans (hb1.mono (by simp))
      have hz1 : w.heap.size < w1.heap.size := by have := hb1.size; simp at this; omega
      have hzb : b < w1.heap.size := by omega
      go_wp2_with (first | (go_at_call 31; refine (CV.out w1 hw1).mono ?_; rintro e w2 ⟨rfl, hb2⟩; obtain ⟨hc2, hf2⟩ := bcell hb2))
      go_ret
      exact ⟨ret_int HF.out.symm, hw1.trans (hb2.mono hw1.size)⟩
    · have HF : Hid (evF E (q + 1) d ⟨3, n, v⟩ = 4) := by
        have h7 : (E q).kind = 3 := by simpa using h6
        have e : evF E (q + 1) d ⟨3, n, v⟩ = 4 := by rw [HK]; simp [h7]
        exact e
      clear HK h5
      go_enter Tryd.func18, Tryd.ntmps18
      go_wp2_with (first | (go_at_call 30; refine (checkNameOf_any _ _ _ _ hnl).mono ?_; rintro e w1 ⟨rfl, hb1⟩; obtain ⟨hc1, hf1⟩ := bcell hb1))
      have hw1 : Below w.heap.size w w1 := ((Below.refl _ _).alloc (Nat.le_refl _) _).trans (hb1.mono (by simp))
      have hz1 : w.heap.size < w1.heap.size := by have := hb1.size; simp at this; omega
      have hzb : b < w1.heap.size := by omega
      go_wp2_with (first | (go_at_call 31; refine (CV.out w1 hw1).mono ?_; rintro e w2 ⟨rfl, hb2⟩; obtain ⟨hc2, hf2⟩ := bcell hb2))
      go_ret
      exact ⟨ret_int HF.out.symm, hw1.trans (hb2.mono hw1.size)⟩

set_option maxHeartbeats 800000 in
theorem event_comment (n v : ByteArray) (b off m cap d : Nat) (E : Nat → Ev) (w : World) (hm : m < 400) (hnl : n.size ≤ Go.maxLen) (hvl : v.size ≤ Go.maxLen) (henv : Env w) (hb0 : b < w.heap.size) (h2 : 0 < d) (h3 : nameOfF ⟨4, n, v⟩ = 0) (h4 : valueOfF ⟨4, n, v⟩ = 0) :
    Calls Tryd.prog 18 #[.slice (some ⟨b, off, none⟩) m cap, .agg #[Value.int .i64 4, .string n, .string v], .int .i64 d] w fun e w' => e = .returned (.int .i64 (evF E m d ⟨4, n, v⟩)) ∧ Below w.heap.size w w' := by
  have CV : Hid (∀ W, Below w.heap.size w W → Calls Tryd.prog 31 #[.agg #[Value.int .i64 4, .string n, .string v]] W fun e w' => e = .returned (.int .i64 (valueOfF ⟨4, n, v⟩)) ∧ Below W.heap.size W w') :=
    fun W hb => checkValueOf_any 4 n v W hvl (henv.below hb).tabs
  have hsz : v.size ≤ 20000 := by
    have h5 : textF v = 0 := by simpa [valueOfF, startEnd] using h4
    by_cases h6 : 20000 < v.size
    · rw [textF_size h6] at h5; exact absurd h5 (by decide)
    · omega
  have CC : Hid (∀ W, Below w.heap.size w W → Calls Tryd.prog 33 #[.string v, .string ⟨#[45, 45]⟩] W fun e w' => e = .returned (.bool (Lib.contains v.data.toList [45, 45])) ∧ w' = W) := fun W hb => by
    obtain ⟨mx, hmx⟩ := (henv.below hb).maxLen
    exact Tryd.strings_Contains v ⟨#[45, 45]⟩ mx W (by omega) hmx
  have CS : Hid (∀ W, Calls Tryd.prog 34 #[.string v, .string ⟨#[45]⟩] W fun e w' => e = .returned (.bool (Lib.hasSuffix v.data.toList [45])) ∧ w' = W) := fun W =>
    Tryd.strings_HasSuffix v ⟨#[45]⟩ W (by omega)
  have HK := evF_kinds (E := E) (m := m) (d := d) (x := ⟨4, n, v⟩) (by show ¬ ((4 : Int) < 1 ∨ 5 < (4 : Int)); omega) (by show ¬ (d = 0 ∧ ((4 : Int) ≠ 1 ∨ 0 < m)); omega) h3 h4
  have hd : ((d : Int) == 0) = false := by simp; omega
  clear henv
  generalize hA : Lib.contains v.data.toList [45, 45] = A at CC
  generalize hB : Lib.hasSuffix v.data.toList [45] = B at CS
  have HF : Hid (evF E m d ⟨4, n, v⟩ = if (A || B) = true then 4 else 0) := by
    have e : evF E m d ⟨4, n, v⟩ = if (A || B) = true then 4 else 0 := by rw [HK]; simp [commB, hA, hB]
    exact e
  clear HK hA hB
  cases A
  · cases B
    all_goals
      go_enter Tryd.func18, Tryd.ntmps18
      go_wp2_with (first | (go_at_call 30; refine (checkNameOf_any _ _ _ _ hnl).mono ?_; rintro e w1 ⟨rfl, hb1⟩; obtain ⟨hc1, hf1⟩ := bcell hb1))
      have hw1 : Below w.heap.size w w1 := ((Below.refl _ _).alloc (Nat.le_refl _) _).trans (hb1.mono (by simp))
      have hz1 : w.heap.size < w1.heap.size := by have := hb1.size; simp at this; omega
      have hzb : b < w1.heap.size := by omega
      go_wp2_with (first | (go_at_call 31; refine (CV.out w1 hw1).mono ?_; rintro e w2 ⟨rfl, hb2⟩; obtain ⟨hc2, hf2⟩ := bcell hb2))
      have hw2 : Below w.heap.size w w2 := hw1.trans (hb2.mono hw1.size)
      go_wp2_with (first | (go_at_call 33; refine (CC.out w2 hw2).mono ?_; rintro e w3 ⟨rfl, rfl⟩) | (go_at_call 34; refine (CS.out _).mono ?_; rintro e w4 ⟨rfl, rfl⟩))
      go_ret
      exact ⟨ret_int (by rw [HF.out]; rfl), hw2⟩
  · go_enter Tryd.func18, Tryd.ntmps18
    go_wp2_with (first | (go_at_call 30; refine (checkNameOf_any _ _ _ _ hnl).mono ?_; rintro e w1 ⟨rfl, hb1⟩; obtain ⟨hc1, hf1⟩ := bcell hb1))
    have hw1 : Below w.heap.size w w1 := ((Below.refl _ _).alloc (Nat.le_refl _) _).trans (hb1.mono (by simp))
    have hz1 : w.heap.size < w1.heap.size := by have := hb1.size; simp at this; omega
    have hzb : b < w1.heap.size := by omega
    go_wp2_with (first | (go_at_call 31; refine (CV.out w1 hw1).mono ?_; rintro e w2 ⟨rfl, hb2⟩; obtain ⟨hc2, hf2⟩ := bcell hb2))
    have hw2 : Below w.heap.size w w2 := hw1.trans (hb2.mono hw1.size)
    go_wp2_with (first | (go_at_call 33; refine (CC.out w2 hw2).mono ?_; rintro e w3 ⟨rfl, rfl⟩) | (go_at_call 34; refine (CS.out _).mono ?_; rintro e w4 ⟨rfl, rfl⟩))
    go_ret
    exact ⟨ret_int (by rw [HF.out]; rfl), hw2⟩
end Go.Proofs.YtoifdcipialciaaDoor
