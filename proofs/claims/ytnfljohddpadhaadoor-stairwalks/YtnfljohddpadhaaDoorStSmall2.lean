/-
  CONTRACTS of package axes: parents, ways up, tests.
-/
import Derived.Test.YtnfljohddpadhaaDoorStSmall
import Derived.Deep.QuietTactic
import Derived.BigQuiet
import Derived.WalkLawsBesides
import Derived.Outline
set_option linter.unusedVariables false
namespace Go.Proofs.YtnfljohddpadhaaDoor
set_option maxRecDepth 100000
open Go.RowKit Go.WideShapes

set_option maxHeartbeats 800000 in
theorem seeParent_is (la : Option Addr) (lb lo N lcap : Nat) (E : Nat → Nd) (ca : Option Addr) (K ccap M : Nat) (n : Nat) (S : Nat → Prop) (w : World) (t : Tr E N) (hw : Wk w la lb lo N lcap E) (hn : n < N) (hS : Seen w M S) :
    Calls Tryd.prog 33 #[.agg #[.slice la N lcap, .slice ca K ccap, .map (some M)], .int .i64 n] w fun e w' => e = .returned (.tuple #[]) ∧ Seen w' M (fun i => S i ∨ (E n).parent = i) ∧ Kept (fun c => c = M) w w' := by
  have hlt := hS.lt
  have hS1 : Seen (w.alloc (.cells #[.slice la N lcap, .slice ca K ccap, .map (some M)] 39)) M S := IMap.alloc hS _
  have CS := hidS (fun p hp => see_is la lb lo N lcap E ca K ccap M p S _ (by have := hw.n; omega) hS1 : ∀ p : Nat, p < N → _)
  have HS1 := hidS hS1
  have hup := t.up n hn
  obtain ⟨q1, q2, q3, q4, q5, q6⟩ := hw
  obtain rfl := q1 (by omega)
  obtain ⟨d0, d1, d2, d3, d4, d5⟩ := q6 n hn
  obtain ⟨s1, s2⟩ := t.sz n hn
  have hlb := q5 (by omega)
  have hni : (n : Int) < (N : Int) := by omega
  unfold maxLen at q4
  rw [s1] at d3
  rcases hup with hp | ⟨p, hp, hp1, hp2⟩
  · have HP := hidS hp
    rw [hp] at d5
    clear hS hS1 hp
    go_enter Tryd.func33, Tryd.ntmps33
    go_wp2_with fail
    first | go_end0 | refine bodyPost_ret (results_none rfl _ _ _) rfl ?_
    exact ⟨rfl, Seen.congr HS1.out (fun i => ⟨.inl, fun h => h.elim id (fun e => absurd (HP.out.symm.trans e) (by omega))⟩), Kept.alloc (Kept.refl _ _) _⟩
  · have HP := hidS hp
    rw [hp] at d5
    have CS1 := hidS (CS.out p (by omega))
    clear hS hS1 hp CS
    go_enter Tryd.func33, Tryd.ntmps33
    go_wp2_with (go_at_call 32; refine CS1.out.mono ?_; rintro e w1 ⟨rfl, hs1, hk1⟩; have HS2 := hidS hs1; have HK2 := hidS hk1; clear hs1 hk1)
    first | go_end0 | refine bodyPost_ret (results_none rfl _ _ _) rfl ?_
    exact ⟨rfl, Seen.congr HS2.out (fun i => ⟨fun h => h.elim .inl (fun e => .inr (by rw [HP.out, e])), fun h => h.elim .inl (fun e => .inr (by have := HP.out.symm.trans e; omega))⟩), (Kept.alloc (Kept.refl _ _) _).trans HK2.out⟩
/-- the node in whose row a node stands -/
def rowP (x : Nd) : Int := if x.kind = 2 then -1 else x.parent
set_option maxHeartbeats 800000 in
theorem rowOf_is (la : Option Addr) (lb lo N lcap : Nat) (E : Nat → Nd) (ca : Option Addr) (K ccap M : Nat) (n : Nat) (w : World) (t : Tr E N) (hw : Wk w la lb lo N lcap E) (hn : n < N) :
    Calls Tryd.prog 57 #[.agg #[.slice la N lcap, .slice ca K ccap, .map (some M)], .int .i64 n] w fun e w' => e = .returned (.int .i64 (rowP (E n))) ∧ Below w.heap.size w w' := by
  obtain ⟨q1, q2, q3, q4, q5, q6⟩ := hw
  obtain rfl := q1 (by omega)
  obtain ⟨d0, d1, d2, d3, d4, d5⟩ := q6 n hn
  obtain ⟨s1, s2⟩ := t.sz n hn
  have hlb := q5 (by omega)
  have hni : (n : Int) < (N : Int) := by omega
  unfold maxLen at q4
  rw [s1] at d3
  by_cases hk : (E n).kind = 2
  · have HR : Hid (rowP (E n) = -1) := by unfold rowP; rw [if_pos hk]; exact rfl
    rw [hk] at d0
    rw [HR.out]
    clear hk
    go_enter Tryd.func57, Tryd.ntmps57
    go_wp2
    go_ret
    exact ⟨rfl, (Below.refl _ _).alloc (Nat.le_refl _) _⟩
  · have HR : Hid (rowP (E n) = (E n).parent) := by unfold rowP; rw [if_neg hk]; exact rfl
    have hk' : ((E n).kind == 2) = false := by simpa using hk
    rw [HR.out]
    clear hk
    go_enter Tryd.func57, Tryd.ntmps57
    go_wp2
    go_ret
    exact ⟨rfl, (Below.refl _ _).alloc (Nat.le_refl _) _⟩
theorem beginsLast_is (a b : Int) (w : World) : Calls Tryd.prog 56 #[.int .i64 a, .int .i64 b] w fun e w' => e = .returned (.bool (decide (b < a))) ∧ w' = w := by
  by_cases h : b < a
  · rw [decide_eq_true h]
    go_enter Tryd.func56, Tryd.ntmps56
    go_wp2
    go_ret
    exact ⟨rfl, rfl⟩
  · rw [decide_eq_false h]
    go_enter Tryd.func56, Tryd.ntmps56
    go_wp2
    go_ret
    exact ⟨rfl, rfl⟩
theorem beginsFirst_is (a b : Int) (w : World) : Calls Tryd.prog 58 #[.int .i64 a, .int .i64 b] w fun e w' => e = .returned (.bool (decide (a < b))) ∧ w' = w := by
  by_cases h : a < b
  · rw [decide_eq_true h]
    go_enter Tryd.func58, Tryd.ntmps58
    go_wp2
    go_ret
    exact ⟨rfl, rfl⟩
  · rw [decide_eq_false h]
    go_enter Tryd.func58, Tryd.ntmps58
    go_wp2
    go_ret
    exact ⟨rfl, rfl⟩
/-- has it a name, on an axis? -/
def nmB (x : Nd) (axis : Int) : Bool := if axis = 12 then x.kind == 2 else x.kind == 1
set_option maxHeartbeats 800000 in
theorem isNamed_is (x : Nd) (axis : Int) (w : World) :
    Calls Tryd.prog 59 #[.agg #[.int .i64 x.kind, .string x.name, .string x.value, .int .i64 x.size, .int .i64 x.level, .int .i64 x.parent], .int .i64 axis] w fun e w' => e = .returned (.bool (nmB x axis)) ∧ Below w.heap.size w w' := by
  by_cases hk : axis = 12
  · have HR : Hid (nmB x axis = (x.kind == 2)) := by unfold nmB; rw [if_pos hk]; exact rfl
    rw [HR.out]
    subst hk
    cases hx : (x.kind == 2)
    all_goals
      go_enter Tryd.func59, Tryd.ntmps59
      go_wp2
      go_ret
      exact ⟨by first | rfl | rw [hx], (Below.refl _ _).alloc (Nat.le_refl _) _⟩
  · have HR : Hid (nmB x axis = (x.kind == 1)) := by unfold nmB; rw [if_neg hk]; exact rfl
    rw [HR.out]
    have hk' : (axis == 12) = false := by simpa using hk
    clear hk
    cases hx : (x.kind == 1)
    all_goals
      go_enter Tryd.func59, Tryd.ntmps59
      go_wp2
      go_ret
      exact ⟨by first | rfl | rw [hx], (Below.refl _ _).alloc (Nat.le_refl _) _⟩
/-- does a node meet a test? -/
def tmB (x : Nd) (axis tk : Int) (tn : ByteArray) : Bool :=
  if tk = 2 then x.kind == 3 else if tk = 3 then x.kind == 4 else if tk = 4 then nmB x axis && (x.name.toList == tn.toList) else if tk = 5 then nmB x axis else true
set_option maxHeartbeats 1600000 in
theorem meets_2 (x : Nd) (axis : Int) (tn : ByteArray) (w : World) (hx : x.name.size ≤ maxLen) (ht : tn.size ≤ maxLen) :
    Calls Tryd.prog 42 #[.agg #[.int .i64 x.kind, .string x.name, .string x.value, .int .i64 x.size, .int .i64 x.level, .int .i64 x.parent], .int .i64 axis, .agg #[.int .i64 2, .string tn]] w fun e w' => e = .returned (.bool (tmB x axis 2 tn)) ∧ Below w.heap.size w w' := by
  have HR : Hid (tmB x axis 2 tn = (x.kind == 3)) := by unfold tmB; rw [if_pos rfl]; exact rfl
  rw [HR.out]
  cases hc : (x.kind == 3)
  all_goals
    go_enter Tryd.func42, Tryd.ntmps42
    go_wp2
    go_ret
    exact ⟨by first | rfl | rw [hc], ((Below.refl _ _).alloc (Nat.le_refl _) _).alloc (by simp) _⟩
set_option maxHeartbeats 1600000 in
theorem meets_3 (x : Nd) (axis : Int) (tn : ByteArray) (w : World) (hx : x.name.size ≤ maxLen) (ht : tn.size ≤ maxLen) :
    Calls Tryd.prog 42 #[.agg #[.int .i64 x.kind, .string x.name, .string x.value, .int .i64 x.size, .int .i64 x.level, .int .i64 x.parent], .int .i64 axis, .agg #[.int .i64 3, .string tn]] w fun e w' => e = .returned (.bool (tmB x axis 3 tn)) ∧ Below w.heap.size w w' := by
  have HR : Hid (tmB x axis 3 tn = (x.kind == 4)) := by unfold tmB; rw [if_neg (by decide), if_pos rfl]; exact rfl
  rw [HR.out]
  cases hc : (x.kind == 4)
  all_goals
    go_enter Tryd.func42, Tryd.ntmps42
    go_wp2
    go_ret
    exact ⟨by first | rfl | rw [hc], ((Below.refl _ _).alloc (Nat.le_refl _) _).alloc (by simp) _⟩
set_option maxHeartbeats 1600000 in
theorem meets_4 (x : Nd) (axis : Int) (tn : ByteArray) (w : World) (hx : x.name.size ≤ maxLen) (ht : tn.size ≤ maxLen) :
    Calls Tryd.prog 42 #[.agg #[.int .i64 x.kind, .string x.name, .string x.value, .int .i64 x.size, .int .i64 x.level, .int .i64 x.parent], .int .i64 axis, .agg #[.int .i64 4, .string tn]] w fun e w' => e = .returned (.bool (tmB x axis 4 tn)) ∧ Below w.heap.size w w' := by
  have HR : Hid (tmB x axis 4 tn = (nmB x axis && (x.name.toList == tn.toList))) := by unfold tmB; rw [if_neg (by decide), if_neg (by decide), if_pos rfl]; exact rfl
  rw [HR.out]
  have CN : Hid (∀ W, Calls Tryd.prog 59 #[.agg #[.int .i64 x.kind, .string x.name, .string x.value, .int .i64 x.size, .int .i64 x.level, .int .i64 x.parent], .int .i64 axis] W fun e w' => e = .returned (.bool (nmB x axis)) ∧ Below W.heap.size W w') := fun W => isNamed_is x axis W
  generalize nmB x axis = nb at *
  cases nb
  · go_enter Tryd.func42, Tryd.ntmps42
    go_wp2_with (go_at_call 59; refine (CN.out _).mono ?_; rintro e w1 ⟨rfl, hb1⟩; have HB1 : Hid (Below w.heap.size w w1) := Below.trans (((Below.refl _ _).alloc (Nat.le_refl _) _).alloc (by simp) _) (hb1.mono (by simp; omega)); have e1 := (hb1.cell (p := ⟨w.heap.size, 1, none⟩) (by simp <;> omega)); have e2 := (hb1.cell (p := ⟨w.heap.size + 1, 1, none⟩) (by simp)); simp at e1 e2; clear hb1)
    go_ret
    exact ⟨rfl, HB1.out⟩
  · cases hc : (x.name.toList == tn.toList)
    all_goals
      go_enter Tryd.func42, Tryd.ntmps42
      go_wp2_with (go_at_call 59; refine (CN.out _).mono ?_; rintro e w1 ⟨rfl, hb1⟩; have HB1 : Hid (Below w.heap.size w w1) := Below.trans (((Below.refl _ _).alloc (Nat.le_refl _) _).alloc (by simp) _) (hb1.mono (by simp; omega)); have e1 := (hb1.cell (p := ⟨w.heap.size, 1, none⟩) (by simp <;> omega)); have e2 := (hb1.cell (p := ⟨w.heap.size + 1, 1, none⟩) (by simp)); simp at e1 e2; clear hb1)
      go_ret
      exact ⟨by first | rfl | simp [hc], HB1.out⟩
set_option maxHeartbeats 1600000 in
theorem meets_5 (x : Nd) (axis : Int) (tn : ByteArray) (w : World) (hx : x.name.size ≤ maxLen) (ht : tn.size ≤ maxLen) :
    Calls Tryd.prog 42 #[.agg #[.int .i64 x.kind, .string x.name, .string x.value, .int .i64 x.size, .int .i64 x.level, .int .i64 x.parent], .int .i64 axis, .agg #[.int .i64 5, .string tn]] w fun e w' => e = .returned (.bool (tmB x axis 5 tn)) ∧ Below w.heap.size w w' := by
  have HR : Hid (tmB x axis 5 tn = nmB x axis) := by unfold tmB; rw [if_neg (by decide), if_neg (by decide), if_neg (by decide), if_pos rfl]; exact rfl
  rw [HR.out]
  have CN : Hid (∀ W, Calls Tryd.prog 59 #[.agg #[.int .i64 x.kind, .string x.name, .string x.value, .int .i64 x.size, .int .i64 x.level, .int .i64 x.parent], .int .i64 axis] W fun e w' => e = .returned (.bool (nmB x axis)) ∧ Below W.heap.size W w') := fun W => isNamed_is x axis W
  generalize nmB x axis = nb at *
  go_enter Tryd.func42, Tryd.ntmps42
  go_wp2_with (go_at_call 59; refine (CN.out _).mono ?_; rintro e w1 ⟨rfl, hb1⟩; have HB1 : Hid (Below w.heap.size w w1) := Below.trans (((Below.refl _ _).alloc (Nat.le_refl _) _).alloc (by simp) _) (hb1.mono (by simp; omega)); have e1 := (hb1.cell (p := ⟨w.heap.size, 1, none⟩) (by simp <;> omega)); have e2 := (hb1.cell (p := ⟨w.heap.size + 1, 1, none⟩) (by simp)); simp at e1 e2; clear hb1)
  go_ret
  exact ⟨rfl, HB1.out⟩
set_option maxHeartbeats 1600000 in
theorem meets_1 (x : Nd) (axis : Int) (tn : ByteArray) (w : World) (hx : x.name.size ≤ maxLen) (ht : tn.size ≤ maxLen) :
    Calls Tryd.prog 42 #[.agg #[.int .i64 x.kind, .string x.name, .string x.value, .int .i64 x.size, .int .i64 x.level, .int .i64 x.parent], .int .i64 axis, .agg #[.int .i64 1, .string tn]] w fun e w' => e = .returned (.bool (tmB x axis 1 tn)) ∧ Below w.heap.size w w' := by
  have HR : Hid (tmB x axis 1 tn = true) := by unfold tmB; rw [if_neg (by decide), if_neg (by decide), if_neg (by decide), if_neg (by decide)]; exact rfl
  rw [HR.out]
  go_enter Tryd.func42, Tryd.ntmps42
  go_wp2
  go_ret
  exact ⟨rfl, ((Below.refl _ _).alloc (Nat.le_refl _) _).alloc (by simp) _⟩
theorem meets_is (x : Nd) (axis tk : Int) (tn : ByteArray) (w : World) (hx : x.name.size ≤ maxLen) (ht : tn.size ≤ maxLen) (h1 : 1 ≤ tk) (h5 : tk ≤ 5) :
    Calls Tryd.prog 42 #[.agg #[.int .i64 x.kind, .string x.name, .string x.value, .int .i64 x.size, .int .i64 x.level, .int .i64 x.parent], .int .i64 axis, .agg #[.int .i64 tk, .string tn]] w fun e w' => e = .returned (.bool (tmB x axis tk tn)) ∧ Below w.heap.size w w' := by
  obtain rfl | rfl | rfl | rfl | rfl : tk = 1 ∨ tk = 2 ∨ tk = 3 ∨ tk = 4 ∨ tk = 5 := by omega
  · exact meets_1 x axis tn w hx ht
  · exact meets_2 x axis tn w hx ht
  · exact meets_3 x axis tn w hx ht
  · exact meets_4 x axis tn w hx ht
  · exact meets_5 x axis tn w hx ht
set_option maxHeartbeats 800000 in
theorem top_is (la : Option Addr) (lb lo N lcap : Nat) (E : Nat → Nd) (ca : Option Addr) (K ccap M : Nat) (n r : Nat) (w : World) (t : Tr E N) (hw : Wk w la lb lo N lcap E) (hn : n < N) (hr : Rt E r n) :
    Calls Tryd.prog 77 #[.agg #[.slice la N lcap, .slice ca K ccap, .map (some M)], .int .i64 n] w fun e w' => e = .returned (.int .i64 r) ∧ Below w.heap.size w w' := by
  obtain ⟨q1, q2, q3, q4, q5, q6⟩ := hw
  obtain rfl := q1 (by omega)
  have hlb := q5 (by omega)
  have HE := hidS q6
  have HT := hidS t
  have HR := hidS hr
  unfold maxLen at q4
  clear q6 t hr q5 q1
  go_enter Tryd.func77, Tryd.ntmps77
  go_wp2
  go_loop [1] (fun v => ∃ m : Nat, v = .int .i64 m ∧ m < N ∧ An E r m) (fun v => (intOf v).toNat)
  case atStart => exact ⟨n, rfl, hn, HR.out.1⟩
  case round =>
    obtain ⟨m, rfl, hm, han⟩ := hrel
    have HAN := hidS han
    obtain ⟨d0, d1, d2, d3, d4, d5⟩ := HE.out m hm
    have hmi : (m : Int) < (N : Int) := by omega
    clear han
    rcases HT.out.up m hm with hp | ⟨p, hp, hp1, hp2⟩
    · rw [hp] at d5
      have HM : Hid (m = r) := by
        by_cases e : r = m
        · exact e.symm
        · obtain ⟨p, k1, _⟩ := An.parent HT.out hm HAN.out e
          omega
      clear hp
      go_wp2
      go_ret
      exact ⟨ret_int (by rw [HM.out]), (Below.refl _ _).alloc (Nat.le_refl _) _⟩
    · have HM : Hid (An E r p) := by
        have e : r ≠ m := by
          rintro rfl
          have := HR.out.2
          omega
        obtain ⟨p', k1, _, k2, _⟩ := An.parent HT.out hm HAN.out e
        obtain rfl : p' = p := by omega
        exact k2
      rw [hp] at d5
      clear hp
      go_wp2
      go_round
      case rel => exact ⟨p, rfl, by omega, HM.out⟩
      case measure => simp [intOf] <;> omega
end Go.Proofs.YtnfljohddpadhaaDoor
