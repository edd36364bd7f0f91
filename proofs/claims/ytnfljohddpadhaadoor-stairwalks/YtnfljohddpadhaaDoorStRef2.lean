/-
  CONTRACTS of the document's steps: testMeets, walkedAt.
-/
import Derived.Test.YtnfljohddpadhaaDoorStRef
import Derived.Test.YtnfljohddpadhaaDoorStCheck
import Derived.Deep.QuietTactic
import Derived.BigQuiet
import Derived.WalkLawsBesides
import Derived.Outline
import Derived.Deep.RegionHeld3
set_option linter.unusedVariables false
namespace Go.Proofs.YtnfljohddpadhaaDoor
set_option maxRecDepth 100000
open Go.RowKit Go.WideShapes

theorem onAxis_is (lb lo N lcap : Nat) (E : Nat → Nd) (n i : Nat) (axis : Int) (w : World) (t : Tr E N) (hN : N ≤ 100000) (hcap : N ≤ lcap) (hA : NdsAt w lb lo N E) (hn : n < N) (hi : i < N) (a1 : 1 ≤ axis) (a2 : axis ≤ 12) :
    Calls Tryd.prog 19 #[.slice (some ⟨lb, lo, none⟩) N lcap, .int .i64 (n : Int), .int .i64 axis, .int .i64 (i : Int)] w fun e w' => OnT w (onA E n axis i) e w' := by
  obtain rfl | rfl | rfl | rfl | rfl | rfl | rfl | rfl | rfl | rfl | rfl | rfl : axis = 1 ∨ axis = 2 ∨ axis = 3 ∨ axis = 4 ∨ axis = 5 ∨ axis = 6 ∨ axis = 7 ∨ axis = 8 ∨ axis = 9 ∨ axis = 10 ∨ axis = 11 ∨ axis = 12 := by omega
  · exact onAxis_1 lb lo N lcap E n i w t hN hcap hA hn hi
  · exact onAxis_2 lb lo N lcap E n i w t hN hcap hA hn hi
  · exact onAxis_3 lb lo N lcap E n i w t hN hcap hA hn hi
  · exact onAxis_4 lb lo N lcap E n i w t hN hcap hA hn hi
  · exact onAxis_5 lb lo N lcap E n i w t hN hcap hA hn hi
  · exact onAxis_6 lb lo N lcap E n i w t hN hcap hA hn hi
  · exact onAxis_7 lb lo N lcap E n i w t hN hcap hA hn hi
  · exact onAxis_8 lb lo N lcap E n i w t hN hcap hA hn hi
  · exact onAxis_9 lb lo N lcap E n i w t hN hcap hA hn hi
  · exact onAxis_10 lb lo N lcap E n i w t hN hcap hA hn hi
  · exact onAxis_11 lb lo N lcap E n i w t hN hcap hA hn hi
  · exact onAxis_12 lb lo N lcap E n i w t hN hcap hA hn hi
set_option maxHeartbeats 1600000 in
theorem testMeets_1 (x : Nd) (axis : Int) (tn : ByteArray) (w : World) (hx : x.name.size ≤ maxLen) (ht : tn.size ≤ maxLen) :
    Calls Tryd.prog 20 #[.agg #[.int .i64 x.kind, .string x.name, .string x.value, .int .i64 x.size, .int .i64 x.level, .int .i64 x.parent], .int .i64 axis, .agg #[.int .i64 1, .string tn]] w fun e w' => e = .returned (.bool (tmB x axis 1 tn)) ∧ Below w.heap.size w w' := by
  have HR : Hid (tmB x axis 1 tn = true) := by unfold tmB; rw [if_neg (by decide), if_neg (by decide), if_neg (by decide), if_neg (by decide)]; exact rfl
  rw [HR.out]
  have hnm : nmB x axis = (if axis = 12 then x.kind == 2 else x.kind == 1) := rfl
  by_cases ha : axis = 12
  · rw [if_pos ha] at hnm
    have ha' : (axis == 12) = true := by simpa using ha
    have HNM := hidS hnm
    clear hnm ha
    cases p1 : (x.kind == 2)
    all_goals
      cases p2 : (x.kind == 4)
      all_goals
        go_enter Tryd.func20, Tryd.ntmps20
        go_wp2_with fail
        go_ret
        exact ⟨by first | rfl | (rw [HNM.out, p1]; first | rfl | (rw [p2]; rfl) | simp [p2]) | (rw [p2]), ((Below.refl _ _).alloc (Nat.le_refl _) _).alloc (by simp) _⟩
  · rw [if_neg ha] at hnm
    have ha' : (axis == 12) = false := by simpa using ha
    have HNM := hidS hnm
    clear hnm ha
    cases p1 : (x.kind == 1)
    all_goals
      cases p2 : (x.kind == 4)
      all_goals
        go_enter Tryd.func20, Tryd.ntmps20
        go_wp2_with fail
        go_ret
        exact ⟨by first | rfl | (rw [HNM.out, p1]; first | rfl | (rw [p2]; rfl) | simp [p2]) | (rw [p2]), ((Below.refl _ _).alloc (Nat.le_refl _) _).alloc (by simp) _⟩
set_option maxHeartbeats 1600000 in
theorem testMeets_2 (x : Nd) (axis : Int) (tn : ByteArray) (w : World) (hx : x.name.size ≤ maxLen) (ht : tn.size ≤ maxLen) :
    Calls Tryd.prog 20 #[.agg #[.int .i64 x.kind, .string x.name, .string x.value, .int .i64 x.size, .int .i64 x.level, .int .i64 x.parent], .int .i64 axis, .agg #[.int .i64 2, .string tn]] w fun e w' => e = .returned (.bool (tmB x axis 2 tn)) ∧ Below w.heap.size w w' := by
  have HR : Hid (tmB x axis 2 tn = (x.kind == 3)) := by unfold tmB; rw [if_pos rfl]; exact rfl
  rw [HR.out]
  have hnm : nmB x axis = (if axis = 12 then x.kind == 2 else x.kind == 1) := rfl
  by_cases ha : axis = 12
  · rw [if_pos ha] at hnm
    have ha' : (axis == 12) = true := by simpa using ha
    have HNM := hidS hnm
    clear hnm ha
    cases p1 : (x.kind == 2)
    all_goals
      cases p2 : (x.kind == 3)
      all_goals
        go_enter Tryd.func20, Tryd.ntmps20
        go_wp2_with fail
        go_ret
        exact ⟨by first | rfl | (rw [HNM.out, p1]; first | rfl | (rw [p2]; rfl) | simp [p2]) | (rw [p2]), ((Below.refl _ _).alloc (Nat.le_refl _) _).alloc (by simp) _⟩
  · rw [if_neg ha] at hnm
    have ha' : (axis == 12) = false := by simpa using ha
    have HNM := hidS hnm
    clear hnm ha
    cases p1 : (x.kind == 1)
    all_goals
      cases p2 : (x.kind == 3)
      all_goals
        go_enter Tryd.func20, Tryd.ntmps20
        go_wp2_with fail
        go_ret
        exact ⟨by first | rfl | (rw [HNM.out, p1]; first | rfl | (rw [p2]; rfl) | simp [p2]) | (rw [p2]), ((Below.refl _ _).alloc (Nat.le_refl _) _).alloc (by simp) _⟩
set_option maxHeartbeats 1600000 in
theorem testMeets_3 (x : Nd) (axis : Int) (tn : ByteArray) (w : World) (hx : x.name.size ≤ maxLen) (ht : tn.size ≤ maxLen) :
    Calls Tryd.prog 20 #[.agg #[.int .i64 x.kind, .string x.name, .string x.value, .int .i64 x.size, .int .i64 x.level, .int .i64 x.parent], .int .i64 axis, .agg #[.int .i64 3, .string tn]] w fun e w' => e = .returned (.bool (tmB x axis 3 tn)) ∧ Below w.heap.size w w' := by
  have HR : Hid (tmB x axis 3 tn = (x.kind == 4)) := by unfold tmB; rw [if_neg (by decide), if_pos rfl]; exact rfl
  rw [HR.out]
  have hnm : nmB x axis = (if axis = 12 then x.kind == 2 else x.kind == 1) := rfl
  by_cases ha : axis = 12
  · rw [if_pos ha] at hnm
    have ha' : (axis == 12) = true := by simpa using ha
    have HNM := hidS hnm
    clear hnm ha
    cases p1 : (x.kind == 2)
    all_goals
      cases p2 : (x.kind == 4)
      all_goals
        go_enter Tryd.func20, Tryd.ntmps20
        go_wp2_with fail
        go_ret
        exact ⟨by first | rfl | (rw [HNM.out, p1]; first | rfl | (rw [p2]; rfl) | simp [p2]) | (rw [p2]), ((Below.refl _ _).alloc (Nat.le_refl _) _).alloc (by simp) _⟩
  · rw [if_neg ha] at hnm
    have ha' : (axis == 12) = false := by simpa using ha
    have HNM := hidS hnm
    clear hnm ha
    cases p1 : (x.kind == 1)
    all_goals
      cases p2 : (x.kind == 4)
      all_goals
        go_enter Tryd.func20, Tryd.ntmps20
        go_wp2_with fail
        go_ret
        exact ⟨by first | rfl | (rw [HNM.out, p1]; first | rfl | (rw [p2]; rfl) | simp [p2]) | (rw [p2]), ((Below.refl _ _).alloc (Nat.le_refl _) _).alloc (by simp) _⟩
set_option maxHeartbeats 1600000 in
theorem testMeets_4 (x : Nd) (axis : Int) (tn : ByteArray) (w : World) (hx : x.name.size ≤ maxLen) (ht : tn.size ≤ maxLen) :
    Calls Tryd.prog 20 #[.agg #[.int .i64 x.kind, .string x.name, .string x.value, .int .i64 x.size, .int .i64 x.level, .int .i64 x.parent], .int .i64 axis, .agg #[.int .i64 4, .string tn]] w fun e w' => e = .returned (.bool (tmB x axis 4 tn)) ∧ Below w.heap.size w w' := by
  have HR : Hid (tmB x axis 4 tn = (nmB x axis && (x.name.toList == tn.toList))) := by unfold tmB; rw [if_neg (by decide), if_neg (by decide), if_pos rfl]; exact rfl
  rw [HR.out]
  have hnm : nmB x axis = (if axis = 12 then x.kind == 2 else x.kind == 1) := rfl
  by_cases ha : axis = 12
  · rw [if_pos ha] at hnm
    have ha' : (axis == 12) = true := by simpa using ha
    have HNM := hidS hnm
    clear hnm ha
    cases p1 : (x.kind == 2)
    all_goals
      cases p2 : (x.name.toList == tn.toList)
      all_goals
        go_enter Tryd.func20, Tryd.ntmps20
        go_wp2_with fail
        go_ret
        exact ⟨by first | rfl | (rw [HNM.out, p1]; first | rfl | (rw [p2]; rfl) | simp [p2]) | (rw [p2]), ((Below.refl _ _).alloc (Nat.le_refl _) _).alloc (by simp) _⟩
  · rw [if_neg ha] at hnm
    have ha' : (axis == 12) = false := by simpa using ha
    have HNM := hidS hnm
    clear hnm ha
    cases p1 : (x.kind == 1)
    all_goals
      cases p2 : (x.name.toList == tn.toList)
      all_goals
        go_enter Tryd.func20, Tryd.ntmps20
        go_wp2_with fail
        go_ret
        exact ⟨by first | rfl | (rw [HNM.out, p1]; first | rfl | (rw [p2]; rfl) | simp [p2]) | (rw [p2]), ((Below.refl _ _).alloc (Nat.le_refl _) _).alloc (by simp) _⟩
set_option maxHeartbeats 1600000 in
theorem testMeets_5 (x : Nd) (axis : Int) (tn : ByteArray) (w : World) (hx : x.name.size ≤ maxLen) (ht : tn.size ≤ maxLen) :
    Calls Tryd.prog 20 #[.agg #[.int .i64 x.kind, .string x.name, .string x.value, .int .i64 x.size, .int .i64 x.level, .int .i64 x.parent], .int .i64 axis, .agg #[.int .i64 5, .string tn]] w fun e w' => e = .returned (.bool (tmB x axis 5 tn)) ∧ Below w.heap.size w w' := by
  have HR : Hid (tmB x axis 5 tn = nmB x axis) := by unfold tmB; rw [if_neg (by decide), if_neg (by decide), if_neg (by decide), if_pos rfl]; exact rfl
  rw [HR.out]
  have hnm : nmB x axis = (if axis = 12 then x.kind == 2 else x.kind == 1) := rfl
  by_cases ha : axis = 12
  · rw [if_pos ha] at hnm
    have ha' : (axis == 12) = true := by simpa using ha
    have HNM := hidS hnm
    clear hnm ha
    cases p1 : (x.kind == 2)
    all_goals
      cases p2 : (x.kind == 4)
      all_goals
        go_enter Tryd.func20, Tryd.ntmps20
        go_wp2_with fail
        go_ret
        exact ⟨by first | rfl | (rw [HNM.out, p1]; first | rfl | (rw [p2]; rfl) | simp [p2]) | (rw [p2]), ((Below.refl _ _).alloc (Nat.le_refl _) _).alloc (by simp) _⟩
  · rw [if_neg ha] at hnm
    have ha' : (axis == 12) = false := by simpa using ha
    have HNM := hidS hnm
    clear hnm ha
    cases p1 : (x.kind == 1)
    all_goals
      cases p2 : (x.kind == 4)
      all_goals
        go_enter Tryd.func20, Tryd.ntmps20
        go_wp2_with fail
        go_ret
        exact ⟨by first | rfl | (rw [HNM.out, p1]; first | rfl | (rw [p2]; rfl) | simp [p2]) | (rw [p2]), ((Below.refl _ _).alloc (Nat.le_refl _) _).alloc (by simp) _⟩
theorem testMeets_is (x : Nd) (axis tk : Int) (tn : ByteArray) (w : World) (hx : x.name.size ≤ maxLen) (ht : tn.size ≤ maxLen) (h1 : 1 ≤ tk) (h5 : tk ≤ 5) :
    Calls Tryd.prog 20 #[.agg #[.int .i64 x.kind, .string x.name, .string x.value, .int .i64 x.size, .int .i64 x.level, .int .i64 x.parent], .int .i64 axis, .agg #[.int .i64 tk, .string tn]] w fun e w' => e = .returned (.bool (tmB x axis tk tn)) ∧ Below w.heap.size w w' := by
  obtain rfl | rfl | rfl | rfl | rfl : tk = 1 ∨ tk = 2 ∨ tk = 3 ∨ tk = 4 ∨ tk = 5 := by omega
  · exact testMeets_1 x axis tn w hx ht
  · exact testMeets_2 x axis tn w hx ht
  · exact testMeets_3 x axis tn w hx ht
  · exact testMeets_4 x axis tn w hx ht
  · exact testMeets_5 x axis tn w hx ht
end Go.Proofs.YtnfljohddpadhaaDoor
