/-
  CONTRACT: what is refused of an expression alone (core.checking's checkAlone): what brings names into scope.
-/
import Derived.Test.YtkhlfdnlpimojaaDoorCkScope
import Derived.Deep.QuietTactic
import Derived.BigQuiet
import Derived.Deep.RegionLaw
set_option linter.unusedVariables false
namespace Go.Proofs.YtkhlfdnlpimojaaDoor
set_option maxRecDepth 100000
open Go.RowKit Go.WideShapes

set_option maxHeartbeats 3200000 in
theorem checkAlone_4 (cb tb sb : Nat) (N : ByteArray → Nat) (l mk p : Nat) (b off : Nat) (it : It) (nm a : ByteArray) (n ax tk : Int) (tn : ByteArray) (sl : Option Addr) (m cap : Nat) (S : List ByteArray) (w : World) (h : CkS w cb tb sb N l mk p) (hN : ∀ x, N x = cntS S x) (hT : Tabs w) (hb : b < w.heap.size)
    (hh : HeadAt w b off 4 it nm a n ax tk tn (.slice sl m cap)) (hc : cntF 4 m = 0) :
    Calls Tryd.prog 51 #[.pointer (some ⟨cb, 0, none⟩), .pointer (some ⟨b, off, none⟩)] w fun e w' => e = .returned (.int .i64 (aloneF S 4 it nm a n ax tk m)) ∧ Below w.heap.size w w' := by
  have HA : Hid (∀ W, Calls Tryd.prog 67 #[.int .i64 4, .int .i64 m] W fun e w' => e = .returned (.int .i64 0) ∧ w' = W) := fun W => by
    have h1 := checkArgs_is 4 m W
    rw [hc] at h1
    exact h1
  have HO : Hid (∀ W : World, W.heap = w.heap → Calls Tryd.prog 55 #[.pointer (some ⟨b, off, none⟩)] W fun e w' => e = .returned (.string (atN 4 a)) ∧ w' = W) := fun W hW => atOf_is b off 4 it nm a n ax tk tn _ W (hh.keep (by rw [hW]))
  have HM : Hid (∀ W : World, Calls Tryd.prog 29 #[.string nm, .string (atN 4 a)] W fun e w' => e = .returned (.int .i64 (namesF nm (atN 4 a))) ∧ w' = W) := fun W => checkNames_is nm (atN 4 a) W hh.s2 (by unfold atN; split; (· exact Nat.zero_le _); exact hh.s3)
  obtain ⟨c0, c1, c2, c3, c4, f2, f3, f4⟩ := h.cells
  have d0 := hh.c0
  have d1 := hh.c1
  have d2 := hh.c2
  have d3 := hh.c3
  have d4 := hh.c4
  have d5 := hh.c5
  have d6 := hh.c6
  have d7 := hh.c7
  have d8 := hh.c8
  have d9 := hh.c9
  have d10 := hh.c10
  have hcb := h.lt
  have HR : Hid (aloneF S 4 it nm a n ax tk m = namesF nm (atN 4 a)) := (if_pos hc).trans (by simp [kindF])
  rw [HR.out]
  clear h hh HR c2 c3 c4 f2 f3 f4
  generalize namesF nm (atN 4 a) = R at *
  generalize atN 4 a = at' at *
  go_enter Tryd.func51, Tryd.ntmps51
  go_upto_region 1 with fail
  go_quiet ((go_at_call 67; exact Calls.quiet_of_same (HA.out _)))
  obtain ⟨W, hW⟩ : ∃ W, W = w.drewN nq := ⟨_, rfl⟩
  have hWh : W.heap = w.heap := by rw [hW]; rfl
  have hWc : ∀ x, W.cell? x = w.cell? x := fun x => by rw [hW]; rfl
  rw [← hWc] at c0 c1 d0 d1 d2 d3 d4 d5 d6 d7 d8 d9 d10
  rw [← hWh] at hcb hb
  rw [← hW]
  have HW : Hid (W = w.drewN nq) := hW
  clear hWc hW
  go_upto_region 12 with fail
  go_quiet ((first | (go_at_call 55; exact Calls.quiet_of_same (HO.out _ (by exact hWh))) | (go_at_call 29; exact Calls.quiet_of_same (HM.out _))))
  go_wp2
  go_ret
  have hW := HW.out
  subst hW
  exact ⟨rfl, rfl, rfl, rfl, Nat.le_refl _, fun _ _ => rfl⟩
set_option maxHeartbeats 3200000 in
theorem checkAlone_5 (cb tb sb : Nat) (N : ByteArray → Nat) (l mk p : Nat) (b off : Nat) (it : It) (nm a : ByteArray) (n ax tk : Int) (tn : ByteArray) (sl : Option Addr) (m cap : Nat) (S : List ByteArray) (w : World) (h : CkS w cb tb sb N l mk p) (hN : ∀ x, N x = cntS S x) (hT : Tabs w) (hb : b < w.heap.size)
    (hh : HeadAt w b off 5 it nm a n ax tk tn (.slice sl m cap)) (hc : cntF 5 m = 0) :
    Calls Tryd.prog 51 #[.pointer (some ⟨cb, 0, none⟩), .pointer (some ⟨b, off, none⟩)] w fun e w' => e = .returned (.int .i64 (aloneF S 5 it nm a n ax tk m)) ∧ Below w.heap.size w w' := by
  have HA : Hid (∀ W, Calls Tryd.prog 67 #[.int .i64 5, .int .i64 m] W fun e w' => e = .returned (.int .i64 0) ∧ w' = W) := fun W => by
    have h1 := checkArgs_is 5 m W
    rw [hc] at h1
    exact h1
  have HO : Hid (∀ W : World, W.heap = w.heap → Calls Tryd.prog 55 #[.pointer (some ⟨b, off, none⟩)] W fun e w' => e = .returned (.string (atN 5 a)) ∧ w' = W) := fun W hW => atOf_is b off 5 it nm a n ax tk tn _ W (hh.keep (by rw [hW]))
  have HM : Hid (∀ W : World, Calls Tryd.prog 29 #[.string nm, .string (atN 5 a)] W fun e w' => e = .returned (.int .i64 (namesF nm (atN 5 a))) ∧ w' = W) := fun W => checkNames_is nm (atN 5 a) W hh.s2 (by unfold atN; split; (· exact Nat.zero_le _); exact hh.s3)
  obtain ⟨c0, c1, c2, c3, c4, f2, f3, f4⟩ := h.cells
  have d0 := hh.c0
  have d1 := hh.c1
  have d2 := hh.c2
  have d3 := hh.c3
  have d4 := hh.c4
  have d5 := hh.c5
  have d6 := hh.c6
  have d7 := hh.c7
  have d8 := hh.c8
  have d9 := hh.c9
  have d10 := hh.c10
  have hcb := h.lt
  have HR : Hid (aloneF S 5 it nm a n ax tk m = namesF nm (atN 5 a)) := (if_pos hc).trans (by simp [kindF])
  rw [HR.out]
  clear h hh HR c2 c3 c4 f2 f3 f4
  generalize namesF nm (atN 5 a) = R at *
  generalize atN 5 a = at' at *
  go_enter Tryd.func51, Tryd.ntmps51
  go_upto_region 1 with fail
  go_quiet ((go_at_call 67; exact Calls.quiet_of_same (HA.out _)))
  obtain ⟨W, hW⟩ : ∃ W, W = w.drewN nq := ⟨_, rfl⟩
  have hWh : W.heap = w.heap := by rw [hW]; rfl
  have hWc : ∀ x, W.cell? x = w.cell? x := fun x => by rw [hW]; rfl
  rw [← hWc] at c0 c1 d0 d1 d2 d3 d4 d5 d6 d7 d8 d9 d10
  rw [← hWh] at hcb hb
  rw [← hW]
  have HW : Hid (W = w.drewN nq) := hW
  clear hWc hW
  go_upto_region 12 with fail
  go_quiet ((first | (go_at_call 55; exact Calls.quiet_of_same (HO.out _ (by exact hWh))) | (go_at_call 29; exact Calls.quiet_of_same (HM.out _))))
  go_wp2
  go_ret
  have hW := HW.out
  subst hW
  exact ⟨rfl, rfl, rfl, rfl, Nat.le_refl _, fun _ _ => rfl⟩
set_option maxHeartbeats 3200000 in
theorem checkAlone_6 (cb tb sb : Nat) (N : ByteArray → Nat) (l mk p : Nat) (b off : Nat) (it : It) (nm a : ByteArray) (n ax tk : Int) (tn : ByteArray) (sl : Option Addr) (m cap : Nat) (S : List ByteArray) (w : World) (h : CkS w cb tb sb N l mk p) (hN : ∀ x, N x = cntS S x) (hT : Tabs w) (hb : b < w.heap.size)
    (hh : HeadAt w b off 6 it nm a n ax tk tn (.slice sl m cap)) (hc : cntF 6 m = 0) :
    Calls Tryd.prog 51 #[.pointer (some ⟨cb, 0, none⟩), .pointer (some ⟨b, off, none⟩)] w fun e w' => e = .returned (.int .i64 (aloneF S 6 it nm a n ax tk m)) ∧ Below w.heap.size w w' := by
  have HA : Hid (∀ W, Calls Tryd.prog 67 #[.int .i64 6, .int .i64 m] W fun e w' => e = .returned (.int .i64 0) ∧ w' = W) := fun W => by
    have h1 := checkArgs_is 6 m W
    rw [hc] at h1
    exact h1
  have HO : Hid (∀ W : World, W.heap = w.heap → Calls Tryd.prog 55 #[.pointer (some ⟨b, off, none⟩)] W fun e w' => e = .returned (.string (atN 6 a)) ∧ w' = W) := fun W hW => atOf_is b off 6 it nm a n ax tk tn _ W (hh.keep (by rw [hW]))
  have HM : Hid (∀ W : World, Calls Tryd.prog 29 #[.string nm, .string (atN 6 a)] W fun e w' => e = .returned (.int .i64 (namesF nm (atN 6 a))) ∧ w' = W) := fun W => checkNames_is nm (atN 6 a) W hh.s2 (by unfold atN; split; (· exact Nat.zero_le _); exact hh.s3)
  obtain ⟨c0, c1, c2, c3, c4, f2, f3, f4⟩ := h.cells
  have d0 := hh.c0
  have d1 := hh.c1
  have d2 := hh.c2
  have d3 := hh.c3
  have d4 := hh.c4
  have d5 := hh.c5
  have d6 := hh.c6
  have d7 := hh.c7
  have d8 := hh.c8
  have d9 := hh.c9
  have d10 := hh.c10
  have hcb := h.lt
  have HR : Hid (aloneF S 6 it nm a n ax tk m = namesF nm (atN 6 a)) := (if_pos hc).trans (by simp [kindF])
  rw [HR.out]
  clear h hh HR c2 c3 c4 f2 f3 f4
  generalize namesF nm (atN 6 a) = R at *
  generalize atN 6 a = at' at *
  go_enter Tryd.func51, Tryd.ntmps51
  go_upto_region 1 with fail
  go_quiet ((go_at_call 67; exact Calls.quiet_of_same (HA.out _)))
  obtain ⟨W, hW⟩ : ∃ W, W = w.drewN nq := ⟨_, rfl⟩
  have hWh : W.heap = w.heap := by rw [hW]; rfl
  have hWc : ∀ x, W.cell? x = w.cell? x := fun x => by rw [hW]; rfl
  rw [← hWc] at c0 c1 d0 d1 d2 d3 d4 d5 d6 d7 d8 d9 d10
  rw [← hWh] at hcb hb
  rw [← hW]
  have HW : Hid (W = w.drewN nq) := hW
  clear hWc hW
  go_upto_region 12 with fail
  go_quiet ((first | (go_at_call 55; exact Calls.quiet_of_same (HO.out _ (by exact hWh))) | (go_at_call 29; exact Calls.quiet_of_same (HM.out _))))
  go_wp2
  go_ret
  have hW := HW.out
  subst hW
  exact ⟨rfl, rfl, rfl, rfl, Nat.le_refl _, fun _ _ => rfl⟩
end Go.Proofs.YtkhlfdnlpimojaaDoor
