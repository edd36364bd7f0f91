/-
  CONTRACT: what is refused of an expression alone (core.checking's checkAlone): none of its own, a Lit, a Var.
-/
import Derived.Test.YtkhlfdnlpimojaaDoorCkScope
import Derived.Deep.QuietTactic
import Derived.BigQuiet
import Derived.Deep.RegionLaw
set_option linter.unusedVariables false
namespace Go.Proofs.YtkhlfdnlpimojaaDoor
set_option maxRecDepth 100000
open Go.RowKit Go.WideShapes

set_option maxHeartbeats 3200000 in
theorem checkAlone_bad (cb tb sb : Nat) (N : ByteArray → Nat) (l mk p : Nat) (b off : Nat) (k : Int) (it : It) (nm a : ByteArray) (n ax tk : Int) (tn : ByteArray) (sl : Option Addr) (m cap : Nat) (S : List ByteArray) (w : World) (h : CkS w cb tb sb N l mk p) (hN : ∀ x, N x = cntS S x) (hT : Tabs w) (hb : b < w.heap.size)
    (hh : HeadAt w b off k it nm a n ax tk tn (.slice sl m cap)) (hc : cntF k m ≠ 0) :
    Calls Tryd.prog 51 #[.pointer (some ⟨cb, 0, none⟩), .pointer (some ⟨b, off, none⟩)] w fun e w' => e = .returned (.int .i64 (aloneF S k it nm a n ax tk m)) ∧ Below w.heap.size w w' := by
  have HA : Hid (∀ W, Calls Tryd.prog 67 #[.int .i64 k, .int .i64 m] W fun e w' => e = .returned (.int .i64 (cntF k m)) ∧ w' = W) := fun W => by
    have h1 := checkArgs_is k m W
    exact h1
  obtain ⟨c0, c1, c2, c3, c4, f2, f3, f4⟩ := h.cells
  have d0 := hh.c0
  have d1 := hh.c1
  have d2 := hh.c2
  have d3 := hh.c3
  have d4 := hh.c4
  have d5 := hh.c5
  have d6 := hh.c6
  have d7 := hh.c7
  have d8 := hh.c8
  have d9 := hh.c9
  have d10 := hh.c10
  have hcb := h.lt
  have HR : Hid (aloneF S k it nm a n ax tk m = cntF k m) := if_neg hc
  rw [HR.out]
  clear h hh HR c2 c3 c4 f2 f3 f4
  generalize cntF k m = C at *
  have hc1 : (C == 0) = false := by simpa using hc
  have hc2 : (C != 0) = true := by simpa using hc
  go_enter Tryd.func51, Tryd.ntmps51
  go_upto_region 1 with fail
  go_quiet ((go_at_call 67; exact Calls.quiet_of_same (HA.out _)))
  go_wp2
  go_ret
  exact ⟨rfl, rfl, rfl, rfl, Nat.le_refl _, fun _ _ => rfl⟩
set_option maxHeartbeats 3200000 in
theorem checkAlone_3 (cb tb sb : Nat) (N : ByteArray → Nat) (l mk p : Nat) (b off : Nat) (it : It) (nm a : ByteArray) (n ax tk : Int) (tn : ByteArray) (sl : Option Addr) (m cap : Nat) (S : List ByteArray) (w : World) (h : CkS w cb tb sb N l mk p) (hN : ∀ x, N x = cntS S x) (hT : Tabs w) (hb : b < w.heap.size)
    (hh : HeadAt w b off 3 it nm a n ax tk tn (.slice sl m cap)) (hc : cntF 3 m = 0) :
    Calls Tryd.prog 51 #[.pointer (some ⟨cb, 0, none⟩), .pointer (some ⟨b, off, none⟩)] w fun e w' => e = .returned (.int .i64 (aloneF S 3 it nm a n ax tk m)) ∧ Below w.heap.size w w' := by
  have HA : Hid (∀ W, Calls Tryd.prog 67 #[.int .i64 3, .int .i64 m] W fun e w' => e = .returned (.int .i64 0) ∧ w' = W) := fun W => by
    have h1 := checkArgs_is 3 m W
    rw [hc] at h1
    exact h1
  obtain ⟨c0, c1, c2, c3, c4, f2, f3, f4⟩ := h.cells
  have d0 := hh.c0
  have d1 := hh.c1
  have d2 := hh.c2
  have d3 := hh.c3
  have d4 := hh.c4
  have d5 := hh.c5
  have d6 := hh.c6
  have d7 := hh.c7
  have d8 := hh.c8
  have d9 := hh.c9
  have d10 := hh.c10
  have hcb := h.lt
  have HR : Hid (aloneF S 3 it nm a n ax tk m = 0) := (if_pos hc).trans (by simp [kindF])
  rw [HR.out]
  clear h hh HR c2 c3 c4 f2 f3 f4
  go_enter Tryd.func51, Tryd.ntmps51
  go_upto_region 1 with fail
  go_quiet ((go_at_call 67; exact Calls.quiet_of_same (HA.out _)))
  go_wp2
  go_ret
  exact ⟨rfl, rfl, rfl, rfl, Nat.le_refl _, fun _ _ => rfl⟩
set_option maxHeartbeats 3200000 in
theorem checkAlone_7 (cb tb sb : Nat) (N : ByteArray → Nat) (l mk p : Nat) (b off : Nat) (it : It) (nm a : ByteArray) (n ax tk : Int) (tn : ByteArray) (sl : Option Addr) (m cap : Nat) (S : List ByteArray) (w : World) (h : CkS w cb tb sb N l mk p) (hN : ∀ x, N x = cntS S x) (hT : Tabs w) (hb : b < w.heap.size)
    (hh : HeadAt w b off 7 it nm a n ax tk tn (.slice sl m cap)) (hc : cntF 7 m = 0) :
    Calls Tryd.prog 51 #[.pointer (some ⟨cb, 0, none⟩), .pointer (some ⟨b, off, none⟩)] w fun e w' => e = .returned (.int .i64 (aloneF S 7 it nm a n ax tk m)) ∧ Below w.heap.size w w' := by
  have HA : Hid (∀ W, Calls Tryd.prog 67 #[.int .i64 7, .int .i64 m] W fun e w' => e = .returned (.int .i64 0) ∧ w' = W) := fun W => by
    have h1 := checkArgs_is 7 m W
    rw [hc] at h1
    exact h1
  obtain ⟨c0, c1, c2, c3, c4, f2, f3, f4⟩ := h.cells
  have d0 := hh.c0
  have d1 := hh.c1
  have d2 := hh.c2
  have d3 := hh.c3
  have d4 := hh.c4
  have d5 := hh.c5
  have d6 := hh.c6
  have d7 := hh.c7
  have d8 := hh.c8
  have d9 := hh.c9
  have d10 := hh.c10
  have hcb := h.lt
  have HR : Hid (aloneF S 7 it nm a n ax tk m = 0) := (if_pos hc).trans (by simp [kindF])
  rw [HR.out]
  clear h hh HR c2 c3 c4 f2 f3 f4
  go_enter Tryd.func51, Tryd.ntmps51
  go_upto_region 1 with fail
  go_quiet ((go_at_call 67; exact Calls.quiet_of_same (HA.out _)))
  go_wp2
  go_ret
  exact ⟨rfl, rfl, rfl, rfl, Nat.le_refl _, fun _ _ => rfl⟩
set_option maxHeartbeats 3200000 in
theorem checkAlone_11 (cb tb sb : Nat) (N : ByteArray → Nat) (l mk p : Nat) (b off : Nat) (it : It) (nm a : ByteArray) (n ax tk : Int) (tn : ByteArray) (sl : Option Addr) (m cap : Nat) (S : List ByteArray) (w : World) (h : CkS w cb tb sb N l mk p) (hN : ∀ x, N x = cntS S x) (hT : Tabs w) (hb : b < w.heap.size)
    (hh : HeadAt w b off 11 it nm a n ax tk tn (.slice sl m cap)) (hc : cntF 11 m = 0) :
    Calls Tryd.prog 51 #[.pointer (some ⟨cb, 0, none⟩), .pointer (some ⟨b, off, none⟩)] w fun e w' => e = .returned (.int .i64 (aloneF S 11 it nm a n ax tk m)) ∧ Below w.heap.size w w' := by
  have HA : Hid (∀ W, Calls Tryd.prog 67 #[.int .i64 11, .int .i64 m] W fun e w' => e = .returned (.int .i64 0) ∧ w' = W) := fun W => by
    have h1 := checkArgs_is 11 m W
    rw [hc] at h1
    exact h1
  obtain ⟨c0, c1, c2, c3, c4, f2, f3, f4⟩ := h.cells
  have d0 := hh.c0
  have d1 := hh.c1
  have d2 := hh.c2
  have d3 := hh.c3
  have d4 := hh.c4
  have d5 := hh.c5
  have d6 := hh.c6
  have d7 := hh.c7
  have d8 := hh.c8
  have d9 := hh.c9
  have d10 := hh.c10
  have hcb := h.lt
  have HR : Hid (aloneF S 11 it nm a n ax tk m = 0) := (if_pos hc).trans (by simp [kindF])
  rw [HR.out]
  clear h hh HR c2 c3 c4 f2 f3 f4
  go_enter Tryd.func51, Tryd.ntmps51
  go_upto_region 1 with fail
  go_quiet ((go_at_call 67; exact Calls.quiet_of_same (HA.out _)))
  go_wp2
  go_ret
  exact ⟨rfl, rfl, rfl, rfl, Nat.le_refl _, fun _ _ => rfl⟩
set_option maxHeartbeats 3200000 in
theorem checkAlone_1 (cb tb sb : Nat) (N : ByteArray → Nat) (l mk p : Nat) (b off : Nat) (it : It) (nm a : ByteArray) (n ax tk : Int) (tn : ByteArray) (sl : Option Addr) (m cap : Nat) (S : List ByteArray) (w : World) (h : CkS w cb tb sb N l mk p) (hN : ∀ x, N x = cntS S x) (hT : Tabs w) (hb : b < w.heap.size)
    (hh : HeadAt w b off 1 it nm a n ax tk tn (.slice sl m cap)) (hc : cntF 1 m = 0) :
    Calls Tryd.prog 51 #[.pointer (some ⟨cb, 0, none⟩), .pointer (some ⟨b, off, none⟩)] w fun e w' => e = .returned (.int .i64 (aloneF S 1 it nm a n ax tk m)) ∧ Below w.heap.size w w' := by
  have HA : Hid (∀ W, Calls Tryd.prog 67 #[.int .i64 1, .int .i64 m] W fun e w' => e = .returned (.int .i64 0) ∧ w' = W) := fun W => by
    have h1 := checkArgs_is 1 m W
    rw [hc] at h1
    exact h1
  have HL : Hid (∀ W, Below w.heap.size w W → Calls Tryd.prog 23 #[.agg #[.int .i64 it.kind, .int .i64 it.n, .string it.s]] W fun e w' => e = .returned (.int .i64 (litF it)) ∧ Below W.heap.size W w') := fun W hW => checkLit_is it W hh.s1 (Utf8Tabs_below hT hW)
  obtain ⟨c0, c1, c2, c3, c4, f2, f3, f4⟩ := h.cells
  have d0 := hh.c0
  have d1 := hh.c1
  have d2 := hh.c2
  have d3 := hh.c3
  have d4 := hh.c4
  have d5 := hh.c5
  have d6 := hh.c6
  have d7 := hh.c7
  have d8 := hh.c8
  have d9 := hh.c9
  have d10 := hh.c10
  have hcb := h.lt
  have HR : Hid (aloneF S 1 it nm a n ax tk m = litF it) := (if_pos hc).trans (by simp [kindF])
  rw [HR.out]
  clear h hh HR c2 c3 c4 f2 f3 f4
  generalize litF it = R at *
  generalize it.kind = ik at *
  generalize it.n = jn at *
  generalize it.s = is at *
  go_enter Tryd.func51, Tryd.ntmps51
  go_upto_region 1 with fail
  go_quiet ((go_at_call 67; exact Calls.quiet_of_same (HA.out _)))
  go_wp2_with (go_at_call 23; refine Calls.mono (HL.out _ ?_) ?_; (· exact ⟨rfl, rfl, rfl, Nat.le_refl _, fun _ _ => rfl⟩); rintro e w1 ⟨rfl, hb1⟩; have HB1 : Hid (Below w.heap.size w w1) := (by exact ⟨hb1.os, hb1.tape, hb1.output, hb1.size, hb1.block⟩); clear hb1)
  go_ret
  exact ⟨rfl, HB1.out⟩
set_option maxHeartbeats 3200000 in
theorem checkAlone_2 (cb tb sb : Nat) (N : ByteArray → Nat) (l mk p : Nat) (b off : Nat) (it : It) (nm a : ByteArray) (n ax tk : Int) (tn : ByteArray) (sl : Option Addr) (m cap : Nat) (S : List ByteArray) (w : World) (h : CkS w cb tb sb N l mk p) (hN : ∀ x, N x = cntS S x) (hT : Tabs w) (hb : b < w.heap.size)
    (hh : HeadAt w b off 2 it nm a n ax tk tn (.slice sl m cap)) (hc : cntF 2 m = 0) :
    Calls Tryd.prog 51 #[.pointer (some ⟨cb, 0, none⟩), .pointer (some ⟨b, off, none⟩)] w fun e w' => e = .returned (.int .i64 (aloneF S 2 it nm a n ax tk m)) ∧ Below w.heap.size w w' := by
  have HA : Hid (∀ W, Calls Tryd.prog 67 #[.int .i64 2, .int .i64 m] W fun e w' => e = .returned (.int .i64 0) ∧ w' = W) := fun W => by
    have h1 := checkArgs_is 2 m W
    rw [hc] at h1
    exact h1
  have HS : Hid (∀ W : World, W.heap = w.heap → Calls Tryd.prog 24 #[.map (some sb), .string nm] W fun e w' => e = .returned (.int .i64 (if N nm = 0 then 6 else 0)) ∧ w' = W) := fun W hW => scheck_is sb N nm W hh.s2 (h.sc.keep (by rw [hW]))
  obtain ⟨c0, c1, c2, c3, c4, f2, f3, f4⟩ := h.cells
  have d0 := hh.c0
  have d1 := hh.c1
  have d2 := hh.c2
  have d3 := hh.c3
  have d4 := hh.c4
  have d5 := hh.c5
  have d6 := hh.c6
  have d7 := hh.c7
  have d8 := hh.c8
  have d9 := hh.c9
  have d10 := hh.c10
  have hcb := h.lt
  have HR : Hid (aloneF S 2 it nm a n ax tk m = (if N nm = 0 then 6 else 0)) := show aloneF S 2 it nm a n ax tk m = (if N nm = 0 then 6 else 0) by
    rw [show aloneF S 2 it nm a n ax tk m = (if hasB S nm = true then 0 else 6) from (if_pos hc).trans (by simp [kindF])]
    have h1 := cntS_has S nm
    rw [← hN nm] at h1
    by_cases h2 : N nm = 0
    · rw [if_pos h2, if_neg (fun h3 => h1.1 h3 h2)]
    · rw [if_neg h2, if_pos (h1.2 h2)]
  rw [HR.out]
  clear h hh HR c2 c3 c4 f2 f3 f4
  generalize (if N nm = 0 then (6 : Int) else 0) = R at *
  go_enter Tryd.func51, Tryd.ntmps51
  go_upto_region 1 with fail
  go_quiet ((go_at_call 67; exact Calls.quiet_of_same (HA.out _)))
  obtain ⟨W, hW⟩ : ∃ W, W = w.drewN nq := ⟨_, rfl⟩
  have hWh : W.heap = w.heap := by rw [hW]; rfl
  have hWc : ∀ x, W.cell? x = w.cell? x := fun x => by rw [hW]; rfl
  rw [← hWc] at c0 c1 d0 d1 d2 d3 d4 d5 d6 d7 d8 d9 d10
  rw [← hWh] at hcb hb
  rw [← hW]
  have HW : Hid (W = w.drewN nq) := hW
  clear hWc hW
  go_upto_region 8 with fail
  go_quiet ((go_at_call 24; exact Calls.quiet_of_same (HS.out _ (by exact hWh))))
  go_wp2
  go_ret
  have hW := HW.out
  subst hW
  exact ⟨rfl, rfl, rfl, rfl, Nat.le_refl _, fun _ _ => rfl⟩
end Go.Proofs.YtkhlfdnlpimojaaDoor
