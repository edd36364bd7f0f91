/-
  CONTRACT: a look at an expression, and at all that is in it (core.checking's look).
-/
import Derived.Test.YtcbpjgnbdpfiiaaGreatDoorCkScope
import Derived.Deep.QuietTactic
import Derived.BigQuiet
import Derived.Deep.RegionLaw
set_option linter.unusedVariables false
namespace Go.Proofs.YtcbpjgnbdpfiiaaGreatDoor
set_option maxRecDepth 100000
open Go.RowKit Go.WideShapes

set_option maxHeartbeats 3200000 in
theorem checkAlone_bad (cb tb sb : Nat) (N : ByteArray → Nat) (l mk p : Nat) (b off : Nat) (k : Int) (it : It) (nm a : ByteArray) (n ax tk : Int) (tn : ByteArray) (sl : Option Addr) (m cap : Nat) (S : List ByteArray) (w : World) (h : CkS w cb tb sb N l mk p) (hN : ∀ x, N x = cntS S x) (hT : Tabs w) (hb : b < w.heap.size)
    (hh : HeadAt w b off k it nm a n ax tk tn (.slice sl m cap)) (hc : cntF k m ≠ 0) :
    Calls Tryz.prog 104 #[.pointer (some ⟨cb, 0, none⟩), .pointer (some ⟨b, off, none⟩)] w fun e w' => e = .returned (.int .i64 (aloneF S k it nm a n ax tk m)) ∧ Below w.heap.size w w' := by
  have HA : Hid (∀ W, Calls Tryz.prog 132 #[.int .i64 k, .int .i64 m] W fun e w' => e = .returned (.int .i64 (cntF k m)) ∧ w' = W) := fun W => by
    have h1 := checkArgs_is k m W
    exact h1
  obtain ⟨c0, c1, c2, c3, c4, f2, f3, f4⟩ := h.cells
  have d0 := hh.c0
  have d1 := hh.c1
  have d2 := hh.c2
  have d3 := hh.c3
  have d4 := hh.c4
  have d5 := hh.c5
  have d6 := hh.c6
  have d7 := hh.c7
  have d8 := hh.c8
  have d9 := hh.c9
  have d10 := hh.c10
  have hcb := h.lt
  have HR : Hid (aloneF S k it nm a n ax tk m = cntF k m) := if_neg hc
  rw [HR.out]
  clear h hh HR c2 c3 c4 f2 f3 f4
  generalize cntF k m = C at *
  have hc1 : (C == 0) = false := by simpa using hc
  have hc2 : (C != 0) = true := by simpa using hc
  go_enter Tryz.func104, Tryz.ntmps104
  go_upto_region 1 with fail
  go_quiet ((go_at_call 132; exact Calls.quiet_of_same (HA.out _)))
  go_wp2
  go_ret
  exact ⟨rfl, rfl, rfl, rfl, Nat.le_refl _, fun _ _ => rfl⟩
set_option maxHeartbeats 3200000 in
theorem checkAlone_3 (cb tb sb : Nat) (N : ByteArray → Nat) (l mk p : Nat) (b off : Nat) (it : It) (nm a : ByteArray) (n ax tk : Int) (tn : ByteArray) (sl : Option Addr) (m cap : Nat) (S : List ByteArray) (w : World) (h : CkS w cb tb sb N l mk p) (hN : ∀ x, N x = cntS S x) (hT : Tabs w) (hb : b < w.heap.size)
    (hh : HeadAt w b off 3 it nm a n ax tk tn (.slice sl m cap)) (hc : cntF 3 m = 0) :
    Calls Tryz.prog 104 #[.pointer (some ⟨cb, 0, none⟩), .pointer (some ⟨b, off, none⟩)] w fun e w' => e = .returned (.int .i64 (aloneF S 3 it nm a n ax tk m)) ∧ Below w.heap.size w w' := by
  have HA : Hid (∀ W, Calls Tryz.prog 132 #[.int .i64 3, .int .i64 m] W fun e w' => e = .returned (.int .i64 0) ∧ w' = W) := fun W => by
    have h1 := checkArgs_is 3 m W
    rw [hc] at h1
    exact h1
  obtain ⟨c0, c1, c2, c3, c4, f2, f3, f4⟩ := h.cells
  have d0 := hh.c0
  have d1 := hh.c1
  have d2 := hh.c2
  have d3 := hh.c3
  have d4 := hh.c4
  have d5 := hh.c5
  have d6 := hh.c6
  have d7 := hh.c7
  have d8 := hh.c8
  have d9 := hh.c9
  have d10 := hh.c10
  have hcb := h.lt
  have HR : Hid (aloneF S 3 it nm a n ax tk m = 0) := (if_pos hc).trans (by simp [kindF])
  rw [HR.out]
  clear h hh HR c2 c3 c4 f2 f3 f4
  go_enter Tryz.func104, Tryz.ntmps104
  go_upto_region 1 with fail
  go_quiet ((go_at_call 132; exact Calls.quiet_of_same (HA.out _)))
  go_wp2
  go_ret
  exact ⟨rfl, rfl, rfl, rfl, Nat.le_refl _, fun _ _ => rfl⟩
set_option maxHeartbeats 3200000 in
theorem checkAlone_7 (cb tb sb : Nat) (N : ByteArray → Nat) (l mk p : Nat) (b off : Nat) (it : It) (nm a : ByteArray) (n ax tk : Int) (tn : ByteArray) (sl : Option Addr) (m cap : Nat) (S : List ByteArray) (w : World) (h : CkS w cb tb sb N l mk p) (hN : ∀ x, N x = cntS S x) (hT : Tabs w) (hb : b < w.heap.size)
    (hh : HeadAt w b off 7 it nm a n ax tk tn (.slice sl m cap)) (hc : cntF 7 m = 0) :
    Calls Tryz.prog 104 #[.pointer (some ⟨cb, 0, none⟩), .pointer (some ⟨b, off, none⟩)] w fun e w' => e = .returned (.int .i64 (aloneF S 7 it nm a n ax tk m)) ∧ Below w.heap.size w w' := by
  have HA : Hid (∀ W, Calls Tryz.prog 132 #[.int .i64 7, .int .i64 m] W fun e w' => e = .returned (.int .i64 0) ∧ w' = W) := fun W => by
    have h1 := checkArgs_is 7 m W
    rw [hc] at h1
    exact h1
  obtain ⟨c0, c1, c2, c3, c4, f2, f3, f4⟩ := h.cells
  have d0 := hh.c0
  have d1 := hh.c1
  have d2 := hh.c2
  have d3 := hh.c3
  have d4 := hh.c4
  have d5 := hh.c5
  have d6 := hh.c6
  have d7 := hh.c7
  have d8 := hh.c8
  have d9 := hh.c9
  have d10 := hh.c10
  have hcb := h.lt
  have HR : Hid (aloneF S 7 it nm a n ax tk m = 0) := (if_pos hc).trans (by simp [kindF])
  rw [HR.out]
  clear h hh HR c2 c3 c4 f2 f3 f4
  go_enter Tryz.func104, Tryz.ntmps104
  go_upto_region 1 with fail
  go_quiet ((go_at_call 132; exact Calls.quiet_of_same (HA.out _)))
  go_wp2
  go_ret
  exact ⟨rfl, rfl, rfl, rfl, Nat.le_refl _, fun _ _ => rfl⟩
set_option maxHeartbeats 3200000 in
theorem checkAlone_11 (cb tb sb : Nat) (N : ByteArray → Nat) (l mk p : Nat) (b off : Nat) (it : It) (nm a : ByteArray) (n ax tk : Int) (tn : ByteArray) (sl : Option Addr) (m cap : Nat) (S : List ByteArray) (w : World) (h : CkS w cb tb sb N l mk p) (hN : ∀ x, N x = cntS S x) (hT : Tabs w) (hb : b < w.heap.size)
    (hh : HeadAt w b off 11 it nm a n ax tk tn (.slice sl m cap)) (hc : cntF 11 m = 0) :
    Calls Tryz.prog 104 #[.pointer (some ⟨cb, 0, none⟩), .pointer (some ⟨b, off, none⟩)] w fun e w' => e = .returned (.int .i64 (aloneF S 11 it nm a n ax tk m)) ∧ Below w.heap.size w w' := by
  have HA : Hid (∀ W, Calls Tryz.prog 132 #[.int .i64 11, .int .i64 m] W fun e w' => e = .returned (.int .i64 0) ∧ w' = W) := fun W => by
    have h1 := checkArgs_is 11 m W
    rw [hc] at h1
    exact h1
  obtain ⟨c0, c1, c2, c3, c4, f2, f3, f4⟩ := h.cells
  have d0 := hh.c0
  have d1 := hh.c1
  have d2 := hh.c2
  have d3 := hh.c3
  have d4 := hh.c4
  have d5 := hh.c5
  have d6 := hh.c6
  have d7 := hh.c7
  have d8 := hh.c8
  have d9 := hh.c9
  have d10 := hh.c10
  have hcb := h.lt
  have HR : Hid (aloneF S 11 it nm a n ax tk m = 0) := (if_pos hc).trans (by simp [kindF])
  rw [HR.out]
  clear h hh HR c2 c3 c4 f2 f3 f4
  go_enter Tryz.func104, Tryz.ntmps104
  go_upto_region 1 with fail
  go_quiet ((go_at_call 132; exact Calls.quiet_of_same (HA.out _)))
  go_wp2
  go_ret
  exact ⟨rfl, rfl, rfl, rfl, Nat.le_refl _, fun _ _ => rfl⟩
set_option maxHeartbeats 3200000 in
theorem checkAlone_1 (cb tb sb : Nat) (N : ByteArray → Nat) (l mk p : Nat) (b off : Nat) (it : It) (nm a : ByteArray) (n ax tk : Int) (tn : ByteArray) (sl : Option Addr) (m cap : Nat) (S : List ByteArray) (w : World) (h : CkS w cb tb sb N l mk p) (hN : ∀ x, N x = cntS S x) (hT : Tabs w) (hb : b < w.heap.size)
    (hh : HeadAt w b off 1 it nm a n ax tk tn (.slice sl m cap)) (hc : cntF 1 m = 0) :
    Calls Tryz.prog 104 #[.pointer (some ⟨cb, 0, none⟩), .pointer (some ⟨b, off, none⟩)] w fun e w' => e = .returned (.int .i64 (aloneF S 1 it nm a n ax tk m)) ∧ Below w.heap.size w w' := by
  have HA : Hid (∀ W, Calls Tryz.prog 132 #[.int .i64 1, .int .i64 m] W fun e w' => e = .returned (.int .i64 0) ∧ w' = W) := fun W => by
    have h1 := checkArgs_is 1 m W
    rw [hc] at h1
    exact h1
  have HL : Hid (∀ W, Below w.heap.size w W → Calls Tryz.prog 76 #[.agg #[.int .i64 it.kind, .int .i64 it.n, .string it.s]] W fun e w' => e = .returned (.int .i64 (litF it)) ∧ Below W.heap.size W w') := fun W hW => checkLit_is it W hh.s1 (Utf8Tabs_below hT hW)
  obtain ⟨c0, c1, c2, c3, c4, f2, f3, f4⟩ := h.cells
  have d0 := hh.c0
  have d1 := hh.c1
  have d2 := hh.c2
  have d3 := hh.c3
  have d4 := hh.c4
  have d5 := hh.c5
  have d6 := hh.c6
  have d7 := hh.c7
  have d8 := hh.c8
  have d9 := hh.c9
  have d10 := hh.c10
  have hcb := h.lt
  have HR : Hid (aloneF S 1 it nm a n ax tk m = litF it) := (if_pos hc).trans (by simp [kindF])
  rw [HR.out]
  clear h hh HR c2 c3 c4 f2 f3 f4
  generalize litF it = R at *
  generalize it.kind = ik at *
  generalize it.n = jn at *
  generalize it.s = is at *
  go_enter Tryz.func104, Tryz.ntmps104
  go_upto_region 1 with fail
  go_quiet ((go_at_call 132; exact Calls.quiet_of_same (HA.out _)))
  go_wp2_with (go_at_call 76; refine Calls.mono (HL.out _ ?_) ?_; (· exact ⟨rfl, rfl, rfl, Nat.le_refl _, fun _ _ => rfl⟩); rintro e w1 ⟨rfl, hb1⟩; have HB1 : Hid (Below w.heap.size w w1) := (by exact ⟨hb1.os, hb1.tape, hb1.output, hb1.size, hb1.block⟩); clear hb1)
  go_ret
  exact ⟨rfl, HB1.out⟩
set_option maxHeartbeats 3200000 in
theorem checkAlone_2 (cb tb sb : Nat) (N : ByteArray → Nat) (l mk p : Nat) (b off : Nat) (it : It) (nm a : ByteArray) (n ax tk : Int) (tn : ByteArray) (sl : Option Addr) (m cap : Nat) (S : List ByteArray) (w : World) (h : CkS w cb tb sb N l mk p) (hN : ∀ x, N x = cntS S x) (hT : Tabs w) (hb : b < w.heap.size)
    (hh : HeadAt w b off 2 it nm a n ax tk tn (.slice sl m cap)) (hc : cntF 2 m = 0) :
    Calls Tryz.prog 104 #[.pointer (some ⟨cb, 0, none⟩), .pointer (some ⟨b, off, none⟩)] w fun e w' => e = .returned (.int .i64 (aloneF S 2 it nm a n ax tk m)) ∧ Below w.heap.size w w' := by
  have HA : Hid (∀ W, Calls Tryz.prog 132 #[.int .i64 2, .int .i64 m] W fun e w' => e = .returned (.int .i64 0) ∧ w' = W) := fun W => by
    have h1 := checkArgs_is 2 m W
    rw [hc] at h1
    exact h1
  have HS : Hid (∀ W : World, W.heap = w.heap → Calls Tryz.prog 77 #[.map (some sb), .string nm] W fun e w' => e = .returned (.int .i64 (if N nm = 0 then 6 else 0)) ∧ w' = W) := fun W hW => scheck_is sb N nm W hh.s2 (h.sc.keep (by rw [hW]))
  obtain ⟨c0, c1, c2, c3, c4, f2, f3, f4⟩ := h.cells
  have d0 := hh.c0
  have d1 := hh.c1
  have d2 := hh.c2
  have d3 := hh.c3
  have d4 := hh.c4
  have d5 := hh.c5
  have d6 := hh.c6
  have d7 := hh.c7
  have d8 := hh.c8
  have d9 := hh.c9
  have d10 := hh.c10
  have hcb := h.lt
  have HR : Hid (aloneF S 2 it nm a n ax tk m = (if N nm = 0 then 6 else 0)) := show aloneF S 2 it nm a n ax tk m = (if N nm = 0 then 6 else 0) by
    rw [show aloneF S 2 it nm a n ax tk m = (if hasB S nm = true then 0 else 6) from (if_pos hc).trans (by simp [kindF])]
    have h1 := cntS_has S nm
    rw [← hN nm] at h1
    by_cases h2 : N nm = 0
    · rw [if_pos h2, if_neg (fun h3 => h1.1 h3 h2)]
    · rw [if_neg h2, if_pos (h1.2 h2)]
  rw [HR.out]
  clear h hh HR c2 c3 c4 f2 f3 f4
  generalize (if N nm = 0 then (6 : Int) else 0) = R at *
  go_enter Tryz.func104, Tryz.ntmps104
  go_upto_region 1 with fail
  go_quiet ((go_at_call 132; exact Calls.quiet_of_same (HA.out _)))
  obtain ⟨W, hW⟩ : ∃ W, W = w.drewN nq := ⟨_, rfl⟩
  have hWh : W.heap = w.heap := by rw [hW]; rfl
  have hWc : ∀ x, W.cell? x = w.cell? x := fun x => by rw [hW]; rfl
  rw [← hWc] at c0 c1 d0 d1 d2 d3 d4 d5 d6 d7 d8 d9 d10
  rw [← hWh] at hcb hb
  rw [← hW]
  have HW : Hid (W = w.drewN nq) := hW
  clear hWc hW
  go_upto_region 8 with fail
  go_quiet ((go_at_call 77; exact Calls.quiet_of_same (HS.out _ (by exact hWh))))
  go_wp2
  go_ret
  have hW := HW.out
  subst hW
  exact ⟨rfl, rfl, rfl, rfl, Nat.le_refl _, fun _ _ => rfl⟩
end Go.Proofs.YtcbpjgnbdpfiiaaGreatDoor
set_option linter.unusedVariables false
namespace Go.Proofs.YtcbpjgnbdpfiiaaGreatDoor
set_option maxRecDepth 100000
open Go.RowKit Go.WideShapes

set_option maxHeartbeats 3200000 in
theorem checkAlone_4 (cb tb sb : Nat) (N : ByteArray → Nat) (l mk p : Nat) (b off : Nat) (it : It) (nm a : ByteArray) (n ax tk : Int) (tn : ByteArray) (sl : Option Addr) (m cap : Nat) (S : List ByteArray) (w : World) (h : CkS w cb tb sb N l mk p) (hN : ∀ x, N x = cntS S x) (hT : Tabs w) (hb : b < w.heap.size)
    (hh : HeadAt w b off 4 it nm a n ax tk tn (.slice sl m cap)) (hc : cntF 4 m = 0) :
    Calls Tryz.prog 104 #[.pointer (some ⟨cb, 0, none⟩), .pointer (some ⟨b, off, none⟩)] w fun e w' => e = .returned (.int .i64 (aloneF S 4 it nm a n ax tk m)) ∧ Below w.heap.size w w' := by
  have HA : Hid (∀ W, Calls Tryz.prog 132 #[.int .i64 4, .int .i64 m] W fun e w' => e = .returned (.int .i64 0) ∧ w' = W) := fun W => by
    have h1 := checkArgs_is 4 m W
    rw [hc] at h1
    exact h1
  have HO : Hid (∀ W : World, W.heap = w.heap → Calls Tryz.prog 108 #[.pointer (some ⟨b, off, none⟩)] W fun e w' => e = .returned (.string (atN 4 a)) ∧ w' = W) := fun W hW => atOf_is b off 4 it nm a n ax tk tn _ W (hh.keep (by rw [hW]))
  have HM : Hid (∀ W : World, Calls Tryz.prog 82 #[.string nm, .string (atN 4 a)] W fun e w' => e = .returned (.int .i64 (namesF nm (atN 4 a))) ∧ w' = W) := fun W => checkNames_is nm (atN 4 a) W hh.s2 (by unfold atN; split; (· exact Nat.zero_le _); exact hh.s3)
  obtain ⟨c0, c1, c2, c3, c4, f2, f3, f4⟩ := h.cells
  have d0 := hh.c0
  have d1 := hh.c1
  have d2 := hh.c2
  have d3 := hh.c3
  have d4 := hh.c4
  have d5 := hh.c5
  have d6 := hh.c6
  have d7 := hh.c7
  have d8 := hh.c8
  have d9 := hh.c9
  have d10 := hh.c10
  have hcb := h.lt
  have HR : Hid (aloneF S 4 it nm a n ax tk m = namesF nm (atN 4 a)) := (if_pos hc).trans (by simp [kindF])
  rw [HR.out]
  clear h hh HR c2 c3 c4 f2 f3 f4
  generalize namesF nm (atN 4 a) = R at *
  generalize atN 4 a = at' at *
  go_enter Tryz.func104, Tryz.ntmps104
  go_upto_region 1 with fail
  go_quiet ((go_at_call 132; exact Calls.quiet_of_same (HA.out _)))
  obtain ⟨W, hW⟩ : ∃ W, W = w.drewN nq := ⟨_, rfl⟩
  have hWh : W.heap = w.heap := by rw [hW]; rfl
  have hWc : ∀ x, W.cell? x = w.cell? x := fun x => by rw [hW]; rfl
  rw [← hWc] at c0 c1 d0 d1 d2 d3 d4 d5 d6 d7 d8 d9 d10
  rw [← hWh] at hcb hb
  rw [← hW]
  have HW : Hid (W = w.drewN nq) := hW
  clear hWc hW
  go_upto_region 12 with fail
  go_quiet ((first | (go_at_call 108; exact Calls.quiet_of_same (HO.out _ (by exact hWh))) | (go_at_call 82; exact Calls.quiet_of_same (HM.out _))))
  go_wp2
  go_ret
  have hW := HW.out
  subst hW
  exact ⟨rfl, rfl, rfl, rfl, Nat.le_refl _, fun _ _ => rfl⟩
set_option maxHeartbeats 3200000 in
theorem checkAlone_5 (cb tb sb : Nat) (N : ByteArray → Nat) (l mk p : Nat) (b off : Nat) (it : It) (nm a : ByteArray) (n ax tk : Int) (tn : ByteArray) (sl : Option Addr) (m cap : Nat) (S : List ByteArray) (w : World) (h : CkS w cb tb sb N l mk p) (hN : ∀ x, N x = cntS S x) (hT : Tabs w) (hb : b < w.heap.size)
    (hh : HeadAt w b off 5 it nm a n ax tk tn (.slice sl m cap)) (hc : cntF 5 m = 0) :
    Calls Tryz.prog 104 #[.pointer (some ⟨cb, 0, none⟩), .pointer (some ⟨b, off, none⟩)] w fun e w' => e = .returned (.int .i64 (aloneF S 5 it nm a n ax tk m)) ∧ Below w.heap.size w w' := by
  have HA : Hid (∀ W, Calls Tryz.prog 132 #[.int .i64 5, .int .i64 m] W fun e w' => e = .returned (.int .i64 0) ∧ w' = W) := fun W => by
    have h1 := checkArgs_is 5 m W
    rw [hc] at h1
    exact h1
  have HO : Hid (∀ W : World, W.heap = w.heap → Calls Tryz.prog 108 #[.pointer (some ⟨b, off, none⟩)] W fun e w' => e = .returned (.string (atN 5 a)) ∧ w' = W) := fun W hW => atOf_is b off 5 it nm a n ax tk tn _ W (hh.keep (by rw [hW]))
  have HM : Hid (∀ W : World, Calls Tryz.prog 82 #[.string nm, .string (atN 5 a)] W fun e w' => e = .returned (.int .i64 (namesF nm (atN 5 a))) ∧ w' = W) := fun W => checkNames_is nm (atN 5 a) W hh.s2 (by unfold atN; split; (· exact Nat.zero_le _); exact hh.s3)
  obtain ⟨c0, c1, c2, c3, c4, f2, f3, f4⟩ := h.cells
  have d0 := hh.c0
  have d1 := hh.c1
  have d2 := hh.c2
  have d3 := hh.c3
  have d4 := hh.c4
  have d5 := hh.c5
  have d6 := hh.c6
  have d7 := hh.c7
  have d8 := hh.c8
  have d9 := hh.c9
  have d10 := hh.c10
  have hcb := h.lt
  have HR : Hid (aloneF S 5 it nm a n ax tk m = namesF nm (atN 5 a)) := (if_pos hc).trans (by simp [kindF])
  rw [HR.out]
  clear h hh HR c2 c3 c4 f2 f3 f4
  generalize namesF nm (atN 5 a) = R at *
  generalize atN 5 a = at' at *
  go_enter Tryz.func104, Tryz.ntmps104
  go_upto_region 1 with fail
  go_quiet ((go_at_call 132; exact Calls.quiet_of_same (HA.out _)))
  obtain ⟨W, hW⟩ : ∃ W, W = w.drewN nq := ⟨_, rfl⟩
  have hWh : W.heap = w.heap := by rw [hW]; rfl
  have hWc : ∀ x, W.cell? x = w.cell? x := fun x => by rw [hW]; rfl
  rw [← hWc] at c0 c1 d0 d1 d2 d3 d4 d5 d6 d7 d8 d9 d10
  rw [← hWh] at hcb hb
  rw [← hW]
  have HW : Hid (W = w.drewN nq) := hW
  clear hWc hW
  go_upto_region 12 with fail
  go_quiet ((first | (go_at_call 108; exact Calls.quiet_of_same (HO.out _ (by exact hWh))) | (go_at_call 82; exact Calls.quiet_of_same (HM.out _))))
  go_wp2
  go_ret
  have hW := HW.out
  subst hW
  exact ⟨rfl, rfl, rfl, rfl, Nat.le_refl _, fun _ _ => rfl⟩
set_option maxHeartbeats 3200000 in
theorem checkAlone_6 (cb tb sb : Nat) (N : ByteArray → Nat) (l mk p : Nat) (b off : Nat) (it : It) (nm a : ByteArray) (n ax tk : Int) (tn : ByteArray) (sl : Option Addr) (m cap : Nat) (S : List ByteArray) (w : World) (h : CkS w cb tb sb N l mk p) (hN : ∀ x, N x = cntS S x) (hT : Tabs w) (hb : b < w.heap.size)
    (hh : HeadAt w b off 6 it nm a n ax tk tn (.slice sl m cap)) (hc : cntF 6 m = 0) :
    Calls Tryz.prog 104 #[.pointer (some ⟨cb, 0, none⟩), .pointer (some ⟨b, off, none⟩)] w fun e w' => e = .returned (.int .i64 (aloneF S 6 it nm a n ax tk m)) ∧ Below w.heap.size w w' := by
  have HA : Hid (∀ W, Calls Tryz.prog 132 #[.int .i64 6, .int .i64 m] W fun e w' => e = .returned (.int .i64 0) ∧ w' = W) := fun W => by
    have h1 := checkArgs_is 6 m W
    rw [hc] at h1
    exact h1
  have HO : Hid (∀ W : World, W.heap = w.heap → Calls Tryz.prog 108 #[.pointer (some ⟨b, off, none⟩)] W fun e w' => e = .returned (.string (atN 6 a)) ∧ w' = W) := fun W hW => atOf_is b off 6 it nm a n ax tk tn _ W (hh.keep (by rw [hW]))
  have HM : Hid (∀ W : World, Calls Tryz.prog 82 #[.string nm, .string (atN 6 a)] W fun e w' => e = .returned (.int .i64 (namesF nm (atN 6 a))) ∧ w' = W) := fun W => checkNames_is nm (atN 6 a) W hh.s2 (by unfold atN; split; (· exact Nat.zero_le _); exact hh.s3)
  obtain ⟨c0, c1, c2, c3, c4, f2, f3, f4⟩ := h.cells
  have d0 := hh.c0
  have d1 := hh.c1
  have d2 := hh.c2
  have d3 := hh.c3
  have d4 := hh.c4
  have d5 := hh.c5
  have d6 := hh.c6
  have d7 := hh.c7
  have d8 := hh.c8
  have d9 := hh.c9
  have d10 := hh.c10
  have hcb := h.lt
  have HR : Hid (aloneF S 6 it nm a n ax tk m = namesF nm (atN 6 a)) := (if_pos hc).trans (by simp [kindF])
  rw [HR.out]
  clear h hh HR c2 c3 c4 f2 f3 f4
  generalize namesF nm (atN 6 a) = R at *
  generalize atN 6 a = at' at *
  go_enter Tryz.func104, Tryz.ntmps104
  go_upto_region 1 with fail
  go_quiet ((go_at_call 132; exact Calls.quiet_of_same (HA.out _)))
  obtain ⟨W, hW⟩ : ∃ W, W = w.drewN nq := ⟨_, rfl⟩
  have hWh : W.heap = w.heap := by rw [hW]; rfl
  have hWc : ∀ x, W.cell? x = w.cell? x := fun x => by rw [hW]; rfl
  rw [← hWc] at c0 c1 d0 d1 d2 d3 d4 d5 d6 d7 d8 d9 d10
  rw [← hWh] at hcb hb
  rw [← hW]
  have HW : Hid (W = w.drewN nq) := hW
  clear hWc hW
  go_upto_region 12 with fail
  go_quiet ((first | (go_at_call 108; exact Calls.quiet_of_same (HO.out _ (by exact hWh))) | (go_at_call 82; exact Calls.quiet_of_same (HM.out _))))
  go_wp2
  go_ret
  have hW := HW.out
  subst hW
  exact ⟨rfl, rfl, rfl, rfl, Nat.le_refl _, fun _ _ => rfl⟩
end Go.Proofs.YtcbpjgnbdpfiiaaGreatDoor
set_option linter.unusedVariables false
namespace Go.Proofs.YtcbpjgnbdpfiiaaGreatDoor
set_option maxRecDepth 100000
open Go.RowKit Go.WideShapes

set_option maxHeartbeats 3200000 in
theorem checkAlone_8 (cb tb sb : Nat) (N : ByteArray → Nat) (l mk p : Nat) (b off : Nat) (it : It) (nm a : ByteArray) (n ax tk : Int) (tn : ByteArray) (sl : Option Addr) (m cap : Nat) (S : List ByteArray) (w : World) (h : CkS w cb tb sb N l mk p) (hN : ∀ x, N x = cntS S x) (hT : Tabs w) (hb : b < w.heap.size)
    (hh : HeadAt w b off 8 it nm a n ax tk tn (.slice sl m cap)) (hc : cntF 8 m = 0) :
    Calls Tryz.prog 104 #[.pointer (some ⟨cb, 0, none⟩), .pointer (some ⟨b, off, none⟩)] w fun e w' => e = .returned (.int .i64 (aloneF S 8 it nm a n ax tk m)) ∧ Below w.heap.size w w' := by
  have HA : Hid (∀ W, Calls Tryz.prog 132 #[.int .i64 8, .int .i64 m] W fun e w' => e = .returned (.int .i64 0) ∧ w' = W) := fun W => by
    have h1 := checkArgs_is 8 m W
    rw [hc] at h1
    exact h1
  have HX : Hid (∀ W : World, (∀ c, c < w.heap.size → W.heap[c]? = w.heap[c]?) → Calls Tryz.prog 80 #[.map (some tb), .string nm, .int .i64 m] W fun e w' => e = .returned (.int .i64 (callF nm m)) ∧ Below W.heap.size W w') := fun W hW => tcheck_is tb nm m W hh.s2 (h.tab.keep (hW _ h.tab.lt))
  obtain ⟨c0, c1, c2, c3, c4, f2, f3, f4⟩ := h.cells
  have d0 := hh.c0
  have d1 := hh.c1
  have d2 := hh.c2
  have d3 := hh.c3
  have d4 := hh.c4
  have d5 := hh.c5
  have d6 := hh.c6
  have d7 := hh.c7
  have d8 := hh.c8
  have d9 := hh.c9
  have d10 := hh.c10
  have hcb := h.lt
  have HR : Hid (aloneF S 8 it nm a n ax tk m = callF nm m) := (if_pos hc).trans (by simp [kindF])
  rw [HR.out]
  clear h hh HR c2 c3 c4 f2 f3 f4
  generalize callF nm m = R at *
  go_enter Tryz.func104, Tryz.ntmps104
  go_upto_region 1 with fail
  go_quiet ((go_at_call 132; exact Calls.quiet_of_same (HA.out _)))
  go_upto_region 14 with fail
  go_region_with (go_at_call 80; refine Calls.mono (HX.out _ ?_) ?_; (· exact fun c hc => rfl); rintro e w1 ⟨rfl, hb1⟩; have HB1 : Hid (Below w.heap.size w w1) := (by exact ⟨hb1.os, hb1.tape, hb1.output, hb1.size, hb1.block⟩); clear hb1)
  all_goals
    go_wp2
    go_ret
    exact ⟨rfl, HB1.out⟩
end Go.Proofs.YtcbpjgnbdpfiiaaGreatDoor
set_option linter.unusedVariables false
namespace Go.Proofs.YtcbpjgnbdpfiiaaGreatDoor
set_option maxRecDepth 100000
open Go.RowKit Go.WideShapes

set_option maxHeartbeats 3200000 in
theorem checkAlone_9 (cb tb sb : Nat) (N : ByteArray → Nat) (l mk p : Nat) (b off : Nat) (it : It) (nm a : ByteArray) (n ax tk : Int) (tn : ByteArray) (sl : Option Addr) (m cap : Nat) (S : List ByteArray) (w : World) (h : CkS w cb tb sb N l mk p) (hN : ∀ x, N x = cntS S x) (hT : Tabs w) (hb : b < w.heap.size)
    (hh : HeadAt w b off 9 it nm a n ax tk tn (.slice sl m cap)) (hc : cntF 9 m = 0) :
    Calls Tryz.prog 104 #[.pointer (some ⟨cb, 0, none⟩), .pointer (some ⟨b, off, none⟩)] w fun e w' => e = .returned (.int .i64 (aloneF S 9 it nm a n ax tk m)) ∧ Below w.heap.size w w' := by
  have HA : Hid (∀ W, Calls Tryz.prog 132 #[.int .i64 9, .int .i64 m] W fun e w' => e = .returned (.int .i64 0) ∧ w' = W) := fun W => by
    have h1 := checkArgs_is 9 m W
    rw [hc] at h1
    exact h1
  have HX : Hid (∀ W : World, True → Calls Tryz.prog 78 #[.int .i64 ax, .agg #[.int .i64 tk, .string tn]] W fun e w' => e = .returned (.int .i64 (stepF ax tk)) ∧ Below W.heap.size W w') := fun W _ => checkStep_is ax tk tn W
  obtain ⟨c0, c1, c2, c3, c4, f2, f3, f4⟩ := h.cells
  have d0 := hh.c0
  have d1 := hh.c1
  have d2 := hh.c2
  have d3 := hh.c3
  have d4 := hh.c4
  have d5 := hh.c5
  have d6 := hh.c6
  have d7 := hh.c7
  have d8 := hh.c8
  have d9 := hh.c9
  have d10 := hh.c10
  have hcb := h.lt
  have HR : Hid (aloneF S 9 it nm a n ax tk m = stepF ax tk) := (if_pos hc).trans (by simp [kindF])
  rw [HR.out]
  clear h hh HR c2 c3 c4 f2 f3 f4
  generalize stepF ax tk = R at *
  go_enter Tryz.func104, Tryz.ntmps104
  go_upto_region 1 with fail
  go_quiet ((go_at_call 132; exact Calls.quiet_of_same (HA.out _)))
  go_upto_region 16 with fail
  go_region_with (go_at_call 78; refine Calls.mono (HX.out _ ?_) ?_; (· exact trivial); rintro e w1 ⟨rfl, hb1⟩; have HB1 : Hid (Below w.heap.size w w1) := (by exact ⟨hb1.os, hb1.tape, hb1.output, hb1.size, hb1.block⟩); clear hb1)
  all_goals
    go_wp2
    go_ret
    exact ⟨rfl, HB1.out⟩
set_option maxHeartbeats 3200000 in
theorem checkAlone_10 (cb tb sb : Nat) (N : ByteArray → Nat) (l mk p : Nat) (b off : Nat) (it : It) (nm a : ByteArray) (n ax tk : Int) (tn : ByteArray) (sl : Option Addr) (m cap : Nat) (S : List ByteArray) (w : World) (h : CkS w cb tb sb N l mk p) (hN : ∀ x, N x = cntS S x) (hT : Tabs w) (hb : b < w.heap.size)
    (hh : HeadAt w b off 10 it nm a n ax tk tn (.slice sl m cap)) (hc : cntF 10 m = 0) :
    Calls Tryz.prog 104 #[.pointer (some ⟨cb, 0, none⟩), .pointer (some ⟨b, off, none⟩)] w fun e w' => e = .returned (.int .i64 (aloneF S 10 it nm a n ax tk m)) ∧ Below w.heap.size w w' := by
  have HA : Hid (∀ W, Calls Tryz.prog 132 #[.int .i64 10, .int .i64 m] W fun e w' => e = .returned (.int .i64 0) ∧ w' = W) := fun W => by
    have h1 := checkArgs_is 10 m W
    rw [hc] at h1
    exact h1
  have HX : Hid (∀ W : World, True → Calls Tryz.prog 79 #[.int .i64 n, .string nm] W fun e w' => e = .returned (.int .i64 (makeF n nm)) ∧ Below W.heap.size W w') := fun W _ => checkMake_is n nm W hh.s2
  obtain ⟨c0, c1, c2, c3, c4, f2, f3, f4⟩ := h.cells
  have d0 := hh.c0
  have d1 := hh.c1
  have d2 := hh.c2
  have d3 := hh.c3
  have d4 := hh.c4
  have d5 := hh.c5
  have d6 := hh.c6
  have d7 := hh.c7
  have d8 := hh.c8
  have d9 := hh.c9
  have d10 := hh.c10
  have hcb := h.lt
  have HR : Hid (aloneF S 10 it nm a n ax tk m = makeF n nm) := (if_pos hc).trans (by simp [kindF])
  rw [HR.out]
  clear h hh HR c2 c3 c4 f2 f3 f4
  generalize makeF n nm = R at *
  go_enter Tryz.func104, Tryz.ntmps104
  go_upto_region 1 with fail
  go_quiet ((go_at_call 132; exact Calls.quiet_of_same (HA.out _)))
  go_upto_region 18 with fail
  go_region_with (go_at_call 79; refine Calls.mono (HX.out _ ?_) ?_; (· exact trivial); rintro e w1 ⟨rfl, hb1⟩; have HB1 : Hid (Below w.heap.size w w1) := (by exact ⟨hb1.os, hb1.tape, hb1.output, hb1.size, hb1.block⟩); clear hb1)
  all_goals
    go_wp2
    go_ret
    exact ⟨rfl, HB1.out⟩
end Go.Proofs.YtcbpjgnbdpfiiaaGreatDoor
set_option linter.unusedVariables false
namespace Go.Proofs.YtcbpjgnbdpfiiaaGreatDoor
set_option maxRecDepth 100000
open Go.RowKit Go.WideShapes

theorem checkAlone_is (cb tb sb : Nat) (N : ByteArray → Nat) (l mk p : Nat) (b off : Nat) (k : Int) (it : It) (nm a : ByteArray) (n ax tk : Int) (tn : ByteArray) (sl : Option Addr) (m cap : Nat) (S : List ByteArray) (w : World) (h : CkS w cb tb sb N l mk p) (hN : ∀ x, N x = cntS S x) (hT : Tabs w) (hb : b < w.heap.size)
    (hh : HeadAt w b off k it nm a n ax tk tn (.slice sl m cap)) :
    Calls Tryz.prog 104 #[.pointer (some ⟨cb, 0, none⟩), .pointer (some ⟨b, off, none⟩)] w fun e w' => e = .returned (.int .i64 (aloneF S k it nm a n ax tk m)) ∧ Below w.heap.size w w' := by
  by_cases hc : cntF k m = 0
  · by_cases h1 : k = 1
    · subst h1; exact checkAlone_1 cb tb sb N l mk p b off it nm a n ax tk tn sl m cap S w h hN hT hb hh hc
    by_cases h2 : k = 2
    · subst h2; exact checkAlone_2 cb tb sb N l mk p b off it nm a n ax tk tn sl m cap S w h hN hT hb hh hc
    by_cases h4 : k = 4
    · subst h4; exact checkAlone_4 cb tb sb N l mk p b off it nm a n ax tk tn sl m cap S w h hN hT hb hh hc
    by_cases h5 : k = 5
    · subst h5; exact checkAlone_5 cb tb sb N l mk p b off it nm a n ax tk tn sl m cap S w h hN hT hb hh hc
    by_cases h6 : k = 6
    · subst h6; exact checkAlone_6 cb tb sb N l mk p b off it nm a n ax tk tn sl m cap S w h hN hT hb hh hc
    by_cases h8 : k = 8
    · subst h8; exact checkAlone_8 cb tb sb N l mk p b off it nm a n ax tk tn sl m cap S w h hN hT hb hh hc
    by_cases h9 : k = 9
    · subst h9; exact checkAlone_9 cb tb sb N l mk p b off it nm a n ax tk tn sl m cap S w h hN hT hb hh hc
    by_cases h10 : k = 10
    · subst h10; exact checkAlone_10 cb tb sb N l mk p b off it nm a n ax tk tn sl m cap S w h hN hT hb hh hc
    by_cases h3 : k = 3
    · subst h3; exact checkAlone_3 cb tb sb N l mk p b off it nm a n ax tk tn sl m cap S w h hN hT hb hh hc
    by_cases h7 : k = 7
    · subst h7; exact checkAlone_7 cb tb sb N l mk p b off it nm a n ax tk tn sl m cap S w h hN hT hb hh hc
    by_cases h11 : k = 11
    · subst h11; exact checkAlone_11 cb tb sb N l mk p b off it nm a n ax tk tn sl m cap S w h hN hT hb hh hc
    exfalso
    unfold cntF at hc
    rw [if_neg (by omega), if_neg (by omega), if_neg (by omega), if_neg (by omega), if_neg (by omega)] at hc
    omega
  · exact checkAlone_bad cb tb sb N l mk p b off k it nm a n ax tk tn sl m cap S w h hN hT hb hh hc
end Go.Proofs.YtcbpjgnbdpfiiaaGreatDoor
set_option linter.unusedVariables false
namespace Go.Proofs.YtcbpjgnbdpfiiaaGreatDoor
set_option maxRecDepth 100000
open Go.RowKit Go.WideShapes

/-- the tables stay, whatever lies behind B -/
def TB (B : Nat) (w : World) : Prop := ∀ W, Below B w W → Tabs W
theorem TB.below {B : Nat} {w w' : World} (h : TB B w) (hb : Below B w w') : TB B w' := fun W hW => h W (hb.trans hW)
/-- what a look at an expression tells, and leaves -/
def LookOk (B : Nat) (x : Ex) (S : List ByteArray) : Prop :=
  ∀ (w : World) (cb tb sb l mk p b off : Nat), CkS w cb tb sb (cntS S) l mk p → x.At w B b off → B ≤ cb → B ≤ sb → B ≤ w.heap.size → TB B w → l ≤ p → mk ≤ p → p + nodesX x ≤ 4294967296 → S.length + 2 * nodesX x ≤ 4294967296 →
    Calls Tryz.prog 56 #[.pointer (some ⟨cb, 0, none⟩), .pointer (some ⟨b, off, none⟩)] w fun e w' => e = .returned (.int .i64 (exF x S)) ∧
      (∃ l' mk' p', CkS w' cb tb sb (cntS S) l' mk' p' ∧ (exF x S = 0 → l' = l + cntX loopB x ∧ mk' = mk + cntX makeB x ∧ p' = p + nodesX x)) ∧ Below B w w'
set_option maxHeartbeats 1600000 in
theorem lookAll_is (B : Nat) (S : List ByteArray) (A : Nat → Ex) (m cap : Nat) (sl : Option Addr) (w : World) (cb tb sb l mk p : Nat) (ih : ∀ i, i < m → LookOk B (A i) S) (hcap : m ≤ cap) (hcm : cap ≤ maxLen)
    (hsl : 0 < m → ∃ b' off', sl = some ⟨b', off', none⟩ ∧ b' < B ∧ ∀ i, i < m → (A i).At w B b' (off' + i * 11)) (hS : CkS w cb tb sb (cntS S) l mk p) (hcb : B ≤ cb) (hsb : B ≤ sb) (hBw : B ≤ w.heap.size) (hT : TB B w) (hl : l ≤ p) (hmk : mk ≤ p) (hp : p + sumTo (fun i => nodesX (A i)) m ≤ 4294967296) (hSl : S.length + 2 * sumTo (fun i => nodesX (A i)) m ≤ 4294967296) :
    Calls Tryz.prog 107 #[.pointer (some ⟨cb, 0, none⟩), .slice sl m cap] w fun e w' => e = .returned (.int .i64 (firstE (fun i => exF (A i) S) m)) ∧
      (∃ l' mk' p', CkS w' cb tb sb (cntS S) l' mk' p' ∧ (firstE (fun i => exF (A i) S) m = 0 → l' = l + sumTo (fun i => cntX loopB (A i)) m ∧ mk' = mk + sumTo (fun i => cntX makeB (A i)) m ∧ p' = p + sumTo (fun i => nodesX (A i)) m)) ∧ Below B w w' := by
  have HIH : Hid (∀ i, i < m → LookOk B (A i) S) := ih
  have HSL : Hid (0 < m → ∃ b' off', sl = some ⟨b', off', none⟩ ∧ b' < B ∧ ∀ i, i < m → (A i).At w B b' (off' + i * 11)) := hsl
  have HS : Hid (CkS w cb tb sb (cntS S) l mk p) := hS
  have HT : Hid (TB B w) := hT
  have HLP : Hid (∀ k, k ≤ m → l + sumTo (fun i => cntX loopB (A i)) k ≤ p + sumTo (fun i => nodesX (A i)) k ∧ mk + sumTo (fun i => cntX makeB (A i)) k ≤ p + sumTo (fun i => nodesX (A i)) k) := fun k _ => by
    have h1 := sumTo_le (f := fun i => cntX loopB (A i)) (g := fun i => nodesX (A i)) (fun i => cntX_le loopB (A i)) k
    have h2 := sumTo_le (f := fun i => cntX makeB (A i)) (g := fun i => nodesX (A i)) (fun i => cntX_le makeB (A i)) k
    constructor <;> omega
  unfold maxLen at hcm
  clear ih hsl hS hT
  go_enter Tryz.func107, Tryz.ntmps107
  go_wp2
  go_loopw [9] (fun q wr => ∃ k : Nat, k ≤ m ∧ q = .int .i64 k ∧ firstE (fun i => exF (A i) S) k = 0 ∧ CkS wr cb tb sb (cntS S) (l + sumTo (fun i => cntX loopB (A i)) k) (mk + sumTo (fun i => cntX makeB (A i)) k) (p + sumTo (fun i => nodesX (A i)) k) ∧ Below B w wr) (fun q _ => m - (intOf q).toNat)
  case atStart => exact ⟨0, Nat.zero_le _, rfl, rfl, HS.out, Below.refl _ _⟩
  case round =>
    obtain ⟨k, hk, rfl, hz, hck, hbr⟩ := hrel
    have HZ : Hid (firstE (fun i => exF (A i) S) k = 0) := hz
    have HB : Hid (Below B w wr) := hbr
    by_cases hlt : k < m
    · obtain ⟨b', off', rfl, hb', hA⟩ := HSL.out (by omega)
      have hkm : (k : Int) < (m : Int) := by omega
      have hmono := sumTo_part (fun i => nodesX (A i)) hlt
      have hlp := HLP.out k hk
      have CL : Hid (Calls Tryz.prog 56 #[.pointer (some ⟨cb, 0, none⟩), .pointer (some ⟨b', off' + k * 11, none⟩)] wr fun e w' => e = .returned (.int .i64 (exF (A k) S)) ∧
        (∃ l' mk' p', CkS w' cb tb sb (cntS S) l' mk' p' ∧ (exF (A k) S = 0 → l' = l + sumTo (fun i => cntX loopB (A i)) k + cntX loopB (A k) ∧ mk' = mk + sumTo (fun i => cntX makeB (A i)) k + cntX makeB (A k) ∧ p' = p + sumTo (fun i => nodesX (A i)) k + nodesX (A k))) ∧ Below B wr w') :=
        HIH.out k hlt wr cb tb sb _ _ _ b' (off' + k * 11) hck ((hA k hlt).below hbr) hcb hsb (Nat.le_trans hBw hbr.size) (HT.out.below hbr) hlp.1 hlp.2 (by omega) (by omega)
      have hbB : b' < wr.heap.size := Nat.lt_of_lt_of_le hb' (Nat.le_trans hBw hbr.size)
      have HSU : Hid (firstE (fun i => exF (A i) S) (k + 1) = if firstE (fun i => exF (A i) S) k = 0 then exF (A k) S else firstE (fun i => exF (A i) S) k) := firstE_succ _ k
      have HAT : Hid (exF (A k) S ≠ 0 → firstE (fun i => exF (A i) S) m = exF (A k) S) := fun h => firstE_at hlt HZ.out h
      clear hck hbr hz hA hmono hlp
      by_cases he : exF (A k) S = 0
      · rw [he] at CL
        go_wp2_with (go_at_call 56; refine CL.out.mono ?_; rintro e w1 ⟨rfl, ⟨l1, m1, p1, hc1, he1⟩, hb1⟩; obtain ⟨q1, q2, q3⟩ := he1 rfl; subst q1 q2 q3; have HC1 : Hid (CkS w1 cb tb sb (cntS S) (l + sumTo (fun i => cntX loopB (A i)) k + cntX loopB (A k)) (mk + sumTo (fun i => cntX makeB (A i)) k + cntX makeB (A k)) (p + sumTo (fun i => nodesX (A i)) k + nodesX (A k))) := hc1; have HB1 : Hid (Below B wr w1) := hb1; clear hc1 hb1 he1)
        go_roundw
        case rel => exact ⟨k + 1, by omega, by go_num, by rw [HSU.out, if_pos HZ.out]; exact he, by simp only [sumTo, ← Nat.add_assoc]; exact HC1.out, HB.out.trans HB1.out⟩
        case measure => simp [intOf]; omega
      · generalize exF (A k) S = R at *
        have he2 : (R == 0) = false := by simpa using he
        have he3 : (R != 0) = true := by simpa using he
        go_wp2_with (go_at_call 56; refine CL.out.mono ?_; rintro e w1 ⟨rfl, ⟨l1, m1, p1, hc1, he1⟩, hb1⟩; have HC1 : Hid (CkS w1 cb tb sb (cntS S) l1 m1 p1) := hc1; have HB1 : Hid (Below B wr w1) := hb1; clear hc1 hb1 he1)
        go_ret
        exact ⟨ret_int (HAT.out he).symm, ⟨l1, m1, p1, HC1.out, fun h => absurd ((HAT.out he).symm.trans h) he⟩, HB.out.trans HB1.out⟩
    · have e : k = m := by omega
      subst e
      have HC : Hid (CkS wr cb tb sb (cntS S) (l + sumTo (fun i => cntX loopB (A i)) k) (mk + sumTo (fun i => cntX makeB (A i)) k) (p + sumTo (fun i => nodesX (A i)) k)) := hck
      clear hck hbr
      go_wp2
      go_ret
      exact ⟨ret_int HZ.out.symm, ⟨_, _, _, HC.out, fun _ => ⟨rfl, rfl, rfl⟩⟩, HB.out⟩
end Go.Proofs.YtcbpjgnbdpfiiaaGreatDoor
set_option linter.unusedVariables false
namespace Go.Proofs.YtcbpjgnbdpfiiaaGreatDoor
set_option maxRecDepth 100000
open Go.RowKit Go.WideShapes

theorem firstE_shift {f : Nat → Int} (h : f 0 = 0) : ∀ m, firstE f (m + 1) = firstE (fun i => f (i + 1)) m
  | 0 => by rw [firstE_succ, show firstE f 0 = 0 from rfl, if_pos rfl, h]; rfl
  | m + 1 => by rw [firstE_succ, firstE_shift h m, firstE_succ (fun i => f (i + 1)) m]
theorem sumTo_shift (f : Nat → Nat) : ∀ m, sumTo f (m + 1) = f 0 + sumTo (fun i => f (i + 1)) m
  | 0 => by simp [sumTo]
  | m + 1 => by
    have := sumTo_shift f m
    rw [sumTo, this]
    simp only [sumTo]
    omega
theorem CkS.names {w : World} {cb tb sb : Nat} {N N' : ByteArray → Nat} {l k p : Nat} (h : CkS w cb tb sb N l k p) (e : ∀ x, N x = N' x) : CkS w cb tb sb N' l k p := ⟨h.blk, h.tab, h.sc.congr e, h.tn⟩
/-- only the names turned -/
theorem CkS.turn {w w' : World} {cb tb sb : Nat} {N N' : ByteArray → Nat} {l k p : Nat} (h : CkS w cb tb sb N l k p) (ht : TurnedM w w' sb) (hs : SMap w' sb N') : CkS w' cb tb sb N' l k p :=
  ⟨(ht.2.1 cb h.ne.2).trans h.blk, h.tab.keep (ht.2.1 tb h.tn), hs, h.tn⟩
theorem two_in (w W : World) (x y : ByteArray) (hW : W.heap = (w.alloc (.cells #[.string x, .string y] 9)).heap) : TxtsL W (.slice (some ⟨w.heap.size, 0, none⟩) 2 2) [x, y] := by
  obtain ⟨b, off, cap, h1, h2, h3, h4, h5⟩ := txts_lit w [x, y] (by simp [maxLen])
  refine ⟨b, off, cap, h1, h2, h3, by rw [hW]; exact h4, fun i hi => ?_⟩
  have := h5 i hi
  unfold World.cell? at this ⊢
  rw [hW]
  exact this
theorem below_of {B : Nat} {w W w' : World} {o : Obj} (hW : W.heap = (w.alloc o).heap) (e1 : W.os = w.os) (e2 : W.tape = w.tape) (e3 : W.output = w.output) (hB : B ≤ w.heap.size) (h : Below B W w') : Below B w w' := by
  refine ⟨h.os.trans e1, h.tape.trans e2, h.output.trans e3, ?_, fun b hb => (h.block b hb).trans ?_⟩
  · have := h.size
    rw [hW] at this
    simp at this
    omega
  · rw [hW]; exact Below.heap_alloc w o b (by omega)
/-- names come into scope -/
theorem enter_ck (B : Nat) (S : List ByteArray) (k : Int) (nm a : ByteArray) (cb tb sb l mk p : Nat) (w W : World) (hS : CkS w cb tb sb (cntS S) l mk p) (hsb : B ≤ sb) (hBw : B ≤ w.heap.size) (hb : bindsB k = true) (hn : nm.size ≠ 0) (h1 : nm.size ≤ maxLen) (h2 : (atN k a).size ≤ maxLen) (hl : S.length + 2 ≤ 4294967296)
    (hW : W.heap = (w.alloc (.cells #[.string nm, .string (atN k a)] 9)).heap) (e1 : W.os = w.os) (e2 : W.tape = w.tape) (e3 : W.output = w.output) :
    Calls Tryz.prog 86 #[.map (some sb), .slice (some ⟨w.heap.size, 0, none⟩) 2 2] W fun e w' => e = .returned (.tuple #[]) ∧ CkS w' cb tb sb (cntS (innS S k nm a)) l mk p ∧ Below B w w' := by
  have hS' : CkS W cb tb sb (cntS S) l mk p := hS.keep fun b hb => by rw [hW]; exact Below.heap_alloc w _ b hb
  refine (enter_is sb (cntS S) [nm, atN k a] _ W hS'.sc (two_in w W _ _ hW) (fun x hx => ?_) (fun y => by have := cntS_le S y; simp; omega)).mono ?_
  · simp only [List.mem_cons, List.not_mem_nil, or_false] at hx
    rcases hx with rfl | rfl
    · exact h1
    · exact h2
  · rintro e w' ⟨rfl, h3, h4⟩
    exact ⟨rfl, (hS'.turn h4 h3).names (fun y => (cntS_inn S hb hn y).symm), below_of hW e1 e2 e3 hBw (h4.below hsb)⟩
/-- .. and leave it -/
theorem leave_ck (B : Nat) (S : List ByteArray) (k : Int) (nm a : ByteArray) (cb tb sb l mk p : Nat) (w W : World) (hS : CkS w cb tb sb (cntS (innS S k nm a)) l mk p) (hsb : B ≤ sb) (hBw : B ≤ w.heap.size) (hb : bindsB k = true) (hn : nm.size ≠ 0) (h1 : nm.size ≤ maxLen) (h2 : (atN k a).size ≤ maxLen) (hl : S.length + 2 ≤ 4294967296)
    (hW : W.heap = (w.alloc (.cells #[.string nm, .string (atN k a)] 9)).heap) (e1 : W.os = w.os) (e2 : W.tape = w.tape) (e3 : W.output = w.output) :
    Calls Tryz.prog 87 #[.map (some sb), .slice (some ⟨w.heap.size, 0, none⟩) 2 2] W fun e w' => e = .returned (.tuple #[]) ∧ CkS w' cb tb sb (cntS S) l mk p ∧ Below B w w' := by
  have hS' : CkS W cb tb sb (fun y => cntS S y + cntE [nm, atN k a] y) l mk p := (hS.keep fun b hb => by rw [hW]; exact Below.heap_alloc w _ b hb).names (cntS_inn S hb hn)
  refine (leave_is sb (cntS S) [nm, atN k a] _ W hS'.sc (two_in w W _ _ hW) (fun x hx => ?_) (fun y => by have := cntS_le S y; simp; omega)).mono ?_
  · simp only [List.mem_cons, List.not_mem_nil, or_false] at hx
    rcases hx with rfl | rfl
    · exact h1
    · exact h2
  · rintro e w' ⟨rfl, h3, h4⟩
    exact ⟨rfl, hS'.turn h4 h3, below_of hW e1 e2 e3 hBw (h4.below hsb)⟩
end Go.Proofs.YtcbpjgnbdpfiiaaGreatDoor
