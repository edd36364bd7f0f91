/-
  CONTRACT: what is refused of an expression alone (core.checking's checkAlone): a Call.
-/
import Derived.Test.YtkhlfdnlpimojaaDoorCkScope
import Derived.Deep.QuietTactic
import Derived.BigQuiet
import Derived.Deep.RegionLaw
set_option linter.unusedVariables false
namespace Go.Proofs.YtkhlfdnlpimojaaDoor
set_option maxRecDepth 100000
open Go.RowKit Go.WideShapes

set_option maxHeartbeats 3200000 in
theorem checkAlone_8 (cb tb sb : Nat) (N : ByteArray → Nat) (l mk p : Nat) (b off : Nat) (it : It) (nm a : ByteArray) (n ax tk : Int) (tn : ByteArray) (sl : Option Addr) (m cap : Nat) (S : List ByteArray) (w : World) (h : CkS w cb tb sb N l mk p) (hN : ∀ x, N x = cntS S x) (hT : Tabs w) (hb : b < w.heap.size)
    (hh : HeadAt w b off 8 it nm a n ax tk tn (.slice sl m cap)) (hc : cntF 8 m = 0) :
    Calls Tryd.prog 51 #[.pointer (some ⟨cb, 0, none⟩), .pointer (some ⟨b, off, none⟩)] w fun e w' => e = .returned (.int .i64 (aloneF S 8 it nm a n ax tk m)) ∧ Below w.heap.size w w' := by
  have HA : Hid (∀ W, Calls Tryd.prog 67 #[.int .i64 8, .int .i64 m] W fun e w' => e = .returned (.int .i64 0) ∧ w' = W) := fun W => by
    have h1 := checkArgs_is 8 m W
    rw [hc] at h1
    exact h1
  have HX : Hid (∀ W : World, (∀ c, c < w.heap.size → W.heap[c]? = w.heap[c]?) → Calls Tryd.prog 27 #[.map (some tb), .string nm, .int .i64 m] W fun e w' => e = .returned (.int .i64 (callF nm m)) ∧ Below W.heap.size W w') := fun W hW => tcheck_is tb nm m W hh.s2 (h.tab.keep (hW _ h.tab.lt))
  obtain ⟨c0, c1, c2, c3, c4, f2, f3, f4⟩ := h.cells
  have d0 := hh.c0
  have d1 := hh.c1
  have d2 := hh.c2
  have d3 := hh.c3
  have d4 := hh.c4
  have d5 := hh.c5
  have d6 := hh.c6
  have d7 := hh.c7
  have d8 := hh.c8
  have d9 := hh.c9
  have d10 := hh.c10
  have hcb := h.lt
  have HR : Hid (aloneF S 8 it nm a n ax tk m = callF nm m) := (if_pos hc).trans (by simp [kindF])
  rw [HR.out]
  clear h hh HR c2 c3 c4 f2 f3 f4
  generalize callF nm m = R at *
  go_enter Tryd.func51, Tryd.ntmps51
  go_upto_region 1 with fail
  go_quiet ((go_at_call 67; exact Calls.quiet_of_same (HA.out _)))
  go_upto_region 14 with fail
  go_region_with (go_at_call 27; refine Calls.mono (HX.out _ ?_) ?_; (· exact fun c hc => rfl); rintro e w1 ⟨rfl, hb1⟩; have HB1 : Hid (Below w.heap.size w w1) := (by exact ⟨hb1.os, hb1.tape, hb1.output, hb1.size, hb1.block⟩); clear hb1)
  all_goals
    go_wp2
    go_ret
    exact ⟨rfl, HB1.out⟩
end Go.Proofs.YtkhlfdnlpimojaaDoor
