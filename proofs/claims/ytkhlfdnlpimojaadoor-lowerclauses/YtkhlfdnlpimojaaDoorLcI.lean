/-
  CONTRACTS of package core: which clause is the loop, where it is the first one.
-/
import Derived.Test.YtkhlfdnlpimojaaDoorLcH
import Derived.Test.YtkhlfdnlpimojaaDoorUnroll
set_option linter.unusedVariables false
namespace Go.Proofs.YtkhlfdnlpimojaaDoor
set_option maxRecDepth 100000
open Go.RowKit Go.WideShapes

set_option maxHeartbeats 1600000 in
theorem isFor_is (cv : CV) (k : Int) (w : World) (hk : w.cell? ⟨cv.pb, cv.po, none⟩ = some (.int .i64 k)) (hkb : cv.pb < w.heap.size) :
    Calls Tryd.prog 63 #[.agg #[.pointer (some ⟨cv.pb, cv.po, none⟩), .int .i64 cv.k, .int .i64 cv.it.kind, .int .i64 cv.it.n, .string cv.it.s, .string cv.nm, .string cv.at_, .int .i64 cv.n, .int .i64 cv.ax, .int .i64 cv.tk, .string cv.tn, .slice cv.aa cv.am cv.ac]] w fun e w' => e = .returned (.bool (k == 1)) ∧ Below w.heap.size w w' := by
  have e0 : (w.alloc (.cells #[.pointer (some ⟨cv.pb, cv.po, none⟩), .int .i64 cv.k, .int .i64 cv.it.kind, .int .i64 cv.it.n, .string cv.it.s, .string cv.nm, .string cv.at_, .int .i64 cv.n, .int .i64 cv.ax, .int .i64 cv.tk, .string cv.tn, .slice cv.aa cv.am cv.ac] 82)).cell? ⟨cv.pb, cv.po, none⟩ = some (.int .i64 k) := (((Below.refl w.heap.size w).alloc (Nat.le_refl _) _).cell (p := ⟨cv.pb, cv.po, none⟩) hkb).trans hk
  clear hk
  go_enter Tryd.func63, Tryd.ntmps63
  go_wp2
  go_ret
  exact ⟨rfl, (Below.refl _ _).alloc (Nat.le_refl _) _⟩
set_option maxHeartbeats 1600000 in
theorem indexFor_is (cv : CV) (b off len cap : Nat) (w : World) (hc : CvAt w b off cv) (hlen : 0 < len) (hm : len ≤ 1000) (hk : w.cell? ⟨cv.pb, cv.po, none⟩ = some (.int .i64 1)) (hkb : cv.pb < w.heap.size) :
    Calls Tryd.prog 62 #[.slice (some ⟨b, off, none⟩) len cap, .func (.func 63) #[] #[]] w fun e w' => e = .returned (.int .i64 0) ∧ Below w.heap.size w w' := by
  have CI : Hid (Calls Tryd.prog 63 #[.agg #[.pointer (some ⟨cv.pb, cv.po, none⟩), .int .i64 cv.k, .int .i64 cv.it.kind, .int .i64 cv.it.n, .string cv.it.s, .string cv.nm, .string cv.at_, .int .i64 cv.n, .int .i64 cv.ax, .int .i64 cv.tk, .string cv.tn, .slice cv.aa cv.am cv.ac]] w fun e w' => e = .returned (.bool true) ∧ Below w.heap.size w w') := isFor_is cv 1 w hk hkb
  obtain ⟨c0, c1, c2, c3, c4, c5, c6, c7, c8, c9, c10, c11⟩ := hc
  have h0 : (0 : Int) < (len : Int) := by omega
  clear hk
  go_enter Tryd.func62, Tryd.ntmps62
  go_wp2
  refine LoopN.wp 1 (LoopN.next ?_)
  go_wp2_with (go_at_call 63; refine CI.out.mono ?_; rintro e w1 ⟨rfl, hb1⟩)
  go_ret
  exact ⟨rfl, hb1⟩
end Go.Proofs.YtkhlfdnlpimojaaDoor
