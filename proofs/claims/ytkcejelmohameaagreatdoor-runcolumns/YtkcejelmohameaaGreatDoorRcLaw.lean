/-
  THE LAW RunColumns, wherever the plan lies.
-/
import Derived.Test.YtkcejelmohameaaGreatDoorRdCols
import Derived.Test.YtkcejelmohameaaGreatDoorWkStep
import Derived.Deep.QuietTactic
import Derived.BigQuiet
set_option linter.unusedVariables false
namespace Go.Proofs.YtkcejelmohameaaGreatDoor
set_option maxRecDepth 100000
open Go.RowKit Go.WideShapes

set_option maxHeartbeats 1600000 in
theorem lawRunColumns (v : Value) (N : Nat) (P : Nat → Opm) (w : World) (hv : PlanIs w v N P) (hP : ∀ i, i < N → OpFine (P i)) (hI : InTabA w) (hT : Tabs w) :
    Calls Tryz.prog 3 #[v] w fun e w' => e = .returned (.bool true) ∧ Below w.heap.size w w' := by
  have C1 : Hid (Calls Tryz.prog 4 #[v] w fun e w' => ∃ u, e = .returned (.tuple #[u, .int .i64 (planF P N)]) ∧ ListsIs w' u (okN (planF P N) N) (colK P) ∧ Below w.heap.size w w') := columnsOf_is v N P w hv hP hI stepNil hT
  have C2 : Hid (∀ W, Below w.heap.size w W → Calls Tryz.prog 5 #[v] W fun e w' => ∃ u, e = .returned (.tuple #[u, .int .i64 (planF P N)]) ∧ ListsIs w' u (okN (planF P N) N) (colK P) ∧ Below W.heap.size W w') := fun W hW => rcolsOf_is v N P W (hv.below hW) hP (Utf8Tabs_below hT hW)
  have CS : Hid (∀ W a b, ListsIs W a (okN (planF P N) N) (colK P) → ListsIs W b (okN (planF P N) N) (colK P) → Calls Tryz.prog 6 #[a, b] W fun e w' => e = .returned (.bool true) ∧ Below W.heap.size W w') := fun W a b ha hb => sameLists_is a b _ _ W ha hb
  generalize planF P N = F at *
  generalize okN F N = M at *
  clear hv hP hI hT
  go_enter Tryz.func3, Tryz.ntmps3
  go_wp2_with (first
    | (go_at_call 4; refine C1.out.mono ?_; rintro e w1 ⟨u1, rfl, hl1, hb1⟩; have HL1 := hidK hl1; have HB1 := hidK hb1; clear hl1 hb1 C1)
    | (go_at_call 5; refine (C2.out _ HB1.out).mono ?_; rintro e w2 ⟨u2, rfl, hl2, hb2⟩; have HL12 := hidK (HL1.out.below hb2); have HL2 := hidK hl2; have HB2 := hidK (HB1.out.trans (hb2.mono HB1.out.size)); clear hl2 hb2 C2)
    | (go_at_call 6; refine (CS.out _ _ _ HL12.out HL2.out).mono ?_; rintro e w3 ⟨rfl, hb3⟩; have HB3 := hidK (HB2.out.trans (hb3.mono HB2.out.size)); clear hb3 CS))
  go_ret
  exact ⟨rfl, HB3.out⟩
end Go.Proofs.YtkcejelmohameaaGreatDoor
