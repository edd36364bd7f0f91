/-
  CONTRACT: what the document refuses of an expression (exprFault), whole.
-/
import Derived.Test.YtlllgelolmkapaaDoorCfF1
import Derived.Test.YtlllgelolmkapaaDoorCfF2
import Derived.Test.YtlllgelolmkapaaDoorCfF3
import Derived.Test.YtlllgelolmkapaaDoorCfF4
import Derived.Test.YtlllgelolmkapaaDoorCfF5
import Derived.Test.YtlllgelolmkapaaDoorCfF5t
import Derived.Test.YtlllgelolmkapaaDoorCfF6
import Derived.Test.YtlllgelolmkapaaDoorCfF6t
import Derived.Test.YtlllgelolmkapaaDoorCfF8
import Derived.Test.YtlllgelolmkapaaDoorCfF9
import Derived.Test.YtlllgelolmkapaaDoorCfF10
import Derived.Test.YtlllgelolmkapaaDoorCfFx
import Derived.Deep.Cut
import Derived.Deep.QuietTactic
import Derived.BigQuiet
import Derived.Deep.RegionLaw
set_option linter.unusedVariables false
namespace Go.Proofs.YtlllgelolmkapaaDoor
set_option maxRecDepth 100000
open Go.RowKit Go.WideShapes

/-- what is told of any expression -/
theorem exprFault_is (B : Nat) (x : Ex) : FaultOk B x := by
  induction x with
  | no => exact fun S w v sv h => h.elim
  | mk k it nm a n ax tk tn m A ih =>
    intro S
    by_cases hk : inB k 1 11 = true
    rotate_left
    · exact fault_kind B S k it nm a n ax tk tn m A (by simpa using hk)
    have hk' : 1 ≤ k ∧ k ≤ 11 := by simpa [inB] using hk
    have hcase : k = 1 ∨ k = 2 ∨ k = 3 ∨ k = 4 ∨ k = 5 ∨ k = 6 ∨ k = 7 ∨ k = 8 ∨ k = 9 ∨ k = 10 ∨ k = 11 := by omega
    rcases hcase with rfl | rfl | rfl | rfl | rfl | rfl | rfl | rfl | rfl | rfl | rfl
    · by_cases hm : m = 0
      rotate_left
      · exact fault_count1 B S it nm a n ax tk tn m A hm
      have hc : cntF 1 m = 0 := by rw [hm]; rfl
      by_cases h1 : it.kind = 1
      · exact fault_1n B S it nm a n ax tk tn m A ih hc h1
      cases h2 : mayI it
      · exact fault_1b B S it nm a n ax tk tn m A ih hc h1 h2
      · exact fault_1g B S it nm a n ax tk tn m A ih hc h1 h2
    · by_cases hm : m = 0
      rotate_left
      · exact fault_count2 B S it nm a n ax tk tn m A hm
      have hc : cntF 2 m = 0 := by rw [hm]; rfl
      cases h1 : hasB S nm
      · exact fault_2b B S it nm a n ax tk tn m A ih hc h1
      · exact fault_2g B S it nm a n ax tk tn m A ih hc h1
    · have hc : cntF 3 m = 0 := rfl
      exact fault_3 B S it nm a n ax tk tn m A ih hc
    · by_cases hm : m = 2
      rotate_left
      · exact fault_count4 B S it nm a n ax tk tn m A hm
      have hc : cntF 4 m = 0 := by rw [hm]; rfl
      exact fault_4 B S it nm a n ax tk tn m A ih hc
    · by_cases hm : m = 2
      rotate_left
      · exact fault_count5 B S it nm a n ax tk tn m A hm
      have hc : cntF 5 m = 0 := by rw [hm]; rfl
      by_cases h1 : a.size = 0
      · exact fault_5 B S it nm a n ax tk tn m A ih hc h1
      · exact fault_5t B S it nm a n ax tk tn m A ih hc h1
    · by_cases hm : m = 3
      rotate_left
      · exact fault_count6 B S it nm a n ax tk tn m A hm
      have hc : cntF 6 m = 0 := by rw [hm]; rfl
      by_cases h1 : a.size = 0
      · exact fault_6 B S it nm a n ax tk tn m A ih hc h1
      · exact fault_6t B S it nm a n ax tk tn m A ih hc h1
    · by_cases hm : m = 3
      rotate_left
      · exact fault_count7 B S it nm a n ax tk tn m A hm
      have hc : cntF 7 m = 0 := by rw [hm]; rfl
      exact fault_7 B S it nm a n ax tk tn m A ih hc
    · have hc : cntF 8 m = 0 := rfl
      by_cases h1 : argsN nm < 0
      · exact fault_8n B S it nm a n ax tk tn m A ih hc h1
      by_cases h2 : argsN nm = m
      · exact fault_8g B S it nm a n ax tk tn m A ih hc h2
      · exact fault_8b B S it nm a n ax tk tn m A ih hc ⟨h1, h2⟩
    · by_cases hm : m = 1
      rotate_left
      · exact fault_count9 B S it nm a n ax tk tn m A hm
      have hc : cntF 9 m = 0 := by rw [hm]; rfl
      cases h1 : (inB ax 1 12 && inB tk 1 5)
      · exact fault_9b B S it nm a n ax tk tn m A ih hc h1
      · exact fault_9g B S it nm a n ax tk tn m A ih hc h1
    · by_cases hm : m = 1
      rotate_left
      · exact fault_count10 B S it nm a n ax tk tn m A hm
      have hc : cntF 10 m = 0 := by rw [hm]; rfl
      exact fault_10 B S it nm a n ax tk tn m A ih hc
    · by_cases hm : m = 0
      rotate_left
      · exact fault_count11 B S it nm a n ax tk tn m A hm
      have hc : cntF 11 m = 0 := by rw [hm]; rfl
      exact fault_11 B S it nm a n ax tk tn m A ih hc
end Go.Proofs.YtlllgelolmkapaaDoor
