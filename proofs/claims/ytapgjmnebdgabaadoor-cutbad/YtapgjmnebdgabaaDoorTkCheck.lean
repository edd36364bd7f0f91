/-
  CONTRACTS: what is said of a token (read.checkNumber, checkTextOf, CheckToken).
-/
import Derived.Test.YtapgjmnebdgabaaDoorTkWord
import Derived.Test.YtapgjmnebdgabaaDoorTkMark
import Derived.Test.YtapgjmnebdgabaaDoorTexts
import Derived.Deep.QuietTactic
import Derived.BigQuiet
import Derived.Lib.IndexAny
set_option linter.unusedVariables false
namespace Go.Proofs.YtapgjmnebdgabaaDoor
set_option maxRecDepth 100000
open Go.RowKit

theorem isEmpty_yes {s : ByteArray} (h : s.size = 0) : s.toList.isEmpty = true := by
  rw [ByteArray.toList_eq, List.isEmpty_iff, List.eq_nil_iff_length_eq_zero]; exact h
theorem isEmpty_no {s : ByteArray} (h : ¬ s.size = 0) : s.toList.isEmpty = false := by
  rw [ByteArray.toList_eq, List.isEmpty_eq_false_iff, ne_eq, List.eq_nil_iff_length_eq_zero]; exact h
theorem below_drawnT {B : Nat} {w w' : World} (h : Below B w w') : ∀ n, Below B w (w'.drewN n)
  | 0 => h
  | n + 1 => (below_drawnT h n).drew

/-- what is said of a token's text -/
def txF (k : Int) (s : ByteArray) : Int :=
  if k = 3 then (if hasQ s.data.toList = true then 4 else textF s)
  else if k = 5 then (if isMk s.data.toList = true then 0 else 6)
  else if nmB s = true then 0 else 10
def numF (s : ByteArray) (n : Int) : Int := if n < 0 ∨ 1099511627776 < n then 2 else if s.size ≠ 0 then 4 else 0
theorem tokF_is (k : Int) (s : ByteArray) (n : Int) : tokF k s n = if ¬ (1 ≤ k ∧ k ≤ 5) then 3 else if k = 2 then numF s n else if n ≠ 0 then 4 else txF k s := by
  unfold tokF numF txF
  rfl

theorem hasQ_is (s : ByteArray) : decide (0 ≤ Lib.indexByte s.data.toList 34) = hasQ s.data.toList := (Lib.contains_iff_indexByte s.data.toList 34).symm
theorem fm_eq_yes {s : ByteArray} (h : isMk s.data.toList = true) : ((⟨(fm s.data.toList).toArray⟩ : ByteArray).toList == s.toList) = true := by
  rw [fm_isMk, Bool.and_eq_true] at h
  have h2 := of_decide_eq_true h.2
  rw [h2]
  simp [ByteArray.toList_eq]
theorem fm_eq_no {s : ByteArray} (h : isMk s.data.toList = false) (hz : ¬ s.size = 0) : ((⟨(fm s.data.toList).toArray⟩ : ByteArray).toList == s.toList) = false := by
  cases e : ((⟨(fm s.data.toList).toArray⟩ : ByteArray).toList == s.toList) with
  | false => rfl
  | true =>
    have e' := (bytes_eq_iff _ _).1 e
    rw [fm_isMk] at h
    have h1 : fm s.data.toList = s.data.toList := by
      have := congrArg (fun x : ByteArray => x.data.toList) e'
      simpa using this
    have h2 : s.data.toList ≠ [] := by
      intro e0
      exact hz (by simpa using congrArg List.length e0)
    rw [decide_eq_true h1, decide_eq_true h2] at h
    exact absurd h (by decide)

end Go.Proofs.YtapgjmnebdgabaaDoor
