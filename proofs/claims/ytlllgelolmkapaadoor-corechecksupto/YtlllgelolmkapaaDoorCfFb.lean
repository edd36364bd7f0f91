/-
  CONTRACT: what the document refuses of an expression (exprFault), the frame.
-/
import Derived.Test.YtlllgelolmkapaaDoorCfArgs
import Derived.Test.YtlllgelolmkapaaDoorCfPlus
import Derived.Test.YtlllgelolmkapaaDoorCfCount
import Derived.Test.YtlllgelolmkapaaDoorCkLook3
import Derived.Deep.Cut
import Derived.Deep.QuietTactic
import Derived.BigQuiet
import Derived.Deep.RegionLaw
set_option linter.unusedVariables false
namespace Go.Proofs.YtlllgelolmkapaaDoor
set_option maxRecDepth 100000
open Go.RowKit Go.WideShapes

/-- what is told of an expression, as a value, in a scope -/
def FaultAt (B : Nat) (S : List ByteArray) (x : Ex) : Prop :=
  ∀ (w : World) (v sv : Value), x.V w B v → ScIs w sv S → B ≤ w.heap.size → TB B w → S.length + 2 * nodesX x ≤ 4294967296 → Calls Tryd.prog 8 #[v, sv] w fun e w' => e = .returned (.int .i64 (exF x S)) ∧ Below w.heap.size w w'
def FaultOk (B : Nat) (x : Ex) : Prop := ∀ S, FaultAt B S x
/-- what was told up to the j-th -/
def upE (al : Int) (f : Nat → Int) (j : Nat) : Int := if al = 0 then firstE f j else al
theorem upE_zero (al : Int) (f : Nat → Int) : upE al f 0 = al := by
  unfold upE
  by_cases h : al = 0
  · rw [if_pos h, h]; rfl
  · rw [if_neg h]
theorem upE_succ {al : Int} {f : Nat → Int} {j : Nat} (h : upE al f j = 0) : upE al f (j + 1) = f j := by
  unfold upE at *
  by_cases h0 : al = 0
  · rw [if_pos h0] at h ⊢
    rw [firstE_succ, if_pos h]
  · rw [if_neg h0] at h
    exact absurd h h0
theorem upE_end {al : Int} {f : Nat → Int} {j m : Nat} (hj : j ≤ m) (h : upE al f j ≠ 0) : upE al f m = upE al f j := by
  unfold upE at *
  by_cases h0 : al = 0
  · rw [if_pos h0] at h ⊢
    rw [if_pos h0]
    induction m with
    | zero => rw [Nat.le_zero.1 hj]
    | succ m ih =>
      by_cases e : j = m + 1
      · rw [e]
      · have := ih (by omega)
        rw [firstE_succ, this, if_neg h]
  · rw [if_neg h0, if_neg h0]
theorem exF_up (S : List ByteArray) (k : Int) (it : It) (nm a : ByteArray) (n ax tk : Int) (tn : ByteArray) (m : Nat) (A : Nat → Ex) :
    exF (.mk k it nm a n ax tk tn m A) S = upE (aloneF S k it nm a n ax tk m) (fun i => exF (A i) (if i = 0 then S else innS S k nm a)) m := rfl
theorem cells_scope {w : World} {v : Value} {L : List ByteArray} (h : ScIs w v L) : ∃ sa sc, v = .slice sa L.length sc ∧ sc ≤ maxLen := by
  obtain ⟨a, c, h1, h2, h3, _⟩ := h
  exact ⟨a, c, h1, h3⟩
theorem one_scope (w : World) (x : ByteArray) (g : Nat) (hg : w.heap.size = g) : ScIs (w.alloc (.cells #[.string x] 9)) (.slice (some ⟨g, 0, none⟩) 1 1) [x] := by
  subst hg
  exact ⟨_, 1, rfl, Nat.le_refl _, by unfold maxLen; omega, fun _ => ⟨w.heap.size, 0, rfl, by simp, fun i hi => by
    obtain rfl : i = 0 := by simp at hi; omega
    simp⟩⟩
theorem addN_no {S : List ByteArray} {x : ByteArray} (h : x.size = 0) : addN S x = S := by unfold addN; rw [if_pos h]
theorem addN_yes {S : List ByteArray} {x : ByteArray} (h : ¬ x.size = 0) : addN S x = S ++ [x] := by unfold addN; rw [if_neg h]
end Go.Proofs.YtlllgelolmkapaaDoor
