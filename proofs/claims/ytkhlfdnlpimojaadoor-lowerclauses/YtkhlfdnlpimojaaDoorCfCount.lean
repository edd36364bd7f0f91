/-
  EXPRESSIONS AS VALUES; CONTRACTS: how many expressions there are (the document's howMany, partCount).
-/
import Derived.Test.YtkhlfdnlpimojaaDoorCfSmall
import Derived.Deep.Cut
import Derived.Deep.QuietTactic
import Derived.BigQuiet
import Derived.Deep.RegionLaw
set_option linter.unusedVariables false
namespace Go.Proofs.YtkhlfdnlpimojaaDoor
set_option maxRecDepth 100000
open Go.RowKit Go.WideShapes

/-- an expression as a value: what is in it lies below B -/
def Ex.V (w : World) (B : Nat) : Ex → Value → Prop
  | .no, _ => False
  | .mk k it nm a n ax tk tn m A, v => ∃ sl cap, v = .agg #[.int .i64 k, .int .i64 it.kind, .int .i64 it.n, .string it.s, .string nm, .string a, .int .i64 n, .int .i64 ax, .int .i64 tk, .string tn, .slice sl m cap] ∧ it.s.size ≤ maxLen ∧ nm.size ≤ maxLen ∧ a.size ≤ maxLen ∧ m ≤ cap ∧ cap ≤ maxLen ∧ (0 < m → ∃ b' off', sl = some ⟨b', off', none⟩ ∧ b' < B ∧ ∀ i, i < m → (A i).At w B b' (off' + i * 11))
theorem Ex.V.below {w w' : World} {B : Nat} {x : Ex} {v : Value} (h : x.V w B v) (hb : Below B w w') : x.V w' B v := by
  cases x with
  | no => exact h.elim
  | mk k it nm a n ax tk tn m A =>
    obtain ⟨sl, cap, h1, h2, h3, h4, h5, h6, h7⟩ := h
    refine ⟨sl, cap, h1, h2, h3, h4, h5, h6, fun h0 => ?_⟩
    obtain ⟨b', off', k1, k2, k3⟩ := h7 h0
    exact ⟨b', off', k1, k2, fun i hi => (k3 i hi).below hb⟩
/-- the cells of an expression, and its value -/
theorem Ex.At.val {w : World} {B : Nat} {x : Ex} {b off : Nat} (h : x.At w B b off) : b < B ∧ ∃ k it nm a n ax tk tn sl m cap, HeadAt w b off k it nm a n ax tk tn (.slice sl m cap) ∧ x.V w B (.agg #[.int .i64 k, .int .i64 it.kind, .int .i64 it.n, .string it.s, .string nm, .string a, .int .i64 n, .int .i64 ax, .int .i64 tk, .string tn, .slice sl m cap]) := by
  cases x with
  | no => exact h.elim
  | mk k it nm a n ax tk tn m A =>
    obtain ⟨h1, sl, cap, h2, h3, h4, h5⟩ := h
    exact ⟨h1, k, it, nm, a, n, ax, tk, tn, sl, m, cap, h2, sl, cap, rfl, h2.s1, h2.s2, h2.s3, h3, h4, h5⟩
/-- an expression that is put into a place of its own -/
theorem head_box (w : World) (k : Int) (it : It) (nm a : ByteArray) (n ax tk : Int) (tn : ByteArray) (v : Value) (s1 : it.s.size ≤ maxLen) (s2 : nm.size ≤ maxLen) (s3 : a.size ≤ maxLen) (T : TypeId) :
    HeadAt (w.alloc (.cells #[.int .i64 k, .int .i64 it.kind, .int .i64 it.n, .string it.s, .string nm, .string a, .int .i64 n, .int .i64 ax, .int .i64 tk, .string tn, v] T)) w.heap.size 0 k it nm a n ax tk tn v := by
  refine ⟨?_, ?_, ?_, ?_, ?_, ?_, ?_, ?_, ?_, ?_, ?_, s1, s2, s3⟩ <;> (rw [Lib.cell_of_heap (heap_alloc_new w _)]; rfl)
theorem sumTo_succ (f : Nat → Nat) (m : Nat) : sumTo f (m + 1) = sumTo f m + f m := rfl
/-- what the count of one tells -/
def CountOk (F : FuncId) (ext : Value → Array Value) (B : Nat) (q : Int → Bool) (x : Ex) : Prop :=
  ∀ (w : World) (v : Value), x.V w B v → B ≤ w.heap.size → nodesX x ≤ 4294967296 → Calls Tryd.prog F (ext v) w fun e w' => e = .returned (.int .i64 (cntX q x)) ∧ Below w.heap.size w w'
theorem nodes_part {A : Nat → Ex} {m i : Nat} (h : i < m) : nodesX (A i) ≤ sumTo (fun i => nodesX (A i)) m := by
  have := sumTo_part (fun i => nodesX (A i)) h
  have e : (fun i => nodesX (A i)) i = nodesX (A i) := rfl
  omega
end Go.Proofs.YtkhlfdnlpimojaaDoor
