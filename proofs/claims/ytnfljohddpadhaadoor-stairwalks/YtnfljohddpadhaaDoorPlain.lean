/-
  PLAIN FUNCTIONS ON BYTES, and laws of them: what a name and a value answer. Nothing of the program.
-/
import Derived.WalkKit
import Derived.Lib.ValidU
namespace Go.Proofs.YtnfljohddpadhaaDoor
open Go.RowKit

/-- may the byte stand in a name, at its beginning or behind that? -/
def nb (c : Int) (f : Bool) : Bool :=
  decide ((97 ≤ c ∧ c ≤ 122) ∨ (65 ≤ c ∧ c ≤ 90) ∨ c = 95 ∨ (f = false ∧ ((48 ≤ c ∧ c ≤ 57) ∨ c = 45 ∨ c = 46)))
theorem ret_bool {a b : Bool} (h : a = b) : Ending.returned (.bool a) = .returned (.bool b) := by rw [h]
theorem ret_int {k : IntKind} {a b : Int} (h : a = b) : Ending.returned (.int k a) = .returned (.int k b) := by rw [h]
/-- behind a call that leaves old memory alone: all old cells read as before -/
theorem bcell {W w1 : World} (hb : Below W.heap.size W w1) : (∀ b o, b < W.heap.size → w1.cell? ⟨b, o, none⟩ = W.cell? ⟨b, o, none⟩) ∧ (∀ b o, b < W.heap.size → w1.frozen? ⟨b, o, none⟩ = W.frozen? ⟨b, o, none⟩) :=
  ⟨fun b o h => hb.cell (p := ⟨b, o, none⟩) h, fun b o h => hb.frozen (p := ⟨b, o, none⟩) h⟩
def inB (n l h : Int) : Bool := decide (l ≤ n ∧ n ≤ h)

/-- the byte at a place, as a number -/
def byteAt (s : ByteArray) (k : Nat) : Int := ((s.data.toList.getD k 0).toNat : Int)
theorem byteAt_eq (s : ByteArray) (k : Nat) (h : k < s.size) : (s[k].toNat : Int) = byteAt s k := by
  unfold byteAt
  have h' : k < s.data.size := h
  rw [List.getD_eq_getElem?_getD, List.getElem?_eq_getElem (by simpa using h')]
  rfl

/-- the first k bytes of a text may stand in a name -/
def nameTo (s : ByteArray) (k : Nat) : Bool := (List.range k).all fun j => nb (byteAt s j) ((j : Int) == 0)
theorem nameTo_succ (s : ByteArray) (k : Nat) : nameTo s (k + 1) = (nameTo s k && nb (byteAt s k) ((k : Int) == 0)) := by
  simp [nameTo, List.range_succ, List.all_append]
theorem nameTo_no {s : ByteArray} {k n : Nat} (hk : k < n) (hb : nb (byteAt s k) ((k : Int) == 0) = false) : nameTo s n = false := by
  rw [nameTo, List.all_eq_false]
  exact ⟨k, List.mem_range.2 hk, by simp [hb]⟩
/-- what is said of a name -/
def nameF (s : ByteArray) : Int := if s.size < 1 ∨ 20 < s.size then 1 else if nameTo s s.size = true then 0 else 10
theorem nameF_size {s : ByteArray} (h : s.size < 1 ∨ 20 < s.size) : nameF s = 1 := by unfold nameF; rw [if_pos h]
theorem nameF_ok {s : ByteArray} (h : ¬ (s.size < 1 ∨ 20 < s.size)) (ho : nameTo s s.size = true) : nameF s = 0 := by
  unfold nameF; rw [if_neg h, if_pos ho]
theorem nameF_no {s : ByteArray} {k : Nat} (h : ¬ (s.size < 1 ∨ 20 < s.size)) (hk : k < s.size)
    (hb : nb (byteAt s k) ((k : Int) == 0) = false) : nameF s = 10 := by
  unfold nameF; rw [if_neg h, if_neg]
  rw [nameTo_no hk hb]; simp

/-- may the byte stand in a value? -/
def ctl (c : Int) : Bool := decide (32 ≤ c ∨ c = 9 ∨ c = 10)
theorem ctl_yes {c : Int} (h : ctl c = true) : (32 ≤ c) ∨ ((c < 32) ∧ (c == 9) = true ∧ (c != 9) = false) ∨ ((c < 32) ∧ (c == 9) = false ∧ (c != 9) = true ∧ (c == 10) = true ∧ (c != 10) = false) := by
  have := of_decide_eq_true h
  rcases this with h | rfl | rfl
  · exact .inl h
  · exact .inr (.inl (by decide))
  · exact .inr (.inr (by decide))
theorem ctl_no {c : Int} (h : ctl c = false) : (c < 32) ∧ (c == 9) = false ∧ (c != 9) = true ∧ (c == 10) = false ∧ (c != 10) = true := by
  have := of_decide_eq_false h
  refine ⟨by omega, ?_, ?_, ?_, ?_⟩ <;> simp <;> omega
def ctlTo (s : ByteArray) (k : Nat) : Bool := (List.range k).all fun j => ctl (byteAt s j)
theorem ctlTo_succ (s : ByteArray) (k : Nat) : ctlTo s (k + 1) = (ctlTo s k && ctl (byteAt s k)) := by
  simp [ctlTo, List.range_succ, List.all_append]
theorem ctlTo_no {s : ByteArray} {k n : Nat} (hk : k < n) (hb : ctl (byteAt s k) = false) : ctlTo s n = false := by
  rw [ctlTo, List.all_eq_false]
  exact ⟨k, List.mem_range.2 hk, by simp [hb]⟩
/-- what is said of a value -/
def textF (s : ByteArray) : Int :=
  if 20000 < s.size then 1 else if (Lib.validD s.data.toList && ctlTo s s.size) = true then 0 else 4
theorem textF_size {s : ByteArray} (h : 20000 < s.size) : textF s = 1 := by unfold textF; rw [if_pos h]
theorem textF_ok {s : ByteArray} (h : ¬ 20000 < s.size) (hv : Lib.validD s.data.toList = true) (ho : ctlTo s s.size = true) : textF s = 0 := by
  unfold textF; rw [if_neg h, hv, ho]; rfl
theorem textF_no {s : ByteArray} (h : ¬ 20000 < s.size) (hv : (Lib.validD s.data.toList && ctlTo s s.size) = false) : textF s = 4 := by
  unfold textF; rw [if_neg h, hv]; rfl
theorem textF_ctl {s : ByteArray} {k : Nat} (h : ¬ 20000 < s.size) (hk : k < s.size) (hb : ctl (byteAt s k) = false) : textF s = 4 :=
  textF_no h (by rw [ctlTo_no hk hb, Bool.and_false])
end Go.Proofs.YtnfljohddpadhaaDoor
