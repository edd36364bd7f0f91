/-
  A LOOP WALKED ROUND BY ROUND: so many rounds as are named, at most.
-/
import Derived.WalkKit
import Derived.Lib.ValidU
import Derived.Lib.Strings
import Derived.Tactics
namespace Go.Proofs.YtkcejelmohameaaGreatDoor
open Go.RowKit

/-- may the byte stand in a name, at its beginning or behind that? -/
def nb (c : Int) (f : Bool) : Bool :=
  decide ((97 ≤ c ∧ c ≤ 122) ∨ (65 ≤ c ∧ c ≤ 90) ∨ c = 95 ∨ (f = false ∧ ((48 ≤ c ∧ c ≤ 57) ∨ c = 45 ∨ c = 46)))
theorem ret_bool {a b : Bool} (h : a = b) : Ending.returned (.bool a) = .returned (.bool b) := by rw [h]
theorem ret_int {k : IntKind} {a b : Int} (h : a = b) : Ending.returned (.int k a) = .returned (.int k b) := by rw [h]
/-- behind a call that leaves old memory alone: all old cells read as before -/
theorem bcell {W w1 : World} (hb : Below W.heap.size W w1) : (∀ b o, b < W.heap.size → w1.cell? ⟨b, o, none⟩ = W.cell? ⟨b, o, none⟩) ∧ (∀ b o, b < W.heap.size → w1.frozen? ⟨b, o, none⟩ = W.frozen? ⟨b, o, none⟩) :=
  ⟨fun b o h => hb.cell (p := ⟨b, o, none⟩) h, fun b o h => hb.frozen (p := ⟨b, o, none⟩) h⟩
def inB (n l h : Int) : Bool := decide (l ≤ n ∧ n ≤ h)

/-- the byte at a place, as a number -/
def byteAt (s : ByteArray) (k : Nat) : Int := ((s.data.toList.getD k 0).toNat : Int)
theorem byteAt_eq (s : ByteArray) (k : Nat) (h : k < s.size) : (s[k].toNat : Int) = byteAt s k := by
  unfold byteAt
  have h' : k < s.data.size := h
  rw [List.getD_eq_getElem?_getD, List.getElem?_eq_getElem (by simpa using h')]
  rfl

/-- the first k bytes of a text may stand in a name -/
def nameTo (s : ByteArray) (k : Nat) : Bool := (List.range k).all fun j => nb (byteAt s j) ((j : Int) == 0)
theorem nameTo_succ (s : ByteArray) (k : Nat) : nameTo s (k + 1) = (nameTo s k && nb (byteAt s k) ((k : Int) == 0)) := by
  simp [nameTo, List.range_succ, List.all_append]
theorem nameTo_no {s : ByteArray} {k n : Nat} (hk : k < n) (hb : nb (byteAt s k) ((k : Int) == 0) = false) : nameTo s n = false := by
  rw [nameTo, List.all_eq_false]
  exact ⟨k, List.mem_range.2 hk, by simp [hb]⟩
/-- what is said of a name -/
def nameF (s : ByteArray) : Int := if s.size < 1 ∨ 20 < s.size then 1 else if nameTo s s.size = true then 0 else 10
theorem nameF_size {s : ByteArray} (h : s.size < 1 ∨ 20 < s.size) : nameF s = 1 := by unfold nameF; rw [if_pos h]
theorem nameF_ok {s : ByteArray} (h : ¬ (s.size < 1 ∨ 20 < s.size)) (ho : nameTo s s.size = true) : nameF s = 0 := by
  unfold nameF; rw [if_neg h, if_pos ho]
theorem nameF_no {s : ByteArray} {k : Nat} (h : ¬ (s.size < 1 ∨ 20 < s.size)) (hk : k < s.size)
    (hb : nb (byteAt s k) ((k : Int) == 0) = false) : nameF s = 10 := by
  unfold nameF; rw [if_neg h, if_neg]
  rw [nameTo_no hk hb]; simp

/-- may the byte stand in a value? -/
def ctl (c : Int) : Bool := decide (32 ≤ c ∨ c = 9 ∨ c = 10)
theorem ctl_yes {c : Int} (h : ctl c = true) : (32 ≤ c) ∨ ((c < 32) ∧ (c == 9) = true ∧ (c != 9) = false) ∨ ((c < 32) ∧ (c == 9) = false ∧ (c != 9) = true ∧ (c == 10) = true ∧ (c != 10) = false) := by
  have := of_decide_eq_true h
  rcases this with h | rfl | rfl
  · exact .inl h
  · exact .inr (.inl (by decide))
  · exact .inr (.inr (by decide))
theorem ctl_no {c : Int} (h : ctl c = false) : (c < 32) ∧ (c == 9) = false ∧ (c != 9) = true ∧ (c == 10) = false ∧ (c != 10) = true := by
  have := of_decide_eq_false h
  refine ⟨by omega, ?_, ?_, ?_, ?_⟩ <;> simp <;> omega
def ctlTo (s : ByteArray) (k : Nat) : Bool := (List.range k).all fun j => ctl (byteAt s j)
theorem ctlTo_succ (s : ByteArray) (k : Nat) : ctlTo s (k + 1) = (ctlTo s k && ctl (byteAt s k)) := by
  simp [ctlTo, List.range_succ, List.all_append]
theorem ctlTo_no {s : ByteArray} {k n : Nat} (hk : k < n) (hb : ctl (byteAt s k) = false) : ctlTo s n = false := by
  rw [ctlTo, List.all_eq_false]
  exact ⟨k, List.mem_range.2 hk, by simp [hb]⟩
/-- what is said of a value -/
def textF (s : ByteArray) : Int :=
  if 20000 < s.size then 1 else if (Lib.validD s.data.toList && ctlTo s s.size) = true then 0 else 4
theorem textF_size {s : ByteArray} (h : 20000 < s.size) : textF s = 1 := by unfold textF; rw [if_pos h]
theorem textF_ok {s : ByteArray} (h : ¬ 20000 < s.size) (hv : Lib.validD s.data.toList = true) (ho : ctlTo s s.size = true) : textF s = 0 := by
  unfold textF; rw [if_neg h, hv, ho]; rfl
theorem textF_no {s : ByteArray} (h : ¬ 20000 < s.size) (hv : (Lib.validD s.data.toList && ctlTo s s.size) = false) : textF s = 4 := by
  unfold textF; rw [if_neg h, hv]; rfl
theorem textF_ctl {s : ByteArray} {k : Nat} (h : ¬ 20000 < s.size) (hk : k < s.size) (hb : ctl (byteAt s k) = false) : textF s = 4 :=
  textF_no h (by rw [ctlTo_no hk hb, Bool.and_false])
end Go.Proofs.YtkcejelmohameaaGreatDoor
set_option linter.unusedVariables false
namespace Go.Proofs.YtkcejelmohameaaGreatDoor
open Go.RowKit

/-- an item -/
structure It where
  kind : Int
  n : Int
  s : ByteArray
/-- may it be? -/
def mayI (x : It) : Bool :=
  if x.kind = 1 then decide (x.s.size = 0 ∧ 0 ≤ x.n ∧ x.n < 100000)
  else if x.kind = 2 then decide (x.s.size = 0 ∧ -1099511627776 ≤ x.n ∧ x.n ≤ 1099511627776)
  else if x.kind = 3 then decide (x.n = 0 ∧ textF x.s = 0)
  else if x.kind = 4 then decide (x.s.size = 0 ∧ (x.n = 0 ∨ x.n = 1)) else false
theorem isEmpty_yes {s : ByteArray} (h : s.size = 0) : s.toList.isEmpty = true := by
  rw [ByteArray.toList_eq, List.isEmpty_iff, List.eq_nil_iff_length_eq_zero]; exact h
theorem isEmpty_no {s : ByteArray} (h : ¬ s.size = 0) : s.toList.isEmpty = false := by
  rw [ByteArray.toList_eq, List.isEmpty_eq_false_iff, ne_eq, List.eq_nil_iff_length_eq_zero]; exact h

/-- the first fault of some -/
def firstE (f : Nat → Int) (n : Nat) : Int := match (List.range n).find? (fun k => f k != 0) with
  | some k => f k
  | none => 0
theorem firstE_err {f : Nat → Int} {n k : Nat} (hk : k < n) (h0 : ∀ j, j < k → f j = 0) (h1 : f k ≠ 0) : firstE f n = f k := by
  unfold firstE
  have : (List.range n).find? (fun k => f k != 0) = some k := by
    rw [List.find?_range_eq_some]
    refine ⟨by simpa using h1, by simpa using hk, fun j hj => by simp [h0 j hj]⟩
  rw [this]
theorem firstE_ok {f : Nat → Int} {n : Nat} (h : ∀ j, j < n → f j = 0) : firstE f n = 0 := by
  unfold firstE
  have : (List.range n).find? (fun k => f k != 0) = none := by
    rw [List.find?_eq_none]
    intro j hj
    simp [h j (List.mem_range.1 hj)]
  rw [this]
theorem firstE_zero {f : Nat → Int} {n : Nat} (h : firstE f n = 0) : ∀ j, j < n → f j = 0 := by
  intro j
  induction j using Nat.strongRecOn with
  | ind j ih =>
    intro hj
    apply Classical.byContradiction
    intro hne
    have := firstE_err hj (fun i hi => ih i hi (by omega)) hne
    rw [this] at h
    exact hne h

/-- is the text among the first k? -/
def amongB (C : Nat → ByteArray) (k : Nat) (s : ByteArray) : Bool := (List.range k).any fun j => (C j).toList == s.toList
theorem among_yes {C : Nat → ByteArray} {k j : Nat} {s : ByteArray} (hj : j < k) (h : ((C j).toList == s.toList) = true) : amongB C k s = true := by
  unfold amongB
  rw [List.any_eq_true]
  exact ⟨j, List.mem_range.2 hj, h⟩
theorem among_no {C : Nat → ByteArray} {k : Nat} {s : ByteArray} (h : ∀ j, j < k → ((C j).toList == s.toList) = false) : amongB C k s = false := by
  unfold amongB
  rw [List.any_eq_false]
  intro j hj
  simp [h j (List.mem_range.1 hj)]
/-- what is said of the k-th column -/
def colE (C : Nat → ByteArray) (k : Nat) : Int := if (C k).size < 1 ∨ 20 < (C k).size then 10 else if amongB C k (C k) = true then 7 else 0
/-- what is said of columns -/
def colsF (C : Nat → ByteArray) (n : Nat) : Int := if 8 < n then 1 else firstE (colE C) n
/-- .. and of so many rows -/
def madeF (C : Nat → ByteArray) (n m : Nat) : Int := if colsF C n = 0 then (if 1000000 < m then 1 else 0) else colsF C n
/-- may all items of a row be? -/
def allB (X : Nat → It) (n : Nat) : Bool := (List.range n).all fun k => mayI (X k)
theorem all_no {X : Nat → It} {n k : Nat} (hk : k < n) (h : mayI (X k) = false) : allB X n = false := by
  unfold allB
  rw [List.all_eq_false]
  exact ⟨k, List.mem_range.2 hk, by simp [h]⟩
theorem all_yes {X : Nat → It} {n : Nat} (h : ∀ k, k < n → mayI (X k) = true) : allB X n = true := by
  unfold allB
  rw [List.all_eq_true]
  exact fun k hk => h k (List.mem_range.1 hk)
/-- a list of items: how many, and which -/
structure Row where
  len : Nat
  at_ : Nat → It
/-- what is said of the i-th row -/
def rowE (n : Nat) (R : Nat → Row) (i : Nat) : Int := if (R i).len = n then (if allB (R i).at_ (R i).len = true then 0 else 12) else 9
/-- what is said of a relation -/
def relF (C : Nat → ByteArray) (n : Nat) (R : Nat → Row) (m : Nat) : Int := if madeF C n m = 0 then firstE (rowE n R) m else madeF C n m
end Go.Proofs.YtkcejelmohameaaGreatDoor
set_option linter.unusedVariables false
namespace Go.Proofs.YtkcejelmohameaaGreatDoor
open Go.RowKit

/-- an expression, or none (there must be something that stands where there is no argument) -/
inductive Ex where
  | no
  | mk (kind : Int) (item : It) (name at_ : ByteArray) (n axis tk : Int) (tn : ByteArray) (m : Nat) (A : Nat → Ex)
theorem bytes_eq {x y : ByteArray} (h : x.toList = y.toList) : x = y := by
  have h' : x.data.toList = y.data.toList := by simpa [ByteArray.toList_eq] using h
  cases x; cases y
  simp only [ByteArray.mk.injEq]
  exact Array.toList_inj.1 h'
theorem same_iff {x y : ByteArray} : (x.toList == y.toList) = true ↔ x = y := ⟨fun h => bytes_eq (by simpa using h), fun h => by subst h; simp⟩
theorem same_no {x y : ByteArray} (h : x ≠ y) : (x.toList == y.toList) = false := by
  cases e : (x.toList == y.toList)
  · rfl
  · exact absurd (same_iff.1 e) h
def makeF (n : Int) (x : ByteArray) : Int := if n = 1 ∨ n = 2 then nameF x else if n = 3 then 0 else 3
end Go.Proofs.YtkcejelmohameaaGreatDoor
set_option linter.unusedVariables false
namespace Go.Proofs.YtkcejelmohameaaGreatDoor
open Go

/-- the loop ends within n rounds -/
def LoopN (P : Program) (c : Code) (Q : Exit → Act → World → Prop) : Nat → Act → World → Prop
  | 0 => fun _ _ => False
  | n + 1 => fun a w => c.wp P (Exit.then (LoopN P c Q n) Q) a w
theorem least_of {p : Nat → Prop} (h : ∃ n, p n) : ∃ m, p m ∧ ∀ k, k < m → ¬ p k := by
  obtain ⟨n, hn⟩ := h
  induction n using Nat.strongRecOn with
  | ind n ih =>
    by_cases hx : ∃ k, k < n ∧ p k
    · obtain ⟨k, hk, hp⟩ := hx
      exact ih k hk hp
    · exact ⟨n, hn, fun k hk hp => hx ⟨k, hk, hp⟩⟩
open Classical in
noncomputable def leastN (p : Nat → Prop) : Nat := if h : ∃ n, p n then Classical.choose (least_of h) else 0
theorem leastN_is {p : Nat → Prop} (h : ∃ n, p n) : p (leastN p) ∧ ∀ k, p k → leastN p ≤ k := by
  have e : leastN p = Classical.choose (least_of h) := dif_pos h
  rw [e]
  have hs := Classical.choose_spec (least_of h)
  exact ⟨hs.1, fun k hk => Classical.byContradiction fun hn => hs.2 k (by omega) hk⟩
theorem LoopN.next {P : Program} {c : Code} {Q : Exit → Act → World → Prop} {n : Nat} {a : Act} {w : World} (h : c.wp P (Exit.then (LoopN P c Q n) Q) a w) : LoopN P c Q (n + 1) a w := h
theorem LoopN.wp {P : Program} {c : Code} {Q : Exit → Act → World → Prop} (n : Nat) {a : Act} {w : World} (h : LoopN P c Q n a w) : (Code.loop c).wp P Q a w := by
  refine wp_loop (fun a w => ∃ n, LoopN P c Q n a w) (fun a w => leastN fun n => LoopN P c Q n a w) ⟨n, h⟩ ?_
  intro a w hI
  obtain ⟨h1, _⟩ := leastN_is hI
  generalize hm : leastN (fun n => LoopN P c Q n a w) = m at h1 ⊢
  cases m with
  | zero => exact h1.elim
  | succ m =>
    refine Code.wp_mono (fun e a' w' q => ?_) (show c.wp P (Exit.then (LoopN P c Q m) Q) a w from h1)
    cases e with
    | normal => exact ⟨⟨m, q⟩, Nat.lt_succ_of_le ((leastN_is ⟨m, q⟩).2 m q)⟩
    | _ => exact q
end Go.Proofs.YtkcejelmohameaaGreatDoor
