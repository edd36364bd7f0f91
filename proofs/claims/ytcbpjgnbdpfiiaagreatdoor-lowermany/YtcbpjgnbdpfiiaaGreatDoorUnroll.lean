/-
  A LOOP WALKED ROUND BY ROUND: so many rounds as are named, at most.
-/
import Derived.WalkKit
import Derived.Lib.ValidU
import Derived.Lib.Strings
import Derived.Tactics
namespace Go.Proofs.YtcbpjgnbdpfiiaaGreatDoor
open Go.RowKit

/-- may the byte stand in a name, at its beginning or behind that? -/
def nb (c : Int) (f : Bool) : Bool :=
  decide ((97 ≤ c ∧ c ≤ 122) ∨ (65 ≤ c ∧ c ≤ 90) ∨ c = 95 ∨ (f = false ∧ ((48 ≤ c ∧ c ≤ 57) ∨ c = 45 ∨ c = 46)))
theorem ret_bool {a b : Bool} (h : a = b) : Ending.returned (.bool a) = .returned (.bool b) := by rw [h]
theorem ret_int {k : IntKind} {a b : Int} (h : a = b) : Ending.returned (.int k a) = .returned (.int k b) := by rw [h]
/-- behind a call that leaves old memory alone: all old cells read as before -/
theorem bcell {W w1 : World} (hb : Below W.heap.size W w1) : (∀ b o, b < W.heap.size → w1.cell? ⟨b, o, none⟩ = W.cell? ⟨b, o, none⟩) ∧ (∀ b o, b < W.heap.size → w1.frozen? ⟨b, o, none⟩ = W.frozen? ⟨b, o, none⟩) :=
  ⟨fun b o h => hb.cell (p := ⟨b, o, none⟩) h, fun b o h => hb.frozen (p := ⟨b, o, none⟩) h⟩
def inB (n l h : Int) : Bool := decide (l ≤ n ∧ n ≤ h)

/-- the byte at a place, as a number -/
def byteAt (s : ByteArray) (k : Nat) : Int := ((s.data.toList.getD k 0).toNat : Int)
theorem byteAt_eq (s : ByteArray) (k : Nat) (h : k < s.size) : (s[k].toNat : Int) = byteAt s k := by
  unfold byteAt
  have h' : k < s.data.size := h
  rw [List.getD_eq_getElem?_getD, List.getElem?_eq_getElem (by simpa using h')]
  rfl

/-- the first k bytes of a text may stand in a name -/
def nameTo (s : ByteArray) (k : Nat) : Bool := (List.range k).all fun j => nb (byteAt s j) ((j : Int) == 0)
theorem nameTo_succ (s : ByteArray) (k : Nat) : nameTo s (k + 1) = (nameTo s k && nb (byteAt s k) ((k : Int) == 0)) := by
  simp [nameTo, List.range_succ, List.all_append]
theorem nameTo_no {s : ByteArray} {k n : Nat} (hk : k < n) (hb : nb (byteAt s k) ((k : Int) == 0) = false) : nameTo s n = false := by
  rw [nameTo, List.all_eq_false]
  exact ⟨k, List.mem_range.2 hk, by simp [hb]⟩
/-- what is said of a name -/
def nameF (s : ByteArray) : Int := if s.size < 1 ∨ 20 < s.size then 1 else if nameTo s s.size = true then 0 else 10
theorem nameF_size {s : ByteArray} (h : s.size < 1 ∨ 20 < s.size) : nameF s = 1 := by unfold nameF; rw [if_pos h]
theorem nameF_ok {s : ByteArray} (h : ¬ (s.size < 1 ∨ 20 < s.size)) (ho : nameTo s s.size = true) : nameF s = 0 := by
  unfold nameF; rw [if_neg h, if_pos ho]
theorem nameF_no {s : ByteArray} {k : Nat} (h : ¬ (s.size < 1 ∨ 20 < s.size)) (hk : k < s.size)
    (hb : nb (byteAt s k) ((k : Int) == 0) = false) : nameF s = 10 := by
  unfold nameF; rw [if_neg h, if_neg]
  rw [nameTo_no hk hb]; simp

/-- may the byte stand in a value? -/
def ctl (c : Int) : Bool := decide (32 ≤ c ∨ c = 9 ∨ c = 10)
theorem ctl_yes {c : Int} (h : ctl c = true) : (32 ≤ c) ∨ ((c < 32) ∧ (c == 9) = true ∧ (c != 9) = false) ∨ ((c < 32) ∧ (c == 9) = false ∧ (c != 9) = true ∧ (c == 10) = true ∧ (c != 10) = false) := by
  have := of_decide_eq_true h
  rcases this with h | rfl | rfl
  · exact .inl h
  · exact .inr (.inl (by decide))
  · exact .inr (.inr (by decide))
theorem ctl_no {c : Int} (h : ctl c = false) : (c < 32) ∧ (c == 9) = false ∧ (c != 9) = true ∧ (c == 10) = false ∧ (c != 10) = true := by
  have := of_decide_eq_false h
  refine ⟨by omega, ?_, ?_, ?_, ?_⟩ <;> simp <;> omega
def ctlTo (s : ByteArray) (k : Nat) : Bool := (List.range k).all fun j => ctl (byteAt s j)
theorem ctlTo_succ (s : ByteArray) (k : Nat) : ctlTo s (k + 1) = (ctlTo s k && ctl (byteAt s k)) := by
  simp [ctlTo, List.range_succ, List.all_append]
theorem ctlTo_no {s : ByteArray} {k n : Nat} (hk : k < n) (hb : ctl (byteAt s k) = false) : ctlTo s n = false := by
  rw [ctlTo, List.all_eq_false]
  exact ⟨k, List.mem_range.2 hk, by simp [hb]⟩
/-- what is said of a value -/
def textF (s : ByteArray) : Int :=
  if 20000 < s.size then 1 else if (Lib.validD s.data.toList && ctlTo s s.size) = true then 0 else 4
theorem textF_size {s : ByteArray} (h : 20000 < s.size) : textF s = 1 := by unfold textF; rw [if_pos h]
theorem textF_ok {s : ByteArray} (h : ¬ 20000 < s.size) (hv : Lib.validD s.data.toList = true) (ho : ctlTo s s.size = true) : textF s = 0 := by
  unfold textF; rw [if_neg h, hv, ho]; rfl
theorem textF_no {s : ByteArray} (h : ¬ 20000 < s.size) (hv : (Lib.validD s.data.toList && ctlTo s s.size) = false) : textF s = 4 := by
  unfold textF; rw [if_neg h, hv]; rfl
theorem textF_ctl {s : ByteArray} {k : Nat} (h : ¬ 20000 < s.size) (hk : k < s.size) (hb : ctl (byteAt s k) = false) : textF s = 4 :=
  textF_no h (by rw [ctlTo_no hk hb, Bool.and_false])
end Go.Proofs.YtcbpjgnbdpfiiaaGreatDoor
set_option linter.unusedVariables false
namespace Go.Proofs.YtcbpjgnbdpfiiaaGreatDoor
open Go.RowKit

/-- an item -/
structure It where
  kind : Int
  n : Int
  s : ByteArray
/-- may it be? -/
def mayI (x : It) : Bool :=
  if x.kind = 1 then decide (x.s.size = 0 ∧ 0 ≤ x.n ∧ x.n < 100000)
  else if x.kind = 2 then decide (x.s.size = 0 ∧ -1099511627776 ≤ x.n ∧ x.n ≤ 1099511627776)
  else if x.kind = 3 then decide (x.n = 0 ∧ textF x.s = 0)
  else if x.kind = 4 then decide (x.s.size = 0 ∧ (x.n = 0 ∨ x.n = 1)) else false
theorem isEmpty_yes {s : ByteArray} (h : s.size = 0) : s.toList.isEmpty = true := by
  rw [ByteArray.toList_eq, List.isEmpty_iff, List.eq_nil_iff_length_eq_zero]; exact h
theorem isEmpty_no {s : ByteArray} (h : ¬ s.size = 0) : s.toList.isEmpty = false := by
  rw [ByteArray.toList_eq, List.isEmpty_eq_false_iff, ne_eq, List.eq_nil_iff_length_eq_zero]; exact h

/-- the first fault of some -/
def firstE (f : Nat → Int) (n : Nat) : Int := match (List.range n).find? (fun k => f k != 0) with
  | some k => f k
  | none => 0
theorem firstE_err {f : Nat → Int} {n k : Nat} (hk : k < n) (h0 : ∀ j, j < k → f j = 0) (h1 : f k ≠ 0) : firstE f n = f k := by
  unfold firstE
  have : (List.range n).find? (fun k => f k != 0) = some k := by
    rw [List.find?_range_eq_some]
    refine ⟨by simpa using h1, by simpa using hk, fun j hj => by simp [h0 j hj]⟩
  rw [this]
theorem firstE_ok {f : Nat → Int} {n : Nat} (h : ∀ j, j < n → f j = 0) : firstE f n = 0 := by
  unfold firstE
  have : (List.range n).find? (fun k => f k != 0) = none := by
    rw [List.find?_eq_none]
    intro j hj
    simp [h j (List.mem_range.1 hj)]
  rw [this]
theorem firstE_zero {f : Nat → Int} {n : Nat} (h : firstE f n = 0) : ∀ j, j < n → f j = 0 := by
  intro j
  induction j using Nat.strongRecOn with
  | ind j ih =>
    intro hj
    apply Classical.byContradiction
    intro hne
    have := firstE_err hj (fun i hi => ih i hi (by omega)) hne
    rw [this] at h
    exact hne h

/-- a list of items: how many, and which -/
structure Row where
  len : Nat
  at_ : Nat → It
end Go.Proofs.YtcbpjgnbdpfiiaaGreatDoor
set_option linter.unusedVariables false
namespace Go.Proofs.YtcbpjgnbdpfiiaaGreatDoor
open Go.RowKit

/-- an expression, or none (there must be something that stands where there is no argument) -/
inductive Ex where
  | no
  | mk (kind : Int) (item : It) (name at_ : ByteArray) (n axis tk : Int) (tn : ByteArray) (m : Nat) (A : Nat → Ex)
def fn1 : List ByteArray := [⟨#[99, 111, 117, 110, 116]⟩, ⟨#[101, 109, 112, 116, 121]⟩, ⟨#[101, 120, 105, 115, 116, 115]⟩, ⟨#[110, 111, 116]⟩, ⟨#[98, 111, 111, 108, 101, 97, 110]⟩, ⟨#[115, 117, 109]⟩, ⟨#[109, 105, 110]⟩, ⟨#[109, 97, 120]⟩, ⟨#[100, 105, 115, 116, 105, 110, 99, 116]⟩, ⟨#[114, 101, 118, 101, 114, 115, 101]⟩, ⟨#[115, 116, 114, 105, 110, 103]⟩, ⟨#[100, 97, 116, 97]⟩, ⟨#[105, 110, 116, 101, 103, 101, 114]⟩, ⟨#[110, 97, 109, 101]⟩, ⟨#[108, 101, 110, 103, 116, 104]⟩, ⟨#[100, 100, 111]⟩, ⟨#[110, 101, 103]⟩]
def fn2 : List ByteArray := [⟨#[99, 111, 110, 99, 97, 116]⟩, ⟨#[99, 111, 110, 116, 97, 105, 110, 115]⟩, ⟨#[115, 116, 97, 114, 116, 115]⟩, ⟨#[43]⟩, ⟨#[45]⟩, ⟨#[42]⟩, ⟨#[100, 105, 118]⟩, ⟨#[109, 111, 100]⟩, ⟨#[61]⟩, ⟨#[33, 61]⟩, ⟨#[60]⟩, ⟨#[60, 61]⟩, ⟨#[62]⟩, ⟨#[62, 61]⟩, ⟨#[105, 115]⟩, ⟨#[60, 60]⟩, ⟨#[62, 62]⟩, ⟨#[97, 110, 100]⟩, ⟨#[111, 114]⟩, ⟨#[116, 111]⟩, ⟨#[117, 110, 105, 111, 110]⟩, ⟨#[105, 110, 116, 101, 114, 115, 101, 99, 116]⟩, ⟨#[101, 120, 99, 101, 112, 116]⟩, ⟨#[104, 111, 108, 100, 115]⟩]
def fn3 : List ByteArray := [⟨#[115, 117, 98, 115, 116, 114, 105, 110, 103]⟩]
def hasB (L : List ByteArray) (s : ByteArray) : Bool := L.any fun t => s.toList == t.toList
/-- how many arguments a function has; -1: there is none -/
def argsN (s : ByteArray) : Int := if hasB fn1 s = true then 1 else if hasB fn2 s = true then 2 else if hasB fn3 s = true then 3 else -1
theorem bytes_eq {x y : ByteArray} (h : x.toList = y.toList) : x = y := by
  have h' : x.data.toList = y.data.toList := by simpa [ByteArray.toList_eq] using h
  cases x; cases y
  simp only [ByteArray.mk.injEq]
  exact Array.toList_inj.1 h'
theorem same_iff {x y : ByteArray} : (x.toList == y.toList) = true ↔ x = y := ⟨fun h => bytes_eq (by simpa using h), fun h => by subst h; simp⟩
theorem same_no {x y : ByteArray} (h : x ≠ y) : (x.toList == y.toList) = false := by
  cases e : (x.toList == y.toList)
  · rfl
  · exact absurd (same_iff.1 e) h
theorem hasB_iff {L : List ByteArray} {s : ByteArray} : hasB L s = true ↔ s ∈ L := by
  unfold hasB
  rw [List.any_eq_true]
  exact ⟨fun ⟨t, h1, h2⟩ => by rw [same_iff.1 h2]; exact h1, fun h => ⟨s, h, by simp⟩⟩

/-- may it have so many arguments -/
def cntF (k : Int) (m : Nat) : Int :=
  if k = 1 ∨ k = 2 ∨ k = 11 then (if m = 0 then 0 else 11)
  else if k = 9 ∨ k = 10 then (if m = 1 then 0 else 11)
  else if k = 4 ∨ k = 5 then (if m = 2 then 0 else 11)
  else if k = 6 ∨ k = 7 then (if m = 3 then 0 else 11)
  else if k = 3 ∨ k = 8 then 0 else 3
def bindsB (k : Int) : Bool := decide (k = 4 ∨ k = 5 ∨ k = 6)
def litF (x : It) : Int := if x.kind = 1 then 12 else if mayI x = true then 0 else 12
def namesF (x a : ByteArray) : Int := if x.size < 1 ∨ 20 < x.size ∨ 20 < a.size then 10 else if (x.toList == a.toList) = true then 7 else 0
def stepF (ax tk : Int) : Int := if (1 ≤ ax ∧ ax ≤ 12) ∧ 1 ≤ tk ∧ tk ≤ 5 then 0 else 3
def makeF (n : Int) (x : ByteArray) : Int := if n = 1 ∨ n = 2 then nameF x else if n = 3 then 0 else 3
def callF (x : ByteArray) (m : Nat) : Int := if argsN x < 0 then 6 else if argsN x = m then 0 else 11
def noB : ByteArray := ⟨#[]⟩
def atN (k : Int) (a : ByteArray) : ByteArray := if k = 4 then noB else a
def kindF (S : List ByteArray) (k : Int) (it : It) (nm a : ByteArray) (n ax tk : Int) (m : Nat) : Int :=
  if k = 1 then litF it else if k = 2 then (if hasB S nm = true then 0 else 6) else if k = 4 ∨ k = 5 ∨ k = 6 then namesF nm (atN k a)
  else if k = 8 then callF nm m else if k = 9 then stepF ax tk else if k = 10 then makeF n nm else 0
/-- what is refused of an expression alone -/
def aloneF (S : List ByteArray) (k : Int) (it : It) (nm a : ByteArray) (n ax tk : Int) (m : Nat) : Int :=
  if cntF k m = 0 then kindF S k it nm a n ax tk m else cntF k m
/-- the names within -/
def addN (S : List ByteArray) (x : ByteArray) : List ByteArray := if x.size = 0 then S else S ++ [x]
def innS (S : List ByteArray) (k : Int) (nm a : ByteArray) : List ByteArray := if bindsB k = true then addN (S ++ [nm]) (atN k a) else S
/-- what is refused of an expression -/
def exF : Ex → List ByteArray → Int
  | .no, _ => 0
  | .mk k it nm a n ax tk tn m A, S => if aloneF S k it nm a n ax tk m = 0 then firstE (fun i => exF (A i) (if i = 0 then S else innS S k nm a)) m else aloneF S k it nm a n ax tk m
def sumTo (f : Nat → Nat) : Nat → Nat
  | 0 => 0
  | m + 1 => sumTo f m + f m
/-- how many there are of some kinds -/
def cntX (p : Int → Bool) : Ex → Nat
  | .no => if p 0 = true then 1 else 0
  | .mk k _ _ _ _ _ _ _ m A => (if p k = true then 1 else 0) + sumTo (fun i => cntX p (A i)) m
theorem sumTo_le {f g : Nat → Nat} (h : ∀ i, f i ≤ g i) : ∀ m, sumTo f m ≤ sumTo g m
  | 0 => Nat.le_refl _
  | m + 1 => by have := sumTo_le h m; have := h m; simp only [sumTo]; omega
theorem sumTo_mono (f : Nat → Nat) {i m : Nat} (h : i ≤ m) : sumTo f i ≤ sumTo f m := by
  induction m with
  | zero => rw [Nat.le_zero.1 h]; exact Nat.le_refl _
  | succ m ih =>
    by_cases e : i = m + 1
    · subst e; exact Nat.le_refl _
    · have := ih (by omega); simp only [sumTo]; omega
theorem sumTo_part (f : Nat → Nat) {i m : Nat} (h : i < m) : sumTo f i + f i ≤ sumTo f m := sumTo_mono f (show i + 1 ≤ m from h)
theorem cntX_le (p : Int → Bool) (x : Ex) : cntX p x ≤ cntX (fun _ => true) x := by
  induction x with
  | no => simp only [cntX, if_true]; split <;> omega
  | mk k it nm a n ax tk tn m A ih =>
    have := sumTo_le (f := fun i => cntX p (A i)) (g := fun i => cntX (fun _ => true) (A i)) ih m
    simp only [cntX, if_true]
    split <;> omega
def nodesX (x : Ex) : Nat := cntX (fun _ => true) x
theorem nodes_is (k : Int) (it : It) (nm a : ByteArray) (n ax tk : Int) (tn : ByteArray) (m : Nat) (A : Nat → Ex) : nodesX (.mk k it nm a n ax tk tn m A) = 1 + sumTo (fun i => nodesX (A i)) m := rfl
theorem nodes_len (m : Nat) (A : Nat → Ex) : m ≤ sumTo (fun i => nodesX (A i)) m := by
  induction m with
  | zero => exact Nat.le_refl _
  | succ m ih =>
    have h1 : 1 ≤ nodesX (A m) := by
      cases A m with
      | no => exact Nat.le_refl _
      | mk k it nm a n ax tk tn m' A' => rw [nodes_is]; omega
    simp only [sumTo]; omega
def loopB (k : Int) : Bool := decide (k = 5 ∨ k = 6)
def makeB (k : Int) : Bool := decide (k = 10)
/-- what is refused of an expression of the core -/
def coreF (x : Ex) : Int := if exF x [] = 0 then (if 6 < cntX loopB x ∨ 6 < cntX makeB x ∨ 700 < nodesX x then 1 else 0) else exF x []
/-- the first fault, up to one of them -/
theorem firstE_succ (f : Nat → Int) (m : Nat) : firstE f (m + 1) = if firstE f m = 0 then f m else firstE f m := by
  by_cases h : firstE f m = 0
  · rw [if_pos h]
    have h0 := firstE_zero h
    by_cases hm : f m = 0
    · rw [hm]; exact firstE_ok (fun j hj => by
        by_cases e : j = m
        · subst e; exact hm
        · exact h0 j (by omega))
    · exact firstE_err (Nat.lt_succ_self _) h0 hm
  · rw [if_neg h]
    have hex : ∃ k, k < m ∧ f k ≠ 0 := Classical.byContradiction fun hn => h (firstE_ok fun j hj => Classical.byContradiction fun hne => hn ⟨j, hj, hne⟩)
    obtain ⟨k, hk, hk0, hmin⟩ : ∃ k, k < m ∧ f k ≠ 0 ∧ ∀ j, j < k → f j = 0 := by
      obtain ⟨k, hk, hk0⟩ := hex
      induction k using Nat.strongRecOn with
      | ind k ih =>
        by_cases e : ∃ j, j < k ∧ f j ≠ 0
        · obtain ⟨j, hj, hj0⟩ := e
          exact ih j hj (by omega) hj0
        · exact ⟨k, hk, hk0, fun j hj => Classical.byContradiction fun hne => e ⟨j, hj, hne⟩⟩
    rw [firstE_err (by omega : k < m + 1) hmin hk0, firstE_err hk hmin hk0]
theorem firstE_at {f : Nat → Int} {m i : Nat} (hi : i < m) (h0 : firstE f i = 0) (h1 : f i ≠ 0) : firstE f m = f i := firstE_err hi (firstE_zero h0) h1
/-- how often a name is there -/
def cntS (S : List ByteArray) (x : ByteArray) : Nat := S.countP fun y => x.toList == y.toList
theorem cntS_snoc (S : List ByteArray) (y x : ByteArray) : cntS (S ++ [y]) x = cntS S x + (if (x.toList == y.toList) = true then 1 else 0) := by
  unfold cntS
  rw [List.countP_append]
  simp [List.countP_cons]
theorem cntS_has (S : List ByteArray) (x : ByteArray) : hasB S x = true ↔ cntS S x ≠ 0 := by
  unfold hasB cntS
  rw [List.any_eq_true]
  have := List.countP_pos_iff (p := fun y => x.toList == y.toList) (l := S)
  constructor
  · intro h
    have := this.2 h
    omega
  · intro h
    exact this.1 (by omega)
theorem cntS_le (S : List ByteArray) (x : ByteArray) : cntS S x ≤ S.length := List.countP_le_length
end Go.Proofs.YtcbpjgnbdpfiiaaGreatDoor
namespace Go.Proofs.YtcbpjgnbdpfiiaaGreatDoor
open Go.RowKit

/-- a letter of a word, at its beginning or behind that -/
def lett (c : Int) : Bool := decide ((97 ≤ c ∧ c ≤ 122) ∨ (65 ≤ c ∧ c ≤ 90) ∨ c = 95)
def dgt (c : Int) : Bool := decide (48 ≤ c ∧ c ≤ 57)
def wb (c : Int) (f : Bool) : Bool := lett c || (!f && (dgt c || decide (c = 45)))
/-- a byte of a list, as a number -/
def bAt (l : List UInt8) (k : Nat) : Int := ((l.getD k 0).toNat : Int)
theorem byteAt_bAt (s : ByteArray) (k : Nat) : byteAt s k = bAt s.data.toList k := rfl
theorem bAt_cons (c : UInt8) (l : List UInt8) (k : Nat) : bAt (c :: l) (k + 1) = bAt l k := by simp [bAt]
theorem bAt_zero (c : UInt8) (l : List UInt8) : bAt (c :: l) 0 = (c.toNat : Int) := by simp [bAt]
theorem bAt_drop (l : List UInt8) (a k : Nat) : bAt (l.drop a) k = bAt l (a + k) := by
  unfold bAt; rw [List.getD_eq_getElem?_getD, List.getD_eq_getElem?_getD, List.getElem?_drop]

/-- how many bytes of a word stand at the beginning -/
def wl : List UInt8 → Bool → Nat
  | [], _ => 0
  | c :: r, f => if wb (c.toNat : Int) f = true then wl r false + 1 else 0
theorem wl_le : ∀ (l : List UInt8) (f : Bool), wl l f ≤ l.length
  | [], _ => by simp [wl]
  | c :: r, f => by
    have := wl_le r false
    unfold wl; split <;> simp <;> omega
theorem wl_lt : ∀ (l : List UInt8) (f : Bool) (k : Nat), k < wl l f → wb (bAt l k) (f && decide (k = 0)) = true
  | [], _, k, h => by simp [wl] at h
  | c :: r, f, k, h => by
    unfold wl at h
    split at h
    · rename_i hc
      cases k with
      | zero => rw [bAt_zero]; simpa using hc
      | succ k =>
        have := wl_lt r false k (by omega)
        rw [bAt_cons]; simpa using this
    · omega
theorem wl_eq : ∀ (l : List UInt8) (f : Bool), wl l f < l.length → wb (bAt l (wl l f)) (f && decide (wl l f = 0)) = false
  | [], _, h => by simp at h
  | c :: r, f, h => by
    unfold wl at h ⊢
    split
    · rename_i hc
      rw [if_pos hc] at h
      have := wl_eq r false (by simpa using h)
      rw [bAt_cons]; simpa using this
    · rename_i hc
      rw [bAt_zero]; simpa using hc

/-- is a text a word that may be? -/
def nmB (s : ByteArray) : Bool := decide (1 ≤ s.size ∧ s.size ≤ 20) && decide (wl s.data.toList true = s.size)

/-- the marks, the longer ones first -/
def marksL : List (List UInt8) := [[58, 58], [47, 47], [46, 46], [58, 61], [33, 61], [60, 61], [62, 61], [60, 60], [62, 62], [47], [40], [41], [91], [93], [123], [125], [44], [46], [64], [42], [61], [60], [62], [43], [45], [124]]
def mkAt (k : Nat) : List UInt8 := marksL.getD k []
/-- the first of the marks, from the k-th one on, with which a list begins -/
def fm (l : List UInt8) : List UInt8 := (marksL.find? fun m => m.isPrefixOf l).getD []
def fmFrom (l : List UInt8) (k : Nat) : List UInt8 := ((marksL.drop k).find? fun m => m.isPrefixOf l).getD []
theorem mark_drop {k : Nat} (h : k < 26) : marksL.drop k = mkAt k :: marksL.drop (k + 1) := by
  have h' : k < marksL.length := h
  rw [List.drop_eq_getElem_cons h']
  congr 1
  unfold mkAt
  rw [List.getD_eq_getElem?_getD, List.getElem?_eq_getElem h']
  rfl
theorem fmFrom_hit {l : List UInt8} {k : Nat} (h : k < 26) (hp : (mkAt k).isPrefixOf l = true) : fmFrom l k = mkAt k := by
  unfold fmFrom; rw [mark_drop h, List.find?_cons, hp]; rfl
theorem fmFrom_miss {l : List UInt8} {k : Nat} (h : k < 26) (hp : (mkAt k).isPrefixOf l = false) : fmFrom l k = fmFrom l (k + 1) := by
  unfold fmFrom; rw [mark_drop h, List.find?_cons, hp]
theorem fmFrom_end (l : List UInt8) : fmFrom l 26 = [] := rfl
/-- is a list a mark? -/
def isMk (l : List UInt8) : Bool := marksL.contains l
theorem fm_mem {l : List UInt8} (h : fm l ≠ []) : fm l ∈ marksL ∧ (fm l).isPrefixOf l = true := by
  unfold fm at h ⊢
  cases hf : marksL.find? (fun m => m.isPrefixOf l) with
  | none => rw [hf] at h; simp at h
  | some m => exact ⟨List.mem_of_find?_eq_some hf, List.find?_some (p := fun m : List UInt8 => m.isPrefixOf l) hf⟩
theorem fm_self : ∀ m ∈ marksL, fm m = m := by decide
theorem fm_isMk (l : List UInt8) : isMk l = (decide (l ≠ []) && decide (fm l = l)) := by
  rw [Bool.eq_iff_iff]
  unfold isMk
  simp only [List.contains_iff_mem, Bool.and_eq_true, decide_eq_true_eq]
  constructor
  · intro h
    exact ⟨by rintro rfl; revert h; decide, fm_self l h⟩
  · rintro ⟨h1, h2⟩
    have := fm_mem (l := l) (by rw [h2]; exact h1)
    rw [h2] at this
    exact this.1

/-- has a list a quotation mark? -/
def hasQ (l : List UInt8) : Bool := l.contains 34
/-- what is said of a token -/
def tokF (k : Int) (s : ByteArray) (n : Int) : Int :=
  if ¬ (1 ≤ k ∧ k ≤ 5) then 3
  else if k = 2 then (if n < 0 ∨ 1099511627776 < n then 2 else if s.size ≠ 0 then 4 else 0)
  else if n ≠ 0 then 4
  else if k = 3 then (if hasQ s.data.toList = true then 4 else textF s)
  else if k = 5 then (if isMk s.data.toList = true then 0 else 6)
  else if nmB s = true then 0 else 10
end Go.Proofs.YtcbpjgnbdpfiiaaGreatDoor
set_option linter.unusedVariables false
namespace Go.Proofs.YtcbpjgnbdpfiiaaGreatDoor
open Go

/-- the loop ends within n rounds -/
def LoopN (P : Program) (c : Code) (Q : Exit → Act → World → Prop) : Nat → Act → World → Prop
  | 0 => fun _ _ => False
  | n + 1 => fun a w => c.wp P (Exit.then (LoopN P c Q n) Q) a w
theorem least_of {p : Nat → Prop} (h : ∃ n, p n) : ∃ m, p m ∧ ∀ k, k < m → ¬ p k := by
  obtain ⟨n, hn⟩ := h
  induction n using Nat.strongRecOn with
  | ind n ih =>
    by_cases hx : ∃ k, k < n ∧ p k
    · obtain ⟨k, hk, hp⟩ := hx
      exact ih k hk hp
    · exact ⟨n, hn, fun k hk hp => hx ⟨k, hk, hp⟩⟩
open Classical in
noncomputable def leastN (p : Nat → Prop) : Nat := if h : ∃ n, p n then Classical.choose (least_of h) else 0
theorem leastN_is {p : Nat → Prop} (h : ∃ n, p n) : p (leastN p) ∧ ∀ k, p k → leastN p ≤ k := by
  have e : leastN p = Classical.choose (least_of h) := dif_pos h
  rw [e]
  have hs := Classical.choose_spec (least_of h)
  exact ⟨hs.1, fun k hk => Classical.byContradiction fun hn => hs.2 k (by omega) hk⟩
theorem LoopN.next {P : Program} {c : Code} {Q : Exit → Act → World → Prop} {n : Nat} {a : Act} {w : World} (h : c.wp P (Exit.then (LoopN P c Q n) Q) a w) : LoopN P c Q (n + 1) a w := h
theorem LoopN.wp {P : Program} {c : Code} {Q : Exit → Act → World → Prop} (n : Nat) {a : Act} {w : World} (h : LoopN P c Q n a w) : (Code.loop c).wp P Q a w := by
  refine wp_loop (fun a w => ∃ n, LoopN P c Q n a w) (fun a w => leastN fun n => LoopN P c Q n a w) ⟨n, h⟩ ?_
  intro a w hI
  obtain ⟨h1, _⟩ := leastN_is hI
  generalize hm : leastN (fun n => LoopN P c Q n a w) = m at h1 ⊢
  cases m with
  | zero => exact h1.elim
  | succ m =>
    refine Code.wp_mono (fun e a' w' q => ?_) (show c.wp P (Exit.then (LoopN P c Q m) Q) a w from h1)
    cases e with
    | normal => exact ⟨⟨m, q⟩, Nat.lt_succ_of_le ((leastN_is ⟨m, q⟩).2 m q)⟩
    | _ => exact q
end Go.Proofs.YtcbpjgnbdpfiiaaGreatDoor
