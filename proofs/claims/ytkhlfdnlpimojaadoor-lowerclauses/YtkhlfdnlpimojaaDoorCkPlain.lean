/-
  EXPRESSIONS OF THE CORE, PLAINLY: what is refused of them, and how many there are. Nothing of the program.
-/
import Derived.Test.YtkhlfdnlpimojaaDoorRlPlain
set_option linter.unusedVariables false
namespace Go.Proofs.YtkhlfdnlpimojaaDoor
open Go.RowKit

/-- an expression, or none (there must be something that stands where there is no argument) -/
inductive Ex where
  | no
  | mk (kind : Int) (item : It) (name at_ : ByteArray) (n axis tk : Int) (tn : ByteArray) (m : Nat) (A : Nat → Ex)
def fn1 : List ByteArray := [⟨#[99, 111, 117, 110, 116]⟩, ⟨#[101, 109, 112, 116, 121]⟩, ⟨#[101, 120, 105, 115, 116, 115]⟩, ⟨#[110, 111, 116]⟩, ⟨#[98, 111, 111, 108, 101, 97, 110]⟩, ⟨#[115, 117, 109]⟩, ⟨#[109, 105, 110]⟩, ⟨#[109, 97, 120]⟩, ⟨#[100, 105, 115, 116, 105, 110, 99, 116]⟩, ⟨#[114, 101, 118, 101, 114, 115, 101]⟩, ⟨#[115, 116, 114, 105, 110, 103]⟩, ⟨#[100, 97, 116, 97]⟩, ⟨#[105, 110, 116, 101, 103, 101, 114]⟩, ⟨#[110, 97, 109, 101]⟩, ⟨#[108, 101, 110, 103, 116, 104]⟩, ⟨#[100, 100, 111]⟩, ⟨#[110, 101, 103]⟩]
def fn2 : List ByteArray := [⟨#[99, 111, 110, 99, 97, 116]⟩, ⟨#[99, 111, 110, 116, 97, 105, 110, 115]⟩, ⟨#[115, 116, 97, 114, 116, 115]⟩, ⟨#[43]⟩, ⟨#[45]⟩, ⟨#[42]⟩, ⟨#[100, 105, 118]⟩, ⟨#[109, 111, 100]⟩, ⟨#[61]⟩, ⟨#[33, 61]⟩, ⟨#[60]⟩, ⟨#[60, 61]⟩, ⟨#[62]⟩, ⟨#[62, 61]⟩, ⟨#[105, 115]⟩, ⟨#[60, 60]⟩, ⟨#[62, 62]⟩, ⟨#[97, 110, 100]⟩, ⟨#[111, 114]⟩, ⟨#[116, 111]⟩, ⟨#[117, 110, 105, 111, 110]⟩, ⟨#[105, 110, 116, 101, 114, 115, 101, 99, 116]⟩, ⟨#[101, 120, 99, 101, 112, 116]⟩, ⟨#[104, 111, 108, 100, 115]⟩]
def fn3 : List ByteArray := [⟨#[115, 117, 98, 115, 116, 114, 105, 110, 103]⟩]
def hasB (L : List ByteArray) (s : ByteArray) : Bool := L.any fun t => s.toList == t.toList
/-- how many arguments a function has; -1: there is none -/
def argsN (s : ByteArray) : Int := if hasB fn1 s = true then 1 else if hasB fn2 s = true then 2 else if hasB fn3 s = true then 3 else -1
theorem bytes_eq {x y : ByteArray} (h : x.toList = y.toList) : x = y := by
  have h' : x.data.toList = y.data.toList := by simpa [ByteArray.toList_eq] using h
  cases x; cases y
  simp only [ByteArray.mk.injEq]
  exact Array.toList_inj.1 h'
theorem same_iff {x y : ByteArray} : (x.toList == y.toList) = true ↔ x = y := ⟨fun h => bytes_eq (by simpa using h), fun h => by subst h; simp⟩
theorem same_no {x y : ByteArray} (h : x ≠ y) : (x.toList == y.toList) = false := by
  cases e : (x.toList == y.toList)
  · rfl
  · exact absurd (same_iff.1 e) h
theorem hasB_iff {L : List ByteArray} {s : ByteArray} : hasB L s = true ↔ s ∈ L := by
  unfold hasB
  rw [List.any_eq_true]
  exact ⟨fun ⟨t, h1, h2⟩ => by rw [same_iff.1 h2]; exact h1, fun h => ⟨s, h, by simp⟩⟩

/-- may it have so many arguments -/
def cntF (k : Int) (m : Nat) : Int :=
  if k = 1 ∨ k = 2 ∨ k = 11 then (if m = 0 then 0 else 11)
  else if k = 9 ∨ k = 10 then (if m = 1 then 0 else 11)
  else if k = 4 ∨ k = 5 then (if m = 2 then 0 else 11)
  else if k = 6 ∨ k = 7 then (if m = 3 then 0 else 11)
  else if k = 3 ∨ k = 8 then 0 else 3
def bindsB (k : Int) : Bool := decide (k = 4 ∨ k = 5 ∨ k = 6)
def litF (x : It) : Int := if x.kind = 1 then 12 else if mayI x = true then 0 else 12
def namesF (x a : ByteArray) : Int := if x.size < 1 ∨ 20 < x.size ∨ 20 < a.size then 10 else if (x.toList == a.toList) = true then 7 else 0
def stepF (ax tk : Int) : Int := if (1 ≤ ax ∧ ax ≤ 12) ∧ 1 ≤ tk ∧ tk ≤ 5 then 0 else 3
def makeF (n : Int) (x : ByteArray) : Int := if n = 1 ∨ n = 2 then nameF x else if n = 3 then 0 else 3
def callF (x : ByteArray) (m : Nat) : Int := if argsN x < 0 then 6 else if argsN x = m then 0 else 11
def noB : ByteArray := ⟨#[]⟩
def atN (k : Int) (a : ByteArray) : ByteArray := if k = 4 then noB else a
def kindF (S : List ByteArray) (k : Int) (it : It) (nm a : ByteArray) (n ax tk : Int) (m : Nat) : Int :=
  if k = 1 then litF it else if k = 2 then (if hasB S nm = true then 0 else 6) else if k = 4 ∨ k = 5 ∨ k = 6 then namesF nm (atN k a)
  else if k = 8 then callF nm m else if k = 9 then stepF ax tk else if k = 10 then makeF n nm else 0
/-- what is refused of an expression alone -/
def aloneF (S : List ByteArray) (k : Int) (it : It) (nm a : ByteArray) (n ax tk : Int) (m : Nat) : Int :=
  if cntF k m = 0 then kindF S k it nm a n ax tk m else cntF k m
/-- the names within -/
def addN (S : List ByteArray) (x : ByteArray) : List ByteArray := if x.size = 0 then S else S ++ [x]
def innS (S : List ByteArray) (k : Int) (nm a : ByteArray) : List ByteArray := if bindsB k = true then addN (S ++ [nm]) (atN k a) else S
/-- what is refused of an expression -/
def exF : Ex → List ByteArray → Int
  | .no, _ => 0
  | .mk k it nm a n ax tk tn m A, S => if aloneF S k it nm a n ax tk m = 0 then firstE (fun i => exF (A i) (if i = 0 then S else innS S k nm a)) m else aloneF S k it nm a n ax tk m
def sumTo (f : Nat → Nat) : Nat → Nat
  | 0 => 0
  | m + 1 => sumTo f m + f m
/-- how many there are of some kinds -/
def cntX (p : Int → Bool) : Ex → Nat
  | .no => if p 0 = true then 1 else 0
  | .mk k _ _ _ _ _ _ _ m A => (if p k = true then 1 else 0) + sumTo (fun i => cntX p (A i)) m
theorem sumTo_le {f g : Nat → Nat} (h : ∀ i, f i ≤ g i) : ∀ m, sumTo f m ≤ sumTo g m
  | 0 => Nat.le_refl _
  | m + 1 => by have := sumTo_le h m; have := h m; simp only [sumTo]; omega
theorem sumTo_mono (f : Nat → Nat) {i m : Nat} (h : i ≤ m) : sumTo f i ≤ sumTo f m := by
  induction m with
  | zero => rw [Nat.le_zero.1 h]; exact Nat.le_refl _
  | succ m ih =>
    by_cases e : i = m + 1
    · subst e; exact Nat.le_refl _
    · have := ih (by omega); simp only [sumTo]; omega
theorem sumTo_part (f : Nat → Nat) {i m : Nat} (h : i < m) : sumTo f i + f i ≤ sumTo f m := sumTo_mono f (show i + 1 ≤ m from h)
theorem cntX_le (p : Int → Bool) (x : Ex) : cntX p x ≤ cntX (fun _ => true) x := by
  induction x with
  | no => simp only [cntX, if_true]; split <;> omega
  | mk k it nm a n ax tk tn m A ih =>
    have := sumTo_le (f := fun i => cntX p (A i)) (g := fun i => cntX (fun _ => true) (A i)) ih m
    simp only [cntX, if_true]
    split <;> omega
def nodesX (x : Ex) : Nat := cntX (fun _ => true) x
theorem nodes_is (k : Int) (it : It) (nm a : ByteArray) (n ax tk : Int) (tn : ByteArray) (m : Nat) (A : Nat → Ex) : nodesX (.mk k it nm a n ax tk tn m A) = 1 + sumTo (fun i => nodesX (A i)) m := rfl
theorem nodes_len (m : Nat) (A : Nat → Ex) : m ≤ sumTo (fun i => nodesX (A i)) m := by
  induction m with
  | zero => exact Nat.le_refl _
  | succ m ih =>
    have h1 : 1 ≤ nodesX (A m) := by
      cases A m with
      | no => exact Nat.le_refl _
      | mk k it nm a n ax tk tn m' A' => rw [nodes_is]; omega
    simp only [sumTo]; omega
def loopB (k : Int) : Bool := decide (k = 5 ∨ k = 6)
def makeB (k : Int) : Bool := decide (k = 10)
/-- what is refused of an expression of the core -/
def coreF (x : Ex) : Int := if exF x [] = 0 then (if 6 < cntX loopB x ∨ 6 < cntX makeB x ∨ 700 < nodesX x then 1 else 0) else exF x []
/-- the first fault, up to one of them -/
theorem firstE_succ (f : Nat → Int) (m : Nat) : firstE f (m + 1) = if firstE f m = 0 then f m else firstE f m := by
  by_cases h : firstE f m = 0
  · rw [if_pos h]
    have h0 := firstE_zero h
    by_cases hm : f m = 0
    · rw [hm]; exact firstE_ok (fun j hj => by
        by_cases e : j = m
        · subst e; exact hm
        · exact h0 j (by omega))
    · exact firstE_err (Nat.lt_succ_self _) h0 hm
  · rw [if_neg h]
    have hex : ∃ k, k < m ∧ f k ≠ 0 := Classical.byContradiction fun hn => h (firstE_ok fun j hj => Classical.byContradiction fun hne => hn ⟨j, hj, hne⟩)
    obtain ⟨k, hk, hk0, hmin⟩ : ∃ k, k < m ∧ f k ≠ 0 ∧ ∀ j, j < k → f j = 0 := by
      obtain ⟨k, hk, hk0⟩ := hex
      induction k using Nat.strongRecOn with
      | ind k ih =>
        by_cases e : ∃ j, j < k ∧ f j ≠ 0
        · obtain ⟨j, hj, hj0⟩ := e
          exact ih j hj (by omega) hj0
        · exact ⟨k, hk, hk0, fun j hj => Classical.byContradiction fun hne => e ⟨j, hj, hne⟩⟩
    rw [firstE_err (by omega : k < m + 1) hmin hk0, firstE_err hk hmin hk0]
theorem firstE_at {f : Nat → Int} {m i : Nat} (hi : i < m) (h0 : firstE f i = 0) (h1 : f i ≠ 0) : firstE f m = f i := firstE_err hi (firstE_zero h0) h1
/-- how often a name is there -/
def cntS (S : List ByteArray) (x : ByteArray) : Nat := S.countP fun y => x.toList == y.toList
theorem cntS_snoc (S : List ByteArray) (y x : ByteArray) : cntS (S ++ [y]) x = cntS S x + (if (x.toList == y.toList) = true then 1 else 0) := by
  unfold cntS
  rw [List.countP_append]
  simp [List.countP_cons]
theorem cntS_has (S : List ByteArray) (x : ByteArray) : hasB S x = true ↔ cntS S x ≠ 0 := by
  unfold hasB cntS
  rw [List.any_eq_true]
  have := List.countP_pos_iff (p := fun y => x.toList == y.toList) (l := S)
  constructor
  · intro h
    have := this.2 h
    omega
  · intro h
    exact this.1 (by omega)
theorem cntS_le (S : List ByteArray) (x : ByteArray) : cntS S x ≤ S.length := List.countP_le_length
end Go.Proofs.YtkhlfdnlpimojaaDoor
