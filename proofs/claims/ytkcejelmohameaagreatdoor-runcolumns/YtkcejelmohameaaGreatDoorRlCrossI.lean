/-
  CONTRACT of rel.Cross.
-/
import Derived.Test.YtkcejelmohameaaGreatDoorGrMap
import Derived.Test.YtkcejelmohameaaGreatDoorRlItem
import Derived.Test.YtkcejelmohameaaGreatDoorRlCMap
import Derived.Test.YtkcejelmohameaaGreatDoorUnroll
import Derived.Test.YtkcejelmohameaaGreatDoorRlUnion
import Derived.Sort.AtCall
import Derived.Test.YtkcejelmohameaaGreatDoorKpOrd
import Derived.Test.YtkcejelmohameaaGreatDoorRlKeyOf
import Derived.Test.YtkcejelmohameaaGreatDoorRlSameI
import Derived.Test.YtkcejelmohameaaGreatDoorRlCols
import Derived.Test.YtkcejelmohameaaGreatDoorRlKeep
import Derived.Test.YtkcejelmohameaaGreatDoorRlJMap
import Derived.Test.YtkcejelmohameaaGreatDoorRlPair
import Derived.Deep.QuietTactic
import Derived.BigQuiet
set_option linter.unusedVariables false
namespace Go.Proofs.YtkcejelmohameaaGreatDoor
set_option maxRecDepth 100000
open Go.RowKit Go.WideShapes

def tCount : ByteArray := ⟨#[99, 111, 117, 110, 116]⟩
def tSum : ByteArray := ⟨#[115, 117, 109]⟩
def tMin : ByteArray := ⟨#[109, 105, 110]⟩
def tMax : ByteArray := ⟨#[109, 97, 120]⟩
/-- what is made of two numbers -/
def opG (which : ByteArray) (a b : Int) : Int := if which = tMin then min a b else if which = tMax then max a b else a + b
theorem lit_no {s : ByteArray} {l : List UInt8} (h : ¬ s = ⟨l.toArray⟩) : (s.toList == l) = false := by
  rw [Bool.eq_false_iff]
  intro e
  have e1 : s.toList = l := by simpa using e
  rw [ByteArray.toList_eq] at e1
  exact h (ByteArray.ext (by rw [← e1]))
def isG (which : ByteArray) : Prop := which = tCount ∨ which = tSum ∨ which = tMin ∨ which = tMax
set_option maxHeartbeats 800000 in
theorem aggregate_yes (which : ByteArray) (h : isG which) (w : World) : Calls Tryz.prog 121 #[.string which] w fun e w' => e = .returned (.bool true) ∧ w' = w := by
  rcases h with rfl | rfl | rfl | rfl
  all_goals
    simp only [tCount, tSum, tMin, tMax]
    go_enter Tryz.func121, Tryz.ntmps121
    go_wp2
    all_goals (go_ret; exact ⟨rfl, rfl⟩)
set_option maxHeartbeats 800000 in
theorem aggregate_no (which : ByteArray) (h : ¬ isG which) (w : World) : Calls Tryz.prog 121 #[.string which] w fun e w' => e = .returned (.bool false) ∧ w' = w := by
  have h1 : ¬ which = ⟨#[99, 111, 117, 110, 116]⟩ := fun e => h (.inl e)
  have h2 : ¬ which = ⟨#[115, 117, 109]⟩ := fun e => h (.inr (.inl e))
  have h3 : ¬ which = ⟨#[109, 105, 110]⟩ := fun e => h (.inr (.inr (.inl e)))
  have h4 : ¬ which = ⟨#[109, 97, 120]⟩ := fun e => h (.inr (.inr (.inr e)))
  have q1 : (which.toList == [99, 111, 117, 110, 116]) = false := lit_no h1
  have q2 : (which.toList == [115, 117, 109]) = false := lit_no h2
  have q3 : (which.toList == [109, 105, 110]) = false := lit_no h3
  have q4 : (which.toList == [109, 97, 120]) = false := lit_no h4
  clear h h1 h2 h3 h4
  go_enter Tryz.func121, Tryz.ntmps121
  go_wp2
  all_goals (go_ret; exact ⟨rfl, rfl⟩)
set_option maxHeartbeats 800000 in
theorem counts_any (x : It) (w : World) : Calls Tryz.prog 123 #[.string tCount, itV x] w fun e w' => e = .returned (.tuple #[.int .i64 1, .int .i64 0]) ∧ Chain w w' := by
  unfold tCount itV
  go_enter Tryz.func123, Tryz.ntmps123
  go_wp2
  refine bodyPost_ret (v := .tuple #[.int .i64 1, .int .i64 0]) (by simp [results, Tryz.results123, go_sem]) rfl ⟨rfl, ?_⟩
  repeat (first | exact Chain.refl _ | refine Chain.alloc ?_ _ | refine Chain.setCell ?_ (by simp) _)
set_option maxHeartbeats 800000 in
theorem counts_as (which : ByteArray) (hw : which = tSum ∨ which = tMin ∨ which = tMax) (x : It) (w : World) : Calls Tryz.prog 123 #[.string which, itV x] w fun e w' => e = .returned (.tuple #[.int .i64 (if x.kind = 2 then x.n else 0), .int .i64 (if x.kind = 2 then 0 else 12)]) ∧ Chain w w' := by
  by_cases hk : x.kind = 2
  · rw [if_pos hk, if_pos hk]
    unfold itV
    rw [hk]
    rcases hw with rfl | rfl | rfl
    all_goals
      simp only [tSum, tMin, tMax]
      go_enter Tryz.func123, Tryz.ntmps123
      go_wp2
      refine bodyPost_ret (v := .tuple #[.int .i64 x.n, .int .i64 0]) (by simp [results, Tryz.results123, go_sem]) rfl ⟨rfl, ?_⟩
      repeat (first | exact Chain.refl _ | refine Chain.alloc ?_ _ | refine Chain.setCell ?_ (by simp) _)
  · rw [if_neg hk, if_neg hk]
    unfold itV
    have hk1 : (x.kind == 2) = false := by simpa using hk
    rcases hw with rfl | rfl | rfl
    all_goals
      simp only [tSum, tMin, tMax]
      go_enter Tryz.func123, Tryz.ntmps123
      go_wp2
      refine bodyPost_ret (v := .tuple #[.int .i64 0, .int .i64 12]) (by simp [results, Tryz.results123, go_sem]) rfl ⟨rfl, ?_⟩
      repeat (first | exact Chain.refl _ | refine Chain.alloc ?_ _ | refine Chain.setCell ?_ (by simp) _)
set_option maxHeartbeats 800000 in
theorem with_is (which : ByteArray) (h : isG which) (a b : Int) (ha : -1099511627776 ≤ a ∧ a ≤ 1099511627776) (hb : -1099511627776 ≤ b ∧ b ≤ 1099511627776) (w : World) : Calls Tryz.prog 125 #[.string which, .int .i64 a, .int .i64 b] w fun e w' => e = .returned (.int .i64 (opG which a b)) ∧ w' = w := by
  have hs : IntKind.i64.wrap (a + b) = a + b := IntWalk.i64_in _ (by omega)
  obtain ⟨ha1, ha2⟩ := ha
  obtain ⟨hb1, hb2⟩ := hb
  rcases h with rfl | rfl | rfl | rfl
  · have HO : Hid (opG tCount a b = a + b) := by
      have h : opG tCount a b = a + b := by unfold opG tCount tMin tMax; rw [if_neg (by decide), if_neg (by decide)]
      exact h
    unfold tCount at HO ⊢
    go_enter Tryz.func125, Tryz.ntmps125
    go_wp2
    all_goals (go_ret; exact ⟨ret_int (by rw [HO.out]), rfl⟩)
  · have HO : Hid (opG tSum a b = a + b) := by
      have h : opG tSum a b = a + b := by unfold opG tSum tMin tMax; rw [if_neg (by decide), if_neg (by decide)]
      exact h
    unfold tSum at HO ⊢
    go_enter Tryz.func125, Tryz.ntmps125
    go_wp2
    all_goals (go_ret; exact ⟨ret_int (by rw [HO.out]), rfl⟩)
  · have HO : Hid (opG tMin a b = min a b) := by
      have h : opG tMin a b = min a b := by unfold opG; rw [if_pos rfl]
      exact h
    unfold tMin at HO ⊢
    by_cases hl : b < a
    · have HM : Hid (min a b = b) := Int.min_eq_right (Int.le_of_lt hl)
      go_enter Tryz.func125, Tryz.ntmps125
      go_wp2
      all_goals (go_ret; exact ⟨ret_int (by rw [HO.out, HM.out]), rfl⟩)
    · have HM : Hid (min a b = a) := Int.min_eq_left (by omega)
      go_enter Tryz.func125, Tryz.ntmps125
      go_wp2
      all_goals (go_ret; exact ⟨ret_int (by rw [HO.out, HM.out]), rfl⟩)
  · have HO : Hid (opG tMax a b = max a b) := by
      have h : opG tMax a b = max a b := by unfold opG tMin tMax; rw [if_neg (by decide), if_pos rfl]
      exact h
    unfold tMax at HO ⊢
    by_cases hl : a < b
    · have HM : Hid (max a b = b) := Int.max_eq_right (Int.le_of_lt hl)
      go_enter Tryz.func125, Tryz.ntmps125
      go_wp2
      all_goals (go_ret; exact ⟨ret_int (by rw [HO.out, HM.out]), rfl⟩)
    · have HM : Hid (max a b = a) := Int.max_eq_left (by omega)
      go_enter Tryz.func125, Tryz.ntmps125
      go_wp2
      all_goals (go_ret; exact ⟨ret_int (by rw [HO.out, HM.out]), rfl⟩)
set_option maxHeartbeats 800000 in
theorem number_isG (x : Int) (w : World) : Calls Tryz.prog 124 #[.int .i64 x] w fun e w' => e = .returned (.agg #[.int .i64 2, .int .i64 x, .string ⟨#[]⟩]) ∧ Chain w w' := by
  go_enter Tryz.func124, Tryz.ntmps124
  go_wp2
  refine bodyPost_ret (v := .agg #[.int .i64 2, .int .i64 x, .string ⟨#[]⟩]) (by simp [results, Tryz.results124, go_sem]) rfl ⟨rfl, ?_⟩
  repeat (first | exact Chain.refl _ | refine Chain.alloc ?_ _ | refine Chain.setCell ?_ (by simp) _)
theorem counts_gen (which : ByteArray) (cnt : Bool) (hG : isG which) (hcnt : cnt = true ↔ which = tCount) (x : It) (hx : cnt = true ∨ x.kind = 2) (w : World) : Calls Tryz.prog 123 #[.string which, itV x] w fun e w' => e = .returned (.tuple #[.int .i64 (if cnt = true then 1 else x.n), .int .i64 0]) ∧ Chain w w' := by
  cases cnt
  · have hk : x.kind = 2 := hx.resolve_left (by decide)
    have h := counts_as which (hG.resolve_left (fun e => absurd (hcnt.2 e) (by decide))) x w
    rw [if_pos hk, if_pos hk] at h
    simpa using h
  · rw [hcnt.1 rfl]
    simpa using counts_any x w
theorem counts_bad (which : ByteArray) (hG : isG which) (hcnt : ¬ which = tCount) (x : It) (hx : ¬ x.kind = 2) (w : World) : Calls Tryz.prog 123 #[.string which, itV x] w fun e w' => e = .returned (.tuple #[.int .i64 0, .int .i64 12]) ∧ Chain w w' := by
  have h := counts_as which (hG.resolve_left hcnt) x w
  rwa [if_neg hx, if_neg hx] at h
end Go.Proofs.YtkcejelmohameaaGreatDoor
set_option linter.unusedVariables false
namespace Go.Proofs.YtkcejelmohameaaGreatDoor
set_option maxRecDepth 100000
open Go.RowKit

/-- an op of a plan -/
structure Opm where
  kind : Int
  nin : Nat
  ins : Nat → Int
  new : ByteArray
  cols : Txts
  olds : Txts
  part : ByteArray
  name : ByteArray
  n : Int
  axis : Int
  tk : Int
  tn : ByteArray
  rc : Txts
  rm : Nat
  rr : Nat → Row
def noT : Txts := ⟨0, fun _ => ⟨#[]⟩⟩
/-- of how many ops one is made -/
def inC (k : Int) : Nat := if k = 1 ∨ k = 14 then 0 else if k = 4 ∨ k = 5 ∨ k = 6 ∨ k = 7 ∨ k = 13 then 2 else 1
def iterS : ByteArray := ⟨#[105, 116, 101, 114]⟩
def posS : ByteArray := ⟨#[112, 111, 115]⟩
def itemS : ByteArray := ⟨#[105, 116, 101, 109]⟩
def itC : Txts := ⟨2, fun i => if i = 0 then iterS else itemS⟩
def ipiC : Txts := ⟨3, fun i => if i = 0 then iterS else if i = 1 then posS else itemS⟩
def piC : Txts := ⟨2, fun i => if i = 0 then posS else itemS⟩
def onC (s : ByteArray) : Txts := ⟨1, fun _ => s⟩
def pnT (p n : ByteArray) : Txts := ⟨2, fun i => if i = 0 then p else n⟩
/-- which aggregates there are -/
def aggB (s : ByteArray) : Bool := decide (s = tCount ∨ s = tSum ∨ s = tMin ∨ s = tMax)
/-- is a column there? -/
def cnB (a : Txts) (s : ByteArray) : Bool := decide (0 ≤ colI a.at_ a.len s)
/-- are all of some there? -/
def allT (a l : Txts) : Bool := foundB a.at_ a.len l.at_ l.len
/-- functions of items: how many arguments -/
def fnT : List (ByteArray × Int) := [(⟨#[104, 111, 108, 100, 115]⟩, 3), (⟨#[101, 98, 118]⟩, 2), (⟨#[111, 114]⟩, 2), (⟨#[97, 110, 100]⟩, 2), (⟨#[110, 111, 116]⟩, 1), (⟨#[62, 62]⟩, 2), (⟨#[60, 60]⟩, 2), (⟨#[105, 115]⟩, 2), (⟨#[62, 61]⟩, 2), (⟨#[62]⟩, 2), (⟨#[60, 61]⟩, 2), (⟨#[60]⟩, 2), (⟨#[33, 61]⟩, 2), (⟨#[61]⟩, 2), (⟨#[115, 117, 98, 115, 116, 114, 105, 110, 103]⟩, 3), (⟨#[115, 116, 97, 114, 116, 115]⟩, 2), (⟨#[99, 111, 110, 116, 97, 105, 110, 115]⟩, 2), (⟨#[99, 111, 110, 99, 97, 116]⟩, 2), (⟨#[108, 101, 110, 103, 116, 104]⟩, 1), (⟨#[115, 112, 97, 110]⟩, 2), (⟨#[109, 111, 100]⟩, 2), (⟨#[100, 105, 118]⟩, 2), (⟨#[42]⟩, 2), (⟨#[45]⟩, 2), (⟨#[43]⟩, 2), (⟨#[110, 101, 103]⟩, 1), (⟨#[111, 110, 101]⟩, 1), (⟨#[105, 110, 116, 101, 103, 101, 114]⟩, 1), (⟨#[115, 116, 114, 105, 110, 103]⟩, 1), (⟨#[110, 97, 109, 101]⟩, 1), (⟨#[110, 111, 100, 101]⟩, 1), (⟨#[100, 97, 116, 97]⟩, 1)]
def fnA (s : ByteArray) : Int := match fnT.find? (fun e => e.1.toList == s.toList) with
  | some e => e.2
  | none => -1
/-- is no item of the rows a node? -/
def nodeR (r : Row) : Bool := (List.range r.len).any fun j => decide ((r.at_ j).kind = 1)
def nodesB (R : Nat → Row) (m : Nat) : Bool := (List.range m).any fun i => nodeR (R i)
def stepB (axis tk : Int) : Bool := decide ((1 ≤ axis ∧ axis ≤ 12) ∧ 1 ≤ tk ∧ tk ≤ 5)
/-- what is refused of an op alone -/
def ownF (o : Opm) : Int :=
  if o.kind = 1 then (if relF o.rc.at_ o.rc.len o.rr o.rm = 0 then (if nodesB o.rr o.rm = true then 12 else 0) else relF o.rc.at_ o.rc.len o.rr o.rm)
  else if o.kind = 10 then (if aggB o.name = true then 0 else 6)
  else if o.kind = 11 then (if fnA o.name < 0 then 6 else 0)
  else if o.kind = 12 then (if stepB o.axis o.tk = true then 0 else 3)
  else if o.kind = 13 then makeF o.n o.name
  else 0
/-- are its places those of ops ahead? -/
def insB (o : Opm) (i : Nat) : Bool := (List.range o.nin).all fun j => decide (0 ≤ o.ins j ∧ o.ins j < i)
def aloF (o : Opm) (i : Nat) : Int :=
  if 1 ≤ o.kind ∧ o.kind ≤ 15 then (if o.nin = inC o.kind then (if insB o i = true then ownF o else 2) else 11) else 3
/-- its columns -/
def outC (o : Opm) (a b : Txts) : Txts :=
  if o.kind = 1 then o.rc else if o.kind = 2 then o.cols else if o.kind = 4 ∨ o.kind = 5 then appS a b
  else if o.kind = 9 ∨ o.kind = 11 then appS a (onC o.new) else if o.kind = 10 then pnT o.part o.new
  else if o.kind = 12 ∨ o.kind = 13 then itC else if o.kind = 14 then onC itemS else a
/-- are the columns that it names there? -/
def namB (o : Opm) (a b : Txts) : Bool :=
  if o.kind = 2 then decide (o.cols.len = o.olds.len) && allT a o.olds
  else if o.kind = 3 then decide (o.cols.len = 1) && cnB a (o.cols.at_ 0)
  else if o.kind = 4 then decide (o.cols.len = 2) && (cnB a (o.cols.at_ 0) && cnB b (o.cols.at_ 1))
  else if o.kind = 6 then colsB a.at_ b.at_ a.len b.len
  else if o.kind = 7 then allT a o.cols && allT b o.cols
  else if o.kind = 8 ∨ o.kind = 15 then allT a o.cols
  else if o.kind = 9 then allT a o.cols && (decide (o.part.size = 0) || cnB a o.part)
  else if o.kind = 10 then decide (o.cols.len = 1) && (cnB a (o.cols.at_ 0) && cnB a o.part)
  else if o.kind = 11 then decide ((o.cols.len : Int) = fnA o.name) && allT a o.cols
  else if o.kind = 12 then allT a itC
  else if o.kind = 13 then allT a (onC iterS) && allT b ipiC
  else true
def outF (o : Opm) (a b : Txts) : Int := if namB o a b = true then colsF (outC o a b).at_ (outC o a b).len else 9
/-- the columns of an input -/
def inT (o : Opm) (L : Nat → Txts) (j : Nat) : Txts := if j < o.nin then L (o.ins j).toNat else noT
/-- the columns of the first i ops, as a list -/
def colL (P : Nat → Opm) : Nat → List Txts
  | 0 => []
  | i + 1 => colL P i ++ [outC (P i) (inT (P i) (fun j => (colL P i).getD j noT) 0) (inT (P i) (fun j => (colL P i).getD j noT) 1)]
/-- the columns of an op -/
def colK (P : Nat → Opm) (j : Nat) : Txts := (colL P (j + 1)).getD j noT
theorem colL_len (P : Nat → Opm) : ∀ i, (colL P i).length = i
  | 0 => rfl
  | i + 1 => by rw [colL, List.length_append, colL_len P i]; rfl
theorem colL_at (P : Nat → Opm) {j : Nat} : ∀ {i : Nat}, j < i → (colL P i).getD j noT = colK P j
  | i + 1, h => by
    by_cases e : j = i
    · subst e; rfl
    · have hj : j < i := by omega
      rw [← colL_at P hj]
      simp only [colL, List.getD_eq_getElem?_getD]
      rw [List.getElem?_append_left (by rw [colL_len]; exact hj)]
theorem inT_at {P : Nat → Opm} {i j : Nat} (o : Opm) (h : insB o i = true) : inT o (fun j => (colL P i).getD j noT) j = inT o (colK P) j := by
  unfold inT
  by_cases hj : j < o.nin
  · rw [if_pos hj, if_pos hj]
    have := of_decide_eq_true (List.all_eq_true.1 h j (List.mem_range.2 hj))
    exact colL_at P (by omega)
  · rw [if_neg hj, if_neg hj]
/-- the columns of an op are what is made of those of its inputs -/
theorem colK_is {P : Nat → Opm} {i : Nat} (h : insB (P i) i = true) : colK P i = outC (P i) (inT (P i) (colK P) 0) (inT (P i) (colK P) 1) := by
  rw [← inT_at (P := P) (i := i) (j := 0) (P i) h, ← inT_at (P := P) (i := i) (j := 1) (P i) h]
  unfold colK
  simp only [colL, List.getD_eq_getElem?_getD]
  rw [List.getElem?_append_right (by rw [colL_len]; exact Nat.le_refl _), colL_len, Nat.sub_self]
  rfl
/-- what is refused of the i-th op -/
def opF (P : Nat → Opm) (i : Nat) : Int := if aloF (P i) i = 0 then outF (P i) (inT (P i) (colK P) 0) (inT (P i) (colK P) 1) else aloF (P i) i
/-- what is refused of a plan -/
def planF (P : Nat → Opm) (N : Nat) : Int :=
  if 200000 < N then 1 else if N = 0 then 5 else if firstE (opF P) N = 0 then (if allT (colK P (N - 1)) piC = true then 0 else 9) else firstE (opF P) N
theorem aloF_ins {o : Opm} {i : Nat} (h : aloF o i = 0) : (1 ≤ o.kind ∧ o.kind ≤ 15) ∧ o.nin = inC o.kind ∧ insB o i = true ∧ ownF o = 0 := by
  unfold aloF at h
  by_cases h1 : 1 ≤ o.kind ∧ o.kind ≤ 15
  · rw [if_pos h1] at h
    by_cases h2 : o.nin = inC o.kind
    · rw [if_pos h2] at h
      by_cases h3 : insB o i = true
      · rw [if_pos h3] at h
        exact ⟨h1, h2, h3, h⟩
      · rw [if_neg h3] at h; exact absurd h (by decide)
    · rw [if_neg h2] at h; exact absurd h (by decide)
  · rw [if_neg h1] at h; exact absurd h (by decide)
theorem opF_zero {P : Nat → Opm} {i : Nat} (h : opF P i = 0) : aloF (P i) i = 0 ∧ outF (P i) (inT (P i) (colK P) 0) (inT (P i) (colK P) 1) = 0 := by
  unfold opF at h
  by_cases h1 : aloF (P i) i = 0
  · rw [if_pos h1] at h; exact ⟨h1, h⟩
  · rw [if_neg h1] at h; exact absurd h h1
theorem outF_zero {o : Opm} {a b : Txts} (h : outF o a b = 0) : namB o a b = true ∧ colsF (outC o a b).at_ (outC o a b).len = 0 := by
  unfold outF at h
  by_cases h1 : namB o a b = true
  · rw [if_pos h1] at h; exact ⟨h1, h⟩
  · rw [if_neg h1] at h; exact absurd h (by decide)
/-- columns of ops that may be may be -/
theorem colK_may {P : Nat → Opm} {i : Nat} (h : opF P i = 0) : colsF (colK P i).at_ (colK P i).len = 0 := by
  obtain ⟨h1, h2⟩ := opF_zero h
  rw [colK_is (aloF_ins h1).2.2.1]
  exact (outF_zero h2).2
end Go.Proofs.YtkcejelmohameaaGreatDoor
set_option linter.unusedVariables false
namespace Go.Proofs.YtkcejelmohameaaGreatDoor
set_option maxRecDepth 100000
open Go.RowKit Go.WideShapes

set_option maxHeartbeats 1600000 in
theorem group_none (c q : Value) (name part which col : ByteArray) (n m : Nat) (C : Nat → ByteArray) (R : Nat → Row) (w : World) (hc : StrsIs w c n C) (hq : RowsIs w q m R) (hf : StrsFine n C) (hg : RowsFine m R) (hT : Tabs w) (h0 : relF C n R m = 0) (hG : ¬ isG which) :
    Calls Tryz.prog 94 #[.agg #[c, q], .string name, .string part, .string which, .string col] w fun e w' => e = .returned (.tuple #[.agg #[.slice none 0 0, .slice none 0 0], .int .i64 6]) ∧ Below w.heap.size w w' := by
  have HW : Hid (∀ {W : World} {o o' : Obj}, Below (w.heap.size + 2) ((w.alloc o).alloc o') W → Below w.heap.size w W) := fun h => (below_two _ _).trans (h.mono (by omega))
  have C1 : Hid (∀ o o', Calls Tryz.prog 93 #[.agg #[c, q]] ((w.alloc o).alloc o') fun e w' => e = .returned (.int .i64 0) ∧ Below (w.heap.size + 2) ((w.alloc o).alloc o') w') := fun o o' => by
    have h := relCheck_is c q n m C R _ (hc.below (below_two o o')) (hq.below (below_two o o')) hf hg (Utf8Tabs_below hT (below_two o o'))
    rw [h0] at h
    rwa [show ((w.alloc o).alloc o').heap.size = w.heap.size + 2 by simp] at h
  have CA : Hid (∀ W, Calls Tryz.prog 121 #[.string which] W fun e w' => e = .returned (.bool false) ∧ w' = W) := fun W => aggregate_no which hG W
  obtain ⟨qa, qcap, rfl, _⟩ := hq
  obtain ⟨ca, ccap, rfl, _⟩ := hc
  clear hf hg hT h0 hG
  go_enter Tryz.func94, Tryz.ntmps94
  go_wp2_with (first
    | (go_at_call 93; refine (C1.out _ _).mono ?_; rintro e w1 ⟨rfl, hb1⟩; have HB1 : Hid (Below (w.heap.size + 2) _ w1) := hb1; obtain ⟨x0, x1, x2, x3, x4, x5, x6⟩ := box2r hb1; clear hb1)
    | (go_at_call 121; refine (CA.out _).mono ?_; rintro e w2 ⟨rfl, hw2⟩; obtain rfl := hw2.symm))
  exact bodyPost_ret (v := .tuple #[.agg #[.slice none 0 0, .slice none 0 0], .int .i64 6]) (by simp [results, Tryz.results94, go_sem, x2, x3]) rfl ⟨rfl, ((HW.out HB1.out).setCell (by simp <;> omega) _).setCell (by simp <;> omega) _⟩
set_option maxHeartbeats 1600000 in
theorem group_part (c q : Value) (name part which col : ByteArray) (n m : Nat) (C : Nat → ByteArray) (R : Nat → Row) (w : World) (hc : StrsIs w c n C) (hq : RowsIs w q m R) (hf : StrsFine n C) (hg : RowsFine m R) (hT : Tabs w) (h0 : relF C n R m = 0) (hG : isG which) (hP : colI C n part = -1) :
    Calls Tryz.prog 94 #[.agg #[c, q], .string name, .string part, .string which, .string col] w fun e w' => e = .returned (.tuple #[.agg #[.slice none 0 0, .slice none 0 0], .int .i64 9]) ∧ Below w.heap.size w w' := by
  have HW : Hid (∀ {W : World} {o o' : Obj}, Below (w.heap.size + 2) ((w.alloc o).alloc o') W → Below w.heap.size w W) := fun h => (below_two _ _).trans (h.mono (by omega))
  have C1 : Hid (∀ o o', Calls Tryz.prog 93 #[.agg #[c, q]] ((w.alloc o).alloc o') fun e w' => e = .returned (.int .i64 0) ∧ Below (w.heap.size + 2) ((w.alloc o).alloc o') w') := fun o o' => by
    have h := relCheck_is c q n m C R _ (hc.below (below_two o o')) (hq.below (below_two o o')) hf hg (Utf8Tabs_below hT (below_two o o'))
    rw [h0] at h
    rwa [show ((w.alloc o).alloc o').heap.size = w.heap.size + 2 by simp] at h
  have CA : Hid (∀ W, Calls Tryz.prog 121 #[.string which] W fun e w' => e = .returned (.bool true) ∧ w' = W) := fun W => aggregate_yes which hG W
  have CP : Hid (∀ W, Below w.heap.size w W → Calls Tryz.prog 122 #[c, .string part] W fun e w' => e = .returned (.tuple #[.int .i64 0, .int .i64 9]) ∧ w' = W) := fun W hW => by
    have h := column_is c n C part W (hc.below hW)
    unfold colV colF at h
    rwa [hP, if_pos (by decide), if_pos (by decide)] at h
  obtain ⟨qa, qcap, rfl, _⟩ := hq
  obtain ⟨ca, ccap, rfl, _⟩ := hc
  clear hf hg hT h0 hG hP
  go_enter Tryz.func94, Tryz.ntmps94
  go_wp2_with (first
    | (go_at_call 93; refine (C1.out _ _).mono ?_; rintro e w1 ⟨rfl, hb1⟩; have HB1 : Hid (Below (w.heap.size + 2) _ w1) := hb1; obtain ⟨x0, x1, x2, x3, x4, x5, x6⟩ := box2r hb1; clear hb1)
    | (go_at_call 121; refine (CA.out _).mono ?_; rintro e w2 ⟨rfl, hw2⟩; obtain rfl := hw2.symm)
    | (go_at_call 122; refine (CP.out _ (HW.out HB1.out)).mono ?_; rintro e w2 ⟨rfl, hw2⟩; obtain rfl := hw2.symm))
  exact bodyPost_ret (v := .tuple #[.agg #[.slice none 0 0, .slice none 0 0], .int .i64 9]) (by simp [results, Tryz.results94, go_sem, x2, x3]) rfl ⟨rfl, ((HW.out HB1.out).setCell (by simp <;> omega) _).setCell (by simp <;> omega) _⟩
set_option maxHeartbeats 1600000 in
theorem group_col (c q : Value) (name part which col : ByteArray) (n m P : Nat) (C : Nat → ByteArray) (R : Nat → Row) (w : World) (hc : StrsIs w c n C) (hq : RowsIs w q m R) (hf : StrsFine n C) (hg : RowsFine m R) (hT : Tabs w) (h0 : relF C n R m = 0) (hG : isG which) (hP : colI C n part = (P : Int)) (hQ : colI C n col = -1) :
    Calls Tryz.prog 94 #[.agg #[c, q], .string name, .string part, .string which, .string col] w fun e w' => e = .returned (.tuple #[.agg #[.slice none 0 0, .slice none 0 0], .int .i64 9]) ∧ Below w.heap.size w w' := by
  have HW : Hid (∀ {W : World} {o o' : Obj}, Below (w.heap.size + 2) ((w.alloc o).alloc o') W → Below w.heap.size w W) := fun h => (below_two _ _).trans (h.mono (by omega))
  have C1 : Hid (∀ o o', Calls Tryz.prog 93 #[.agg #[c, q]] ((w.alloc o).alloc o') fun e w' => e = .returned (.int .i64 0) ∧ Below (w.heap.size + 2) ((w.alloc o).alloc o') w') := fun o o' => by
    have h := relCheck_is c q n m C R _ (hc.below (below_two o o')) (hq.below (below_two o o')) hf hg (Utf8Tabs_below hT (below_two o o'))
    rw [h0] at h
    rwa [show ((w.alloc o).alloc o').heap.size = w.heap.size + 2 by simp] at h
  have CA : Hid (∀ W, Calls Tryz.prog 121 #[.string which] W fun e w' => e = .returned (.bool true) ∧ w' = W) := fun W => aggregate_yes which hG W
  have CP : Hid (∀ W, Below w.heap.size w W → Calls Tryz.prog 122 #[c, .string part] W fun e w' => e = .returned (.tuple #[.int .i64 (P : Int), .int .i64 0]) ∧ w' = W) := fun W hW => by
    have h := column_is c n C part W (hc.below hW)
    unfold colV colF at h
    rwa [hP, if_neg (by omega), if_neg (by omega)] at h
  have CQ : Hid (∀ W, Below w.heap.size w W → Calls Tryz.prog 122 #[c, .string col] W fun e w' => e = .returned (.tuple #[.int .i64 0, .int .i64 9]) ∧ w' = W) := fun W hW => by
    have h := column_is c n C col W (hc.below hW)
    unfold colV colF at h
    rwa [hQ, if_pos (by decide), if_pos (by decide)] at h
  obtain ⟨qa, qcap, rfl, _⟩ := hq
  obtain ⟨ca, ccap, rfl, _⟩ := hc
  clear hf hg hT h0 hG hP hQ
  go_enter Tryz.func94, Tryz.ntmps94
  go_wp2_with (first
    | (go_at_call 93; refine (C1.out _ _).mono ?_; rintro e w1 ⟨rfl, hb1⟩; have HB1 : Hid (Below (w.heap.size + 2) _ w1) := hb1; obtain ⟨x0, x1, x2, x3, x4, x5, x6⟩ := box2r hb1; have x7 : w.heap.size < w1.heap.size := Nat.lt_of_succ_lt x6; clear hb1)
    | (go_at_call 121; refine (CA.out _).mono ?_; rintro e w2 ⟨rfl, hw2⟩; obtain rfl := hw2.symm)
    | (go_at_call 122; refine (CP.out _ (HW.out HB1.out)).mono ?_; rintro e w2 ⟨rfl, hw2⟩; obtain rfl := hw2.symm; clear CP)
    | (go_at_call 122; refine (CQ.out _ (HW.out HB1.out)).mono ?_; rintro e w2 ⟨rfl, hw2⟩; obtain rfl := hw2.symm))
  exact bodyPost_ret (v := .tuple #[.agg #[.slice none 0 0, .slice none 0 0], .int .i64 9]) (by simp [results, Tryz.results94, go_sem, x2, x3]) rfl ⟨rfl, ((HW.out HB1.out).setCell (by simp <;> omega) _).setCell (by simp <;> omega) _⟩
end Go.Proofs.YtkcejelmohameaaGreatDoor
set_option linter.unusedVariables false
namespace Go.Proofs.YtkcejelmohameaaGreatDoor
set_option maxRecDepth 100000
open Go.RowKit Go.WideShapes

theorem stepMay_is (ax tk : Int) (tn : ByteArray) (w : World) : Calls Tryz.prog 75 #[.int .i64 ax, .agg #[.int .i64 tk, .string tn]] w fun e w' => e = .returned (.bool (inB ax 1 12 && inB tk 1 5)) ∧ Below w.heap.size w w' := by
  have HB : Hid (∀ o, Below w.heap.size w (w.alloc o)) := fun o => (Below.refl _ _).alloc (Nat.le_refl _) _
  have C1 : Hid (∀ W, Calls Tryz.prog 12 #[.int .i64 ax, .int .i64 1, .int .i64 12] W fun e w' => e = .returned (.bool (inB ax 1 12)) ∧ w' = W) := fun W => in_any _ _ _ _
  have C2 : Hid (∀ W, Calls Tryz.prog 12 #[.int .i64 tk, .int .i64 1, .int .i64 5] W fun e w' => e = .returned (.bool (inB tk 1 5)) ∧ w' = W) := fun W => in_any _ _ _ _
  generalize inB ax 1 12 = p at *
  generalize inB tk 1 5 = q at *
  cases p
  · go_enter Tryz.func75, Tryz.ntmps75
    go_wp2_with (go_at_call 12; refine (C1.out _).mono ?_; rintro e w' ⟨rfl, rfl⟩; clear C1)
    go_ret
    exact ⟨rfl, HB.out _⟩
  · go_enter Tryz.func75, Tryz.ntmps75
    go_wp2_with (first | (go_at_call 12; refine (C1.out _).mono ?_; rintro e w' ⟨rfl, rfl⟩; clear C1) | (go_at_call 12; refine (C2.out _).mono ?_; rintro e w' ⟨rfl, rfl⟩; clear C2))
    go_ret
    exact ⟨by simp, HB.out _⟩
theorem makeFault_is (n : Int) (x : ByteArray) (w : World) (hx : x.size ≤ maxLen) : Calls Tryz.prog 76 #[.int .i64 n, .string x] w fun e w' => e = .returned (.int .i64 (makeF n x)) ∧ w' = w := by
  have C1 : Hid (∀ W, Calls Tryz.prog 109 #[.string x] W fun e w' => e = .returned (.int .i64 (nameF x)) ∧ w' = W) := fun W => nameFault_any x W hx
  by_cases h1 : n = 1
  · subst h1
    have HR : makeF 1 x = nameF x := by simp [makeF]
    rw [HR]
    clear HR
    generalize nameF x = R at *
    go_enter Tryz.func76, Tryz.ntmps76
    go_wp2_with (go_at_call 109; refine (C1.out _).mono ?_; rintro e w' ⟨rfl, rfl⟩)
    go_ret
    exact ⟨rfl, rfl⟩
  by_cases h2 : n = 2
  · subst h2
    have HR : makeF 2 x = nameF x := by simp [makeF]
    rw [HR]
    clear HR
    generalize nameF x = R at *
    go_enter Tryz.func76, Tryz.ntmps76
    go_wp2_with (go_at_call 109; refine (C1.out _).mono ?_; rintro e w' ⟨rfl, rfl⟩)
    go_ret
    exact ⟨rfl, rfl⟩
  by_cases h3 : n = 3
  · subst h3
    have HR : makeF 3 x = 0 := by simp [makeF]
    rw [HR]
    go_enter Tryz.func76, Tryz.ntmps76
    go_wp2
    go_ret
    exact ⟨rfl, rfl⟩
  · have HR : makeF n x = 3 := by unfold makeF; rw [if_neg (by omega), if_neg h3]
    rw [HR]
    have g1 : (n == 1) = false := by simpa using h1
    have g2 : (n == 2) = false := by simpa using h2
    have g3 : (n == 3) = false := by simpa using h3
    clear h1 h2 h3 HR
    go_enter Tryz.func76, Tryz.ntmps76
    go_wp2
    go_ret
    exact ⟨rfl, rfl⟩
theorem stepB_in (ax tk : Int) : (inB ax 1 12 && inB tk 1 5) = stepB ax tk := by
  unfold stepB inB
  by_cases h1 : 1 ≤ ax <;> by_cases h2 : ax ≤ 12 <;> by_cases h3 : 1 ≤ tk <;> by_cases h4 : tk ≤ 5 <;> simp [h1, h2, h3, h4]
end Go.Proofs.YtkcejelmohameaaGreatDoor
set_option linter.unusedVariables false
namespace Go.Proofs.YtkcejelmohameaaGreatDoor
set_option maxRecDepth 100000
open Go.RowKit Go.WideShapes

theorem wp_look_set {o : Oper} {a : Act} {w : World} {K : Act → World → Prop} {Q : Exit → Act → World → Prop} (m x : Operand) (hop : o.op = Op.lookup 162 m x true)
    (b n : Nat) (T : Value → Prop) (hm : a.eval m = .map (some b)) (hs : SetIs w b n T) (v : Value) (l : Lit) (hx : a.eval x = v) (hk : keyOf Tryz.prog 165 v = some l)
    (h : ∀ r : Bool, (r = true ↔ T v) → K (a.put o.dst (.tuple #[.agg #[], .bool r])) w) : o.wp Tryz.prog a w K Q := by
  obtain ⟨r, h1, h2⟩ := hs.look hk
  unfold Oper.wp
  simp [execOp, hop, hm, hx, h1, Result.andThen]
  exact h r h2
theorem wp_put_set {o : Oper} {a : Act} {w : World} {K : Act → World → Prop} {Q : Exit → Act → World → Prop} (m x y : Operand) (hop : o.op = Op.mapUpdate 162 m x y)
    (b n : Nat) (T : Value → Prop) (hm : a.eval m = .map (some b)) (hs : SetIs w b n T) (hn : n < maxLen) (v : Value) (l : Lit) (hx : a.eval x = v) (hy : a.eval y = .agg #[]) (hk : keyOf Tryz.prog 165 v = some l)
    (h : ∀ w', SetIs w' b (n + 1) (fun u => T u ∨ u = v) → w.mapTurned w' b → K (a.put o.dst undef) w') : o.wp Tryz.prog a w K Q := by
  obtain ⟨w', h1, h2, h3⟩ := hs.put hn hk
  unfold Oper.wp
  simp [execOp, hop, hm, hx, hy, h1, Result.andThen]
  exact h w' h2 h3
theorem wpList_look_set {ops : Array Oper} {rest : List Oper} {o : Oper} {a : Act} {w : World} {Q : Exit → Act → World → Prop} (hgd : o.guard = none) (m x : Operand) (hop : o.op = Op.lookup 162 m x true)
    (b n : Nat) (T : Value → Prop) (hm : a.eval m = .map (some b)) (hs : SetIs w b n T) (v : Value) (l : Lit) (hx : a.eval x = v) (hk : keyOf Tryz.prog 165 v = some l)
    (h : ∀ r : Bool, (r = true ↔ T v) → wpList Tryz.prog ops Q rest (a.put o.dst (.tuple #[.agg #[], .bool r])) w) : wpList Tryz.prog ops Q (o :: rest) a w :=
  wpList_plain hgd fun _ hK => wp_look_set m x hop b n T hm hs v l hx hk (fun r hr => hK _ _ (h r hr))
theorem wpList_put_set {ops : Array Oper} {rest : List Oper} {o : Oper} {a : Act} {w : World} {Q : Exit → Act → World → Prop} (hgd : o.guard = none) (m x y : Operand) (hop : o.op = Op.mapUpdate 162 m x y)
    (b n : Nat) (T : Value → Prop) (hm : a.eval m = .map (some b)) (hs : SetIs w b n T) (hn : n < maxLen) (v : Value) (l : Lit) (hx : a.eval x = v) (hy : a.eval y = .agg #[]) (hk : keyOf Tryz.prog 165 v = some l)
    (h : ∀ w', SetIs w' b (n + 1) (fun u => T u ∨ u = v) → w.mapTurned w' b → wpList Tryz.prog ops Q rest (a.put o.dst undef) w') : wpList Tryz.prog ops Q (o :: rest) a w :=
  wpList_plain hgd fun _ hK => wp_put_set m x y hop b n T hm hs hn v l hx hy hk (fun w' h1 h2 => hK _ _ (h w' h1 h2))
theorem wpList_load_key {ops : Array Oper} {rest : List Oper} {op : Oper} {a : Act} {w : World} {Q : Exit → Act → World → Prop} (hgd : op.guard = none) (x : Operand) (ho : op.op = .load 165 x)
    (g : Nat) (hx : a.eval x = .pointer (some ⟨g, 0, none⟩)) (X : Nat → It) (hI : ItsAt w g 0 8 X) (h : wpList Tryz.prog ops Q rest (a.put op.dst (keyV X)) w) : wpList Tryz.prog ops Q (op :: rest) a w :=
  wpList_load_mid hgd 165 x ho g 0 hx (itCells X 8) _ (its_range hI) Tryz.underlying165 rfl (by rw [itCells_len]; exact infoKey) h
theorem wpList_store_key {ops : Array Oper} {rest : List Oper} {op : Oper} {a : Act} {w : World} {Q : Exit → Act → World → Prop} (hgd : op.guard = none) (x y : Operand) (ho : op.op = .store 165 x y)
    (g : Nat) (hx : a.eval x = .pointer (some ⟨g, 0, none⟩)) (X : Nat → It) (hy : a.eval y = keyV X) (hR : Room w g 8)
    (h : ∀ w', ItsAt w' g 0 8 X → w'.heap.size = w.heap.size → (∀ b, b ≠ g → w'.heap[b]? = w.heap[b]?) → w'.os = w.os → w'.tape = w.tape → w'.output = w.output → wpList Tryz.prog ops Q rest (a.put op.dst undef) w') : wpList Tryz.prog ops Q (op :: rest) a w := by
  obtain ⟨h1, h2, h3, h4, h5⟩ := setCells_keep g (itCells X 8) 0 w
  have hr := World.rangeAt_setCells_same w g 0 (itCells X 8) (room_there hR (by simp [itCells_len]))
  exact wpList_store_mid hgd 165 x y ho g 0 (itCells X 8).toArray hx hy (room_there hR (by simp [itCells_len])) (by rw [infoKey]; simp [itCells_len]) (key_one X) (h _ (its_back hr) h1 h2 h3 h4 h5)
theorem zero_room (w : World) {Z : Array Value} {T : TypeId} (hz : Z.size = 24) : Room (w.alloc (.cells Z T)) w.heap.size 8 := Room.made w Z T 8 hz
end Go.Proofs.YtkcejelmohameaaGreatDoor
set_option linter.unusedVariables false
namespace Go.Proofs.YtkcejelmohameaaGreatDoor
set_option maxRecDepth 100000
open Go.RowKit Go.WideShapes

/-- all but one block is as it was -/
def ButOneQ (w w' : World) (b : Nat) : Prop := w.heap.size ≤ w'.heap.size ∧ w'.os = w.os ∧ w'.tape = w.tape ∧ w'.output = w.output ∧ ∀ c, c < w.heap.size → c ≠ b → w'.heap[c]? = w.heap[c]?
set_option maxHeartbeats 3200000 in
theorem unique1_is (u pv : Value) (n np gp gm M k : Nat) (X : Nat → It) (P : Nat → Nat) (T : Value → Prop) (w : World) (hu : ItsIs w u n X) (hp : IntsIs w pv np P) (hP : ∀ i, i < np → P i < n) (h8 : np ≤ 8)
    (hgp : gp < w.heap.size) (hgm : gm < w.heap.size) (hcp : w.cell? ⟨gp, 0, none⟩ = some pv) (hcm : w.cell? ⟨gm, 0, none⟩ = some (.map (some M))) (hs : SetIs w M k T) (hgM : gm ≠ M) (hk : k < maxLen) (l : Lit) (hkey : keyOf Tryz.prog 165 (keyV (keyX X P np)) = some l) :
    Calls Tryz.prog 146 #[u, .pointer (some ⟨gp, 0, none⟩), .pointer (some ⟨gm, 0, none⟩)] w fun e w' => ∃ r : Bool, e = .returned (.bool r) ∧ (r = true ↔ ¬ T (keyV (keyX X P np))) ∧ SetIs w' M (k + 1) (fun v => T v ∨ v = keyV (keyX X P np)) ∧ ButOneQ w w' M := by
  have CK : Hid (Calls Tryz.prog 144 #[u, pv] w fun e w' => e = .returned (keyV (keyX X P np)) ∧ Below w.heap.size w w') := keyOf_is u pv n np X P w hu hp hP h8
  have HS : Hid (SetIs w M k T) := hs
  have HM : Hid (M < w.heap.size) := hs.lt
  obtain ⟨ua, ucap, rfl, _⟩ := hu
  obtain ⟨pa, pcap, rfl, _⟩ := hp
  clear hs hP
  generalize keyX X P np = Y at *
  go_enter Tryz.func146, Tryz.ntmps146
  go_wp2_with (first
    | (go_at_call 144; refine CK.out.mono ?_; rintro e w1 ⟨rfl, hb1⟩; have HB1 : Hid (Below w.heap.size w w1) := hb1; have y0 := (hb1.cell (p := ⟨gm, 0, none⟩) hgm).trans hcm; have y1 : gm < w1.heap.size := Nat.lt_of_lt_of_le hgm hb1.size; clear hb1)
    | (refine wpList_store_key rfl (.tmp 5) (.tmp 10) rfl w1.heap.size rfl Y rfl (zero_room w1 rfl) ?_; intro w2 hi2 hz2 hb2 ho2 ht2 hu2; have HI2 : Hid (ItsAt w2 w1.heap.size 0 8 Y) := hi2; have hz2' : w2.heap.size = w1.heap.size + 1 := hz2.trans (by simp); have HBE : Hid (∀ c, c ≠ w1.heap.size → c < w1.heap.size → w2.heap[c]? = w1.heap[c]?) := (fun c hc h => (hb2 c hc).trans (((Below.refl _ _).alloc (Nat.le_refl _) _).block c h)); have HOS : Hid (w2.os = w1.os ∧ w2.tape = w1.tape ∧ w2.output = w1.output) := ⟨ho2, ht2, hu2⟩; have HS2 : Hid (SetIs w2 M k T) := HS.out.keep ((HBE.out M (by have := HM.out; have := HB1.out.size; omega) (Nat.lt_of_lt_of_le HM.out HB1.out.size)).trans (HB1.out.block M HM.out)); have z0 : w2.cell? ⟨gm, 0, none⟩ = some (.map (some M)) := (World.cell?_of_block (a := ⟨gm, 0, none⟩) (HBE.out gm (by omega) y1)).trans y0; have z1 : gm < w2.heap.size := (by omega); clear hi2 hz2 hb2 ho2 ht2 hu2)
    | (refine wpList_load_key rfl (.tmp 5) rfl w1.heap.size rfl Y (by first | exact HI2.out | exact HI2.out.below ((Below.refl w2.heap.size w2).alloc (Nat.le_refl _) _) (by omega)) ?_)
    | (refine wpList_look_set rfl (.tmp 12) (.tmp 13) rfl M k T rfl HS2.out (keyV Y) l rfl hkey ?_; intro r hr; have HRR : Hid (r = true ↔ T (keyV Y)) := hr; clear hr)
    | (refine wpList_put_set rfl (.tmp 17) (.tmp 18) (.tmp 19) rfl M k T rfl (HS2.out.keep (((Below.refl w2.heap.size w2).alloc (Nat.le_refl _) _).block M HS2.out.lt)) hk (keyV Y) l rfl rfl hkey ?_; intro w4 hs4 ht4; have HS4 : Hid (SetIs w4 M (k + 1) (fun v => T v ∨ v = keyV Y)) := hs4; have HT4 := Hid.out (p := Hid (World.mapTurned _ w4 M)) ht4; clear hs4 ht4))
  obtain ⟨k1, k2, k3, k4, k5⟩ := turned_block HT4.out
  have hzz := HB1.out.size
  go_ret
  refine ⟨!r, rfl, ?_, HS4.out, ?_, ?_, ?_, ?_, ?_⟩
  · rw [← HRR.out]
    cases r <;> simp
  · rw [k1]
    simp
    omega
  · exact k3.trans (HOS.out.1.trans HB1.out.os)
  · exact k4.trans (HOS.out.2.1.trans HB1.out.tape)
  · exact k5.trans (HOS.out.2.2.trans HB1.out.output)
  · intro c hc hne
    rw [k2 c hne, ((Below.refl w2.heap.size w2).alloc (Nat.le_refl _) _).block c (by omega), HBE.out c (by omega) (by omega)]
    exact HB1.out.block c hc
end Go.Proofs.YtkcejelmohameaaGreatDoor
set_option linter.unusedVariables false
namespace Go.Proofs.YtkcejelmohameaaGreatDoor
set_option maxRecDepth 100000
open Go.RowKit Go.WideShapes

/-- a row's items at places -/
def pickX (R : Nat → Row) (P : Nat → Nat) (i : Nat) : Nat → It := fun t => (R i).at_ (P t)
/-- is it the first row that is so? -/
def uniK (R : Nat → Row) (P : Nat → Nat) (ko i : Nat) : Bool := (List.range i).all fun j => !sameB (pickX R P i) (pickX R P j) ko
theorem uniK_no {R : Nat → Row} {P : Nat → Nat} {ko i : Nat} (h : uniK R P ko i = false) : ∃ t, t < i ∧ sameB (pickX R P i) (pickX R P t) ko = true := by
  unfold uniK at h
  rw [List.all_eq_false] at h
  obtain ⟨t, h1, h2⟩ := h
  exact ⟨t, List.mem_range.1 h1, by simpa using h2⟩
theorem uniK_yes {R : Nat → Row} {P : Nat → Nat} {ko i : Nat} (h : uniK R P ko i = true) : ∀ t, t < i → sameB (pickX R P i) (pickX R P t) ko = false := by
  unfold uniK at h
  rw [List.all_eq_true] at h
  intro t ht
  simpa using h t (List.mem_range.2 ht)
/-- keys are the same just if the rows are, at all places -/
theorem key_same {X Y : Nat → It} {P Q : Nat → Nat} {ko : Nat} (hPQ : ∀ s t, s < ko → t < ko → (P s = P t ↔ Q s = Q t)) (h8 : keptN (firstB P) ko ≤ 8) :
    keyX X (dedP P ko) (keptN (firstB P) ko) = keyX Y (dedP Q ko) (keptN (firstB Q) ko) ↔ ∀ t, t < ko → X (P t) = Y (Q t) := by
  have hf : ∀ i, i < ko → firstB P i = firstB Q i := fun i hi => by
    unfold firstB
    rw [Bool.eq_iff_iff, List.all_eq_true, List.all_eq_true]
    constructor
    · intro h t ht
      have h1 := h t ht
      have := List.mem_range.1 ht
      have h2 := hPQ t i (by omega) hi
      simp only [bne_iff_ne, ne_eq] at h1 ⊢
      exact fun e => h1 (h2.2 e)
    · intro h t ht
      have h1 := h t ht
      have := List.mem_range.1 ht
      have h2 := hPQ t i (by omega) hi
      simp only [bne_iff_ne, ne_eq] at h1 ⊢
      exact fun e => h1 (h2.1 e)
  have hL : keptL (firstB P) ko = keptL (firstB Q) ko := keptL_congr hf
  have hN : keptN (firstB P) ko = keptN (firstB Q) ko := by unfold keptN; rw [hL]
  have hA : ∀ i, keptAt (firstB P) ko i = keptAt (firstB Q) ko i := fun i => by unfold keptAt; rw [hL]
  constructor
  · intro h t ht
    obtain ⟨s, k1, k2, k3⟩ := first_of P t
    have h1 := congrFun h (keptN (firstB P) s)
    have hlt : keptN (firstB P) s < keptN (firstB P) ko := by
      have := keptN_monoQ (firstB P) (show s + 1 ≤ ko by omega)
      rw [keptN_yes k3] at this
      omega
    unfold keyX at h1
    rw [if_pos hlt, if_pos (by omega)] at h1
    unfold dedP at h1
    rw [← hA, keptAt_at (by omega) k3, k2] at h1
    rw [h1, (hPQ s t (by omega) ht).1 k2]
  · intro h
    funext i
    unfold keyX
    by_cases hi : i < keptN (firstB P) ko
    · obtain ⟨k1, _, _⟩ := keptAt_mem (m := ko) (Nat.le_refl _) hi
      rw [if_pos hi, if_pos (by omega)]
      unfold dedP
      rw [← hA]
      exact h _ k1
    · rw [if_neg hi, if_neg (by omega)]
end Go.Proofs.YtkcejelmohameaaGreatDoor
set_option linter.unusedVariables false
namespace Go.Proofs.YtkcejelmohameaaGreatDoor
set_option maxRecDepth 100000
open Go.RowKit Go.WideShapes

/-- what is told -/
def uniF (C : Nat → ByteArray) (n : Nat) (R : Nat → Row) (m : Nat) (O : Nat → ByteArray) (ko : Nat) : Int :=
  if relF C n R m = 0 then (if foundB C n O ko = true then 0 else 9) else relF C n R m
end Go.Proofs.YtkcejelmohameaaGreatDoor
set_option linter.unusedVariables false
namespace Go.Proofs.YtkcejelmohameaaGreatDoor
set_option maxRecDepth 100000
open Go.RowKit Go.WideShapes

/-- which rows are left: no row of the other one is the same there -/
def excK (R : Nat → Row) (P : Nat → Nat) (R' : Nat → Row) (P' : Nat → Nat) (m' ko i : Nat) : Bool := (List.range m').all fun j => !sameB (pickX R P i) (pickX R' P' j) ko
/-- what is told -/
def excF (C : Nat → ByteArray) (n : Nat) (R : Nat → Row) (m : Nat) (C' : Nat → ByteArray) (n' : Nat) (R' : Nat → Row) (m' : Nat) (O : Nat → ByteArray) (ko : Nat) : Int :=
  if twoF (relF C n R m) (relF C' n' R' m') = 0 then (if foundB C n O ko = true ∧ foundB C' n' O ko = true then 0 else 9) else twoF (relF C n R m) (relF C' n' R' m')
end Go.Proofs.YtkcejelmohameaaGreatDoor
set_option linter.unusedVariables false
namespace Go.Proofs.YtkcejelmohameaaGreatDoor
set_option maxRecDepth 100000
open Go.RowKit Go.WideShapes

set_option maxHeartbeats 400000 in
theorem select1_is (u : Value) (n p g : Nat) (X : Nat → It) (w : World) (hu : ItsIs w u n X) (hp : p < n) (hg : g < w.heap.size) (hc : w.cell? ⟨g, 0, none⟩ = some (.int .i64 (p : Int))) :
    Calls Tryz.prog 136 #[u, .pointer (some ⟨g, 0, none⟩)] w fun e w' => e = .returned (.bool ((X p).n == 1)) ∧ w' = w := by
  obtain ⟨ua, ucap, rfl, u1, u2, _, u3⟩ := hu
  obtain ⟨b, off, rfl, hb, u4⟩ := u3 (by omega)
  obtain ⟨_, e1, _⟩ := u4 p hp
  have hpi : (p : Int) < (n : Int) := by omega
  have hnn : n ≤ 9223372036854775807 := by unfold maxLen at u2; omega
  clear u2 u3 u4
  generalize (X p).n = xn at *
  go_enter Tryz.func136, Tryz.ntmps136
  go_wp2
  go_ret
  exact ⟨rfl, rfl⟩
set_option maxHeartbeats 6400000 in
theorem select_is (c q : Value) (n m : Nat) (C : Nat → ByteArray) (R : Nat → Row) (s : ByteArray) (w : World) (hc : StrsIs w c n C) (hq : RowsIs w q m R) (hf : StrsFine n C) (hg : RowsFine m R) (hT : Tabs w) :
    Calls Tryz.prog 100 #[.agg #[c, q], .string s] w fun e w' => ∃ c1 q1, e = .returned (.tuple #[.agg #[c1, q1], .int .i64 (selF C n R m s)]) ∧ FreshRel w w' c1 q1 (okN (selF C n R m s) n) (okN (selF C n R m s) (keptN (selK R (colI C n s).toNat) m)) C (keptR (selK R (colI C n s).toNat) m R) ∧ Below w.heap.size w w' := by
  have HW : Hid (∀ {W : World} {o o' : Obj}, Below (w.heap.size + 2) ((w.alloc o).alloc o') W → Below w.heap.size w W) := fun h => (below_two _ _).trans (h.mono (by omega))
  have C1 : Hid (∀ o o', Calls Tryz.prog 93 #[.agg #[c, q]] ((w.alloc o).alloc o') fun e w' => e = .returned (.int .i64 (relF C n R m)) ∧ Below (w.heap.size + 2) ((w.alloc o).alloc o') w') := fun o o' => by
    have h := relCheck_is c q n m C R _ (hc.below (below_two o o')) (hq.below (below_two o o')) hf hg (Utf8Tabs_below hT (below_two o o'))
    rwa [show ((w.alloc o).alloc o').heap.size = w.heap.size + 2 by simp] at h
  have CO : Hid (∀ W, Below w.heap.size w W → Calls Tryz.prog 122 #[c, .string s] W fun e w' => e = .returned (.tuple #[.int .i64 (colV C n s), .int .i64 (colF C n s)]) ∧ w' = W) := fun W hW => column_is c n C s W (hc.below hW)
  have HC : Hid (∀ W, Below w.heap.size w W → StrsIs W c n C) := fun W hW => hc.below hW
  have HQR : Hid (∀ W, Below w.heap.size w W → RowsIs W q m R) := fun W hW => hq.below hW
  have HFN : Hid (n * 16 ≤ 140737488351232) := hf.1
  have HG : Hid (∀ i, i < m → (R i).len * 32 ≤ 140737488351232) := fun i hi => (hg.2 i hi).1
  obtain ⟨qa, qcap, rfl, q1, q2, _, q3⟩ := hq
  have hmm : m ≤ 9223372036854775807 := by unfold maxLen at q2; omega
  have HQ : Hid (∀ W i, Below w.heap.size w W → i < m → ∃ b off u, qa = some ⟨b, off, none⟩ ∧ b < w.heap.size ∧ W.cell? ⟨b, off + i, none⟩ = some u ∧ ItsIs W u (R i).len (R i).at_) := fun W i hW hi => by
    obtain ⟨b, off, h1, h2, h3⟩ := q3 (by omega)
    obtain ⟨u, h4, h5⟩ := h3 i hi
    exact ⟨b, off, u, h1, h2, (hW.cell (p := ⟨b, off + i, none⟩) h2).trans h4, h5.below hW⟩
  obtain ⟨ca, ccap, rfl, c1, c2, _⟩ := hc
  clear hf hg hT q2 q3
  by_cases h0 : relF C n R m = 0
  · have hm6 : m ≤ 1000000 := (relF_zero h0).2.1
    have HLEN : Hid (∀ i, i < m → (R i).len = n) := row_len h0
    rw [h0] at C1
    rcases colI_cases C n s with hcol | ⟨p, hp, hcol⟩
    · have HFF : Hid (selF C n R m s = 9) := selF_col h0 hcol
      rw [(colF_no hcol).1, (colF_no hcol).2] at CO
      clear h0 hcol
      generalize selF C n R m s = F at *
      go_enter Tryz.func100, Tryz.ntmps100
      go_wp2_with (first | (go_at_call 93; refine (C1.out _ _).mono ?_; rintro e w1 ⟨rfl, hb1⟩; have HB1 : Hid (Below (w.heap.size + 2) ((w.alloc (.cells #[.slice ca n ccap, .slice qa m qcap] 40)).alloc (.cells #[.slice none 0 0, .slice none 0 0] 40)) w1) := hb1; obtain ⟨x0, x1, x2, x3, x4, x5, x6⟩ := box2r hb1; clear hb1) |
        (go_at_call 122; refine (CO.out _ (HW.out HB1.out)).mono ?_; rintro e w2 ⟨rfl, rfl⟩; have x7 : w.heap.size < w2.heap.size := Nat.lt_of_succ_lt x6))
      refine bodyPost_ret (v := .tuple #[.agg #[.slice none 0 0, .slice none 0 0], .int .i64 9]) (by simp [results, Tryz.results100, go_sem, x2, x3, x6]) rfl ⟨_, _, by rw [HFF.out], ?_, ?_⟩
      · rw [HFF.out]; exact FreshRel.nil _ _ _ _
      · exact (((HW.out HB1.out).setCell (by simp <;> omega) _).setCell (by simp <;> omega) _).alloc (by simp <;> omega) _
    · have HNO : Hid (∀ k, k < m → ¬ ((R k).at_ p).kind = 4 → selF C n R m s = 12) := fun k hk hx => selF_no h0 hcol hk hx
      have HYES : Hid ((∀ k, k < m → ((R k).at_ p).kind = 4) → selF C n R m s = 0) := fun hx => selF_yes h0 hcol hx
      rw [(colF_of hcol).1, (colF_of hcol).2] at CO
      rw [hcol, Int.toNat_natCast]
      have hpi : (p : Int) < (n : Int) := by omega
      have hnn : n ≤ 9223372036854775807 := by unfold maxLen at c2; omega
      clear h0 hcol c2
      generalize selF C n R m s = F at *
      have hmf : ∀ (fn : Fn) (first cap : Array Value) (w : World), (Instr.makeFunc fn first cap).run Tryz.prog w = .ok (.func fn first cap) w := fun _ _ _ _ => rfl
      go_enter Tryz.func100, Tryz.ntmps100
      go_wp2_with (first | (go_at_call 93; refine (C1.out _ _).mono ?_; rintro e w1 ⟨rfl, hb1⟩; have HB1 : Hid (Below (w.heap.size + 2) ((w.alloc (.cells #[.slice ca n ccap, .slice qa m qcap] 40)).alloc (.cells #[.slice none 0 0, .slice none 0 0] 40)) w1) := hb1; obtain ⟨x0, x1, x2, x3, x4, x5, x6⟩ := box2r hb1; clear hb1) |
        (go_at_call 122; refine (CO.out _ (HW.out HB1.out)).mono ?_; rintro e w2 ⟨rfl, rfl⟩; have x7 : w.heap.size < w2.heap.size := Nat.lt_of_succ_lt x6))
      have HBA : Hid (Below w.heap.size w (w2.alloc (.cells #[.int .i64 (p : Int)] 3))) := (HW.out HB1.out).alloc (by omega) _
      have hx6 : w.heap.size + 1 < w2.heap.size := x6
      go_loop [31] (fun i => ∃ k : Nat, k ≤ m ∧ i = .int .i64 k ∧ ∀ j, j < k → ((R j).at_ p).kind = 4) (fun i => m - (intOf i).toNat)
      case atStart => exact ⟨0, Nat.zero_le _, rfl, fun j hj => by omega⟩
      case round =>
        obtain ⟨k, hk, rfl, hok⟩ := hrel
        have HOK : Hid (∀ j, j < k → ((R j).at_ p).kind = 4) := hok
        clear hok
        by_cases hkm : k < m
        · obtain ⟨b, off, u, rfl, hb0, e1, hu⟩ := HQ.out _ k HBA.out hkm
          have hki : (k : Int) < (m : Int) := by omega
          rw [HLEN.out k hkm] at hu
          obtain ⟨ua, ucap, rfl, _, _, _, u3⟩ := hu
          obtain ⟨ub, uo, rfl, hub, u4⟩ := u3 (by omega)
          obtain ⟨e2, _, _⟩ := u4 p hp
          clear u3 u4
          by_cases hx : ((R k).at_ p).kind = 4
          · have HX : Hid (((R k).at_ p).kind = 4) := hx
            rw [hx] at e2
            clear hx
            go_wp2
            go_round
            case rel => exact ⟨k + 1, by omega, by go_num, fun j hj => by
              by_cases e : j = k
              · rw [e]; exact HX.out
              · exact HOK.out j (by omega)⟩
            case measure => simp [intOf]; omega
          · have HFF : Hid (F = 12) := HNO.out k hkm hx
            have hxx : (((R k).at_ p).kind != 4) = true := by simpa using hx
            generalize ((R k).at_ p).kind = xk at *
            clear hx
            go_wp2
            refine bodyPost_ret (v := .tuple #[.agg #[.slice none 0 0, .slice none 0 0], .int .i64 12]) (by simp [results, Tryz.results100, go_sem, x2, x3, x6]) rfl ⟨_, _, by rw [HFF.out], ?_, ?_⟩
            · rw [HFF.out]; exact FreshRel.nil _ _ _ _
            · exact (((HW.out HB1.out).setCell (by simp <;> omega) _).setCell (by simp <;> omega) _).alloc (by simp <;> omega) _
        · have e : k = m := by omega
          subst e
          have HF0 : Hid (F = 0) := HYES.out HOK.out
          have CK : Hid (Calls Tryz.prog 135 #[.agg #[.slice ca n ccap, .slice qa k qcap], .func (.func 136) #[] #[.pointer (some ⟨w2.heap.size, 0, none⟩)]] (w2.alloc (.cells #[.int .i64 (p : Int)] 3)) fun e w' => ∃ c1 q1, e = .returned (.agg #[c1, q1]) ∧ FreshRel (w2.alloc (.cells #[.int .i64 (p : Int)] 3)) w' c1 q1 n (keptN (selK R p) k) C (keptR (selK R p) k R) ∧ Below (w2.alloc (.cells #[.int .i64 (p : Int)] 3)).heap.size (w2.alloc (.cells #[.int .i64 (p : Int)] 3)) w') :=
            keep_gen 136 #[.pointer (some ⟨w2.heap.size, 0, none⟩)] (fun _ W => Below (w2.alloc (.cells #[.int .i64 (p : Int)] 3)).heap.size (w2.alloc (.cells #[.int .i64 (p : Int)] 3)) W) (selK R p) (.slice ca n ccap) (.slice qa k qcap) n k C R (w2.alloc (.cells #[.int .i64 (p : Int)] 3))
              (Below.refl _ _) (fun _ W W' _ h1 h2 => h1.trans h2) (HC.out _ HBA.out) HFN.out ⟨_, _, rfl⟩ (fun _ W h => HQR.out W (HBA.out.trans (h.mono HBA.out.size))) hm6 HG.out (fun _ _ => rfl)
              (fun i W u hi hz h hu => by
                rw [HLEN.out i hi] at hu
                refine (select1_is u n p w2.heap.size (R i).at_ W hu hp (Nat.lt_of_lt_of_le (by simp) h.size) ((h.cell (p := ⟨w2.heap.size, 0, none⟩) (by simp)).trans (by simp))).mono ?_
                rintro e w' ⟨rfl, rfl⟩
                exact ⟨rfl, h, Upper.of (Below.refl _ _), by rw [HLEN.out i hi]; exact hu⟩)
          go_wp2_with (first | (go_at_call 135; refine CK.out.mono ?_; rintro e w7 ⟨c7, q7, rfl, hf7, hb7⟩; have HFR : Hid (FreshRel (w2.alloc (.cells #[.int .i64 (p : Int)] 3)) w7 c7 q7 n (keptN (selK R p) k) C (keptR (selK R p) k R)) := hf7; obtain ⟨⟨a3, k3, rfl, _⟩, ⟨b3, l3, rfl, _⟩⟩ := hf7 w7 (Nat.le_refl _) (fun _ _ _ => rfl); have HB7 : Hid (Below (w.heap.size + 2) ((w.alloc (.cells #[.slice ca n ccap, .slice qa k qcap] 40)).alloc (.cells #[.slice none 0 0, .slice none 0 0] 40)) w7) := (HB1.out.alloc (by omega) _).trans (hb7.mono (by simp; omega)); clear x0 x1 x2 x3 x4 x5 x6 x7; obtain ⟨x0, x1, x2, x3, x4, x5, x6⟩ := box2r HB7.out; clear hf7 hb7))
          refine bodyPost_ret (v := .tuple #[.agg #[.slice a3 n k3, .slice b3 (keptN (selK R p) k) l3], .int .i64 0]) (by simp [results, Tryz.results100, go_sem, x2, x3]) rfl ⟨_, _, by rw [HF0.out], ?_, ((HW.out HB7.out).setCell (by simp <;> omega) _).setCell (by simp <;> omega) _⟩
          rw [HF0.out]
          exact fun W' hs hb => HFR.out W' (by simpa using hs) (fun b h1 h2 => by
            have hb1 := hb b (by simp at h1; omega) (by simpa using h2)
            rw [hb1]
            simp at h1
            rw [Below.heap_setCell _ _ _ _ (by simp; omega), Below.heap_setCell _ _ _ _ (by simp; omega)])
  · have HFF : Hid (selF C n R m s = relF C n R m) := selF_bad h0
    have HNZ : Hid (¬ relF C n R m = 0) := h0
    have h1 : (relF C n R m != 0) = true := by simpa using h0
    clear h0
    generalize selF C n R m s = F at *
    generalize relF C n R m = G at *
    go_enter Tryz.func100, Tryz.ntmps100
    go_wp2_with (first | (go_at_call 93; refine (C1.out _ _).mono ?_; rintro e w1 ⟨rfl, hb1⟩; have HB1 : Hid (Below (w.heap.size + 2) _ w1) := hb1; obtain ⟨x0, x1, x2, x3, x4, x5, x6⟩ := box2r hb1; clear hb1))
    refine bodyPost_ret (v := .tuple #[.agg #[.slice none 0 0, .slice none 0 0], .int .i64 G]) (by simp [results, Tryz.results100, go_sem, x2, x3]) rfl ⟨_, _, by rw [HFF.out], ?_, (((HW.out HB1.out)).setCell (by simp <;> omega) _).setCell (by simp <;> omega) _⟩
    rw [HFF.out, okN, if_neg HNZ.out, okN, if_neg HNZ.out]; exact FreshRel.nil _ _ _ _
end Go.Proofs.YtkcejelmohameaaGreatDoor
set_option linter.unusedVariables false
namespace Go.Proofs.YtkcejelmohameaaGreatDoor
set_option maxRecDepth 100000
open Go.RowKit Go.WideShapes

/-- which rows have this item -/
def matchK (I : Nat → It) (z : It) (k : Nat) : Bool := itB (I k) z
/-- the values of the rows, of the first t, that have an item -/
def valsV (rv : Nat → Value) (I : Nat → It) (t : Nat) (z : It) : List Value := (keptL (matchK I z) t).map rv
theorem valsV_len (rv : Nat → Value) (I : Nat → It) (t : Nat) (z : It) : (valsV rv I t z).length = keptN (matchK I z) t := by simp [valsV, keptN]
theorem valsV_succ (rv : Nat → Value) (I : Nat → It) (t : Nat) : (fun y => if itB y (I t) = true then valsV rv I t (I t) ++ [rv t] else valsV rv I t y) = valsV rv I (t + 1) := by
  funext y
  by_cases h : y = I t
  · rw [if_pos (itB_iff.2 h)]
    subst h
    unfold valsV
    rw [keptL_yes (show matchK I (I t) t = true from itB_iff.2 rfl)]
    simp
  · rw [if_neg (fun e => h (itB_iff.1 e))]
    unfold valsV
    rw [keptL_no (show matchK I y t = false by
      cases e : matchK I y t
      · rfl
      · exact absurd (itB_iff.1 e).symm h)]
theorem valsV_at {rv : Nat → Value} {I : Nat → It} {t : Nat} {z : It} {i : Nat} (hi : i < keptN (matchK I z) t) : (valsV rv I t z)[i]? = some (rv (keptAt (matchK I z) t i)) := by
  unfold valsV keptAt
  rw [List.getElem?_map]
  have : (keptL (matchK I z) t)[i]? = some ((keptL (matchK I z) t).getD i 0) := by
    rw [List.getD_eq_getElem?_getD, List.getElem?_eq_getElem hi]
    rfl
  rw [this]
  rfl
/-- the look tells the same in every world that has the map so -/
theorem JMap.look_all {w : World} {M base : Nat} {V : It → List Value} (h : JMap w M base V) {x : It} (hx : fitI x) :
    ∃ v, w.ownsRow base 94 1 v (V x).length (V x) ∧ ∀ W : World, W.heap[M]? = w.heap[M]? → (Instr.lookup 156 (.map (some M)) (itV x) false).run Tryz.prog W = .ok v W := by
  obtain ⟨es, clock, h1, h2, h3, h4, h5⟩ := h
  obtain ⟨l, hk⟩ := itV_key x hx
  by_cases hV : V x = []
  · refine ⟨.slice none 0 0, by rw [hV]; exact World.ownsRow_nil _ _ _ _, fun W hW => ?_⟩
    rcases itemLaw.find W hk es.toList (jkeys h3) with ⟨f1, f2⟩ | ⟨j, e0, f1, f2, f3⟩
    · simp [Instr.lookup, run_underlying Tryz.underlying156, MapKept.run_getObj_map (hW.trans h1), itemLaw.check W _ hk, f1, zeroRows W, Result.andThen]
    · obtain ⟨y, k1, k2, k3, k4, _⟩ := h3 j e0 (by simpa using f2)
      have e : y = x := itV_inj (k1.symm.trans f3)
      subst e
      exact absurd hV k3
  · obtain ⟨i, e1, q1, q2⟩ := h5 x hV
    obtain ⟨y, k1, k2, k3, k4, _⟩ := h3 i e1 q1
    have e : y = x := itV_inj (k1.symm.trans q2)
    subst e
    refine ⟨e1.val, k4, fun W hW => ?_⟩
    rcases itemLaw.find W hk es.toList (jkeys h3) with ⟨f1, f2⟩ | ⟨j, e0, f1, f2, f3⟩
    · exact absurd q2 (f2 e1 (List.mem_iff_getElem?.2 ⟨i, by simpa using q1⟩))
    · have hj : es[j]? = some e0 := by simpa using f2
      have hij : j = i := Classical.byContradiction fun hne => (h4 j i e0 e1 hj q1 hne).1 (f3.trans q2.symm)
      subst hij
      rw [hj] at q1
      cases q1
      simp [Instr.lookup, run_underlying Tryz.underlying156, MapKept.run_getObj_map (hW.trans h1), itemLaw.check W _ hk, f1, Result.andThen]
/-- a value more, in a list of one's own -/
theorem step_push_val {ops : Array Oper} {o : Oper} {a : Act} {w : World} {K : Act → World → Prop} {Q : Exit → Act → World → Prop} {Z : Prop} (hgd : o.guard = none) (s x : Operand)
    (ho : o.op = .call { callee := .builtin .append, args := #[s, x], argTypes := #[38, 38] })
    (base : Nat) (v : Value) (us : List Value) (hs : a.eval s = v) (hv : w.ownsRow base 94 1 v us.length us) (hbase : base ≤ w.heap.size)
    (ad : Addr) (c : Nat) (u : Value) (hx : a.eval x = .slice (some ad) 1 c) (hc : w.cell? ad = some u) (huo : u.oneCell' = true) (hb : (us.length + 1) * 24 ≤ 140737488355328)
    (h : ∀ v' w', w'.ownsRow base 94 1 v' (us.length + 1) (us ++ [u]) → w.grownBy w' v.ownBlock → (v'.ownBlock = v.ownBlock ∨ v'.ownBlock = some w.heap.size) → K (a.put o.dst v') w') : if Region.wanted o (yielded ops a.tmps) = true then Oper.wp Tryz.prog o a w K Q else Z := by
  refine step_of hgd ?_
  obtain ⟨i0, hi0, hz0, hz1, hz2⟩ := info_parts infoItems
  obtain ⟨v', w', hr, k1, k2, k3, k4⟩ := run_append_own_at (P := Tryz.prog) w base 38 o.type 94 i0 _ 1 24 Tryz.underlying38 hi0 hz0 hz1 hz2 rfl (by decide) v us.length us hv ad 1 c [u] rfl (fun j x hj => by
    match j, hj with
    | 0, hj =>
      simp only [List.getElem?_cons_zero, Option.some.injEq] at hj
      subst hj
      simpa [Addr.add] using hc) (fun x hx => by simp at hx; rw [hx]; exact huo) (by unfold maxLen; omega) hb hbase
  unfold Oper.wp execOp
  simp only [ho, resolve, invoke, builtin, Sem.run_bind, Sem.run_pure, Result.andThen_ok, List.map_toArray, List.map_cons, List.map_nil, hs, hx, hr]
  exact h v' w' k1 k2 k4
set_option maxHeartbeats 800000 in
theorem join1_is (u : Value) (n p gp gm M : Nat) (X : Nat → It) (v : Value) (w : World) (hu : ItsIs w u n X) (hp : p < n) (hgp : gp < w.heap.size) (hgm : gm < w.heap.size) (hcp : w.cell? ⟨gp, 0, none⟩ = some (.int .i64 (p : Int))) (hcm : w.cell? ⟨gm, 0, none⟩ = some (.map (some M)))
    (hlk : ∀ W : World, W.heap[M]? = w.heap[M]? → (Instr.lookup 156 (.map (some M)) (itV (X p)) false).run Tryz.prog W = .ok v W) :
    Calls Tryz.prog 139 #[u, .pointer (some ⟨gm, 0, none⟩), .pointer (some ⟨gp, 0, none⟩)] w fun e w' => e = .returned v ∧ Below w.heap.size w w' := by
  obtain ⟨ua, ucap, rfl, u1, u2, _, u3⟩ := hu
  obtain ⟨b, off, rfl, hb, u4⟩ := u3 (by omega)
  obtain ⟨e0, e1, e2⟩ := u4 p hp
  have hpi : (p : Int) < (n : Int) := by omega
  have hnn : n ≤ 9223372036854775807 := by unfold maxLen at u2; omega
  have hl0 : (Instr.lookup 156 (.map (some M)) (.agg #[.int .i64 (X p).kind, .int .i64 (X p).n, .string (X p).s]) false).run Tryz.prog w = .ok v w := hlk w rfl
  have hl1 : (Instr.lookup 156 (.map (some M)) (.agg #[.int .i64 (X p).kind, .int .i64 (X p).n, .string (X p).s]) false).run Tryz.prog w.drew = .ok v w.drew := hlk w.drew rfl
  clear u2 u3 u4 hlk
  generalize (X p).kind = xk at *
  generalize (X p).n = xn at *
  generalize (X p).s = xs at *
  go_enter Tryz.func139, Tryz.ntmps139
  go_upto_region 1 with fail
  go_region
  all_goals
    (try go_wp2)
    go_ret
    exact ⟨rfl, by first | exact Below.refl _ _ | exact (Below.refl _ _).drew⟩
end Go.Proofs.YtkcejelmohameaaGreatDoor
set_option linter.unusedVariables false
namespace Go.Proofs.YtkcejelmohameaaGreatDoor
set_option maxRecDepth 100000
open Go.RowKit Go.WideShapes

/-- both relations may be: so few columns, and names that are not too long -/
theorem fine_both {C C' : Nat → ByteArray} {n n' m m' : Nat} {R R' : Nat → Row} (h : twoF (relF C n R m) (relF C' n' R' m') = 0) (hf : StrsFine n C) (hf' : StrsFine n' C') : StrsFine (n + n') (colsT C n C' n') := by
  obtain ⟨h1, h2⟩ := twoF_zero h
  have k1 := colsF_le (relF_zero h1).1
  have k2 := colsF_le (relF_zero h2).1
  refine ⟨by omega, fun i hi => ?_⟩
  show ((if i < n then C i else C' (i - n)) : ByteArray).size ≤ _
  by_cases e : i < n
  · rw [if_pos e]; exact hf.2 i e
  · rw [if_neg e]; exact hf'.2 _ (by omega)
theorem few_both {C C' : Nat → ByteArray} {n n' m m' : Nat} {R R' : Nat → Row} (h : twoF (relF C n R m) (relF C' n' R' m') = 0) : n ≤ 8 ∧ n' ≤ 8 ∧ m ≤ 1000000 ∧ m' ≤ 1000000 ∧ (∀ i, i < m → (R i).len = n) ∧ (∀ i, i < m' → (R' i).len = n') := by
  obtain ⟨h1, h2⟩ := twoF_zero h
  exact ⟨colsF_le (relF_zero h1).1, colsF_le (relF_zero h2).1, (relF_zero h1).2.1, (relF_zero h2).2.1, row_len h1, row_len h2⟩
/-- what is told of all pairs -/
def crF (C : Nat → ByteArray) (n : Nat) (R : Nat → Row) (m : Nat) (C' : Nat → ByteArray) (n' : Nat) (R' : Nat → Row) (m' : Nat) : Int :=
  if twoF (relF C n R m) (relF C' n' R' m') = 0 then madeF (colsT C n C' n') (n + n') (pairN (fun _ => m') m) else twoF (relF C n R m) (relF C' n' R' m')
def crR (R : Nat → Row) (m : Nat) (R' : Nat → Row) (m' : Nat) : Nat → Row := pairR (fun _ => m') (fun _ => R') R m

end Go.Proofs.YtkcejelmohameaaGreatDoor
set_option linter.unusedVariables false
namespace Go.Proofs.YtkcejelmohameaaGreatDoor
set_option maxRecDepth 100000
open Go.RowKit Go.WideShapes

set_option maxHeartbeats 400000 in
theorem cross1_is (u : Value) (g k x : Nat) (a : Option Addr) (w : World) (hc : w.cell? ⟨g, 1, none⟩ = some (.slice a k x)) :
    Calls Tryz.prog 140 #[u, .pointer (some ⟨g, 0, none⟩)] w fun e w' => e = .returned (.slice a k x) ∧ w' = w := by
  go_enter Tryz.func140, Tryz.ntmps140
  go_wp2
  go_ret
  exact ⟨rfl, rfl⟩
set_option maxHeartbeats 3200000 in
theorem cross_is (c q c' q' : Value) (n m n' m' : Nat) (C C' : Nat → ByteArray) (R R' : Nat → Row) (w : World) (hc : StrsIs w c n C) (hq : RowsIs w q m R) (hf : StrsFine n C) (hg : RowsFine m R) (hc' : StrsIs w c' n' C') (hq' : RowsIs w q' m' R') (hf' : StrsFine n' C') (hg' : RowsFine m' R') (hT : Tabs w) :
    Calls Tryz.prog 102 #[.agg #[c, q], .agg #[c', q']] w fun e w' => ∃ c1 q1, e = .returned (.tuple #[.agg #[c1, q1], .int .i64 (crF C n R m C' n' R' m')]) ∧ FreshRel w w' c1 q1 (okN (crF C n R m C' n' R' m') (n + n')) (okN (crF C n R m C' n' R' m') (pairN (fun _ => m') m)) (colsT C n C' n') (crR R m R' m') ∧ Below w.heap.size w w' := by
  have C1 : Hid (∀ o o' o'', Calls Tryz.prog 137 #[.agg #[c, q], .agg #[c', q']] (((w.alloc o).alloc o').alloc o'') fun e w' => e = .returned (.int .i64 (twoF (relF C n R m) (relF C' n' R' m'))) ∧ Below (w.heap.size + 3) (((w.alloc o).alloc o').alloc o'') w') := fun o o' o'' => by
    have h := checkBoth_is c q c' q' n m n' m' C C' R R' _ (hc.below (below_three o o' o'')) (hq.below (below_three o o' o'')) hf hg (hc'.below (below_three o o' o'')) (hq'.below (below_three o o' o'')) hf' hg' (Utf8Tabs_below hT (below_three o o' o''))
    rwa [size_three] at h
  have HW : Hid (∀ {W : World} {o o' o'' : Obj}, Below (w.heap.size + 3) (((w.alloc o).alloc o').alloc o'') W → Below w.heap.size w W) := fun h => (below_three _ _ _).trans (h.mono (by omega))
  by_cases h0 : twoF (relF C n R m) (relF C' n' R' m') = 0
  · obtain ⟨hn8, hn8', hm6, hm6', hl, hl'⟩ := few_both h0
    have hft := fine_both h0 hf hf'
    have HFF : Hid (crF C n R m C' n' R' m' = madeF (colsT C n C' n') (n + n') (pairN (fun _ => m') m)) := if_pos h0
    have hq0' := hq'
    obtain ⟨qa', qcap', rfl, _⟩ := hq0'
    have CP : Hid (∀ W, Below w.heap.size w W → W.cell? ⟨w.heap.size + 1, 1, none⟩ = some (.slice qa' m' qcap') → w.heap.size + 1 < W.heap.size → Calls Tryz.prog 138 #[.agg #[c, q], .agg #[c', .slice qa' m' qcap'], .func (.func 140) #[] #[.pointer (some ⟨w.heap.size + 1, 0, none⟩)]] W fun e w' => ∃ c1 q1, e = .returned (.tuple #[.agg #[c1, q1], .int .i64 (crF C n R m C' n' R' m')]) ∧ FreshRel W w' c1 q1 (okN (crF C n R m C' n' R' m') (n + n')) (okN (crF C n R m C' n' R' m') (pairN (fun _ => m') m)) (colsT C n C' n') (crR R m R' m') ∧ Below W.heap.size W w') := fun W hW hcell hz => by
      rw [HFF.out]
      exact pair_gen 140 #[.pointer (some ⟨w.heap.size + 1, 0, none⟩)] (fun _ => qa') (fun _ => qcap') (fun _ => m') (fun _ => R') c q c' (.slice qa' m' qcap') n m n' m' C C' R W (hc.below hW) (hc'.below hW) (hq.below hW) ⟨_, _, rfl⟩ hft (fun k hk => hq'.below hW)
        (fun k hk i hi => by
          show ((R k).len + (R' i).len) * 32 ≤ _
          rw [hl k hk, hl' i hi]
          omega) (fun _ => hm6') hm6 (fun _ _ => rfl)
        (fun k W' u hk hW' hu => (cross1_is u (w.heap.size + 1) m' qcap' qa' W' ((hW'.cell (p := ⟨w.heap.size + 1, 1, none⟩) hz).trans hcell)).mono (by
          rintro e w' ⟨rfl, rfl⟩
          exact ⟨rfl, Below.refl _ _⟩))
    obtain ⟨qa, qcap, rfl, _⟩ := hq
    obtain ⟨ca, ccap, rfl, _⟩ := hc
    obtain ⟨ca', ccap', rfl, _⟩ := hc'
    rw [h0] at C1
    clear hf hg hf' hg' hT h0 hft hl hl' hq' HFF
    generalize crF C n R m C' n' R' m' = F at *
    generalize okN F (n + n') = N1 at *
    generalize okN F (pairN (fun _ => m') m) = M1 at *
    have hmf : ∀ (fn : Fn) (first cap : Array Value) (w : World), (Instr.makeFunc fn first cap).run Tryz.prog w = .ok (.func fn first cap) w := fun _ _ _ _ => rfl
    go_enter Tryz.func102, Tryz.ntmps102
    go_wp2_with (first
      | (go_at_call 137; refine (C1.out _ _ _).mono ?_; rintro e w1 ⟨rfl, hb1⟩; have HB1 : Hid (Below (w.heap.size + 3) (((w.alloc (.cells #[.slice ca n ccap, .slice qa m qcap] 40)).alloc (.cells #[.slice ca' n' ccap', .slice qa' m' qcap'] 40)).alloc (.cells #[.slice none 0 0, .slice none 0 0] 40)) w1) := hb1; obtain ⟨x0, x1, x2, x3, x4, x5, x6, x7, x8⟩ := box3 hb1; clear hb1)
      | (go_at_call 138; refine (CP.out _ (HW.out HB1.out) x3 (Nat.lt_of_succ_lt x8)).mono ?_; rintro e w2 ⟨c2, q2, rfl, hf2, hb2⟩; have HFR : Hid (FreshRel w1 w2 c2 q2 N1 M1 (colsT C n C' n') (crR R m R' m')) := hf2; obtain ⟨⟨a3, k3, rfl, _⟩, ⟨b3, l3, rfl, _⟩⟩ := hf2 w2 (Nat.le_refl _) (fun _ _ _ => rfl); have HB2 : Hid (Below (w.heap.size + 3) (((w.alloc (.cells #[.slice ca n ccap, .slice qa m qcap] 40)).alloc (.cells #[.slice ca' n' ccap', .slice qa' m' qcap'] 40)).alloc (.cells #[.slice none 0 0, .slice none 0 0] 40)) w2) := HB1.out.trans (hb2.mono (by omega)); have hx8 : w.heap.size + 1 + 1 < w1.heap.size := x8; clear x0 x1 x2 x3 x4 x5 x6 x7 x8; obtain ⟨x0, x1, x2, x3, x4, x5, x6, x7, x8⟩ := box3 HB2.out; clear hf2 hb2))
    refine bodyPost_ret (v := .tuple #[.agg #[.slice a3 N1 k3, .slice b3 M1 l3], .int .i64 F]) (by simp [results, Tryz.results102, go_sem, x4, x5]) rfl ⟨_, _, rfl, ?_, (((HW.out HB2.out)).setCell (by simp; omega) _).setCell (by simp; omega) _⟩
    exact fun W' hs hb => HFR.out W' (by simpa using hs) (fun b h1 h2 => by
      have hb1 := hb b (by omega) (by simpa using h2)
      rw [hb1, Below.heap_setCell _ _ _ _ (by simp; omega), Below.heap_setCell _ _ _ _ (by simp; omega)])
  · have HFF : Hid (crF C n R m C' n' R' m' = twoF (relF C n R m) (relF C' n' R' m')) := if_neg h0
    have HNZ : Hid (¬ twoF (relF C n R m) (relF C' n' R' m') = 0) := h0
    have h1 : (twoF (relF C n R m) (relF C' n' R' m') != 0) = true := by simpa using h0
    obtain ⟨ca, ccap, rfl, _⟩ := hc
    obtain ⟨ca', ccap', rfl, _⟩ := hc'
    obtain ⟨qa, qcap, rfl, _⟩ := hq
    obtain ⟨qa', qcap', rfl, _⟩ := hq'
    clear h0 hf hg hf' hg' hT
    generalize crF C n R m C' n' R' m' = F at *
    generalize twoF (relF C n R m) (relF C' n' R' m') = G at *
    go_enter Tryz.func102, Tryz.ntmps102
    go_wp2_with (first | (go_at_call 137; refine (C1.out _ _ _).mono ?_; rintro e w1 ⟨rfl, hb1⟩; have HB1 : Hid (Below (w.heap.size + 3) _ w1) := hb1; obtain ⟨x0, x1, x2, x3, x4, x5, x6, x7, x8⟩ := box3 hb1; clear hb1))
    refine bodyPost_ret (v := .tuple #[.agg #[.slice none 0 0, .slice none 0 0], .int .i64 G]) (by simp [results, Tryz.results102, go_sem, x4, x5]) rfl ⟨_, _, by rw [HFF.out], ?_, (((HW.out HB1.out)).setCell (by simp; omega) _).setCell (by simp; omega) _⟩
    rw [HFF.out, okN, if_neg HNZ.out, okN, if_neg HNZ.out]; exact FreshRel.nil _ _ _ _
end Go.Proofs.YtkcejelmohameaaGreatDoor
