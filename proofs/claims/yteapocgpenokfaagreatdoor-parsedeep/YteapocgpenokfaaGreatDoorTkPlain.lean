/-
  TOKENS, PLAINLY: words, marks, and what is said of a token. Nothing of the program.
-/
import Derived.Test.YteapocgpenokfaaGreatDoorPlain
namespace Go.Proofs.YteapocgpenokfaaGreatDoor
open Go.RowKit

/-- a letter of a word, at its beginning or behind that -/
def lett (c : Int) : Bool := decide ((97 ≤ c ∧ c ≤ 122) ∨ (65 ≤ c ∧ c ≤ 90) ∨ c = 95)
def dgt (c : Int) : Bool := decide (48 ≤ c ∧ c ≤ 57)
def wb (c : Int) (f : Bool) : Bool := lett c || (!f && (dgt c || decide (c = 45)))
theorem wb_nb (c : Int) (f : Bool) : (decide (c ≠ 46) && nb c f) = wb c f := by
  rw [Bool.eq_iff_iff]
  cases f <;> simp [nb, wb, lett, dgt] <;> omega

/-- a byte of a list, as a number -/
def bAt (l : List UInt8) (k : Nat) : Int := ((l.getD k 0).toNat : Int)
theorem byteAt_bAt (s : ByteArray) (k : Nat) : byteAt s k = bAt s.data.toList k := rfl
theorem bAt_cons (c : UInt8) (l : List UInt8) (k : Nat) : bAt (c :: l) (k + 1) = bAt l k := by simp [bAt]
theorem bAt_zero (c : UInt8) (l : List UInt8) : bAt (c :: l) 0 = (c.toNat : Int) := by simp [bAt]
theorem bAt_drop (l : List UInt8) (a k : Nat) : bAt (l.drop a) k = bAt l (a + k) := by
  unfold bAt; rw [List.getD_eq_getElem?_getD, List.getD_eq_getElem?_getD, List.getElem?_drop]

/-- how many bytes of a word stand at the beginning -/
def wl : List UInt8 → Bool → Nat
  | [], _ => 0
  | c :: r, f => if wb (c.toNat : Int) f = true then wl r false + 1 else 0
theorem wl_le : ∀ (l : List UInt8) (f : Bool), wl l f ≤ l.length
  | [], _ => by simp [wl]
  | c :: r, f => by
    have := wl_le r false
    unfold wl; split <;> simp <;> omega
theorem wl_lt : ∀ (l : List UInt8) (f : Bool) (k : Nat), k < wl l f → wb (bAt l k) (f && decide (k = 0)) = true
  | [], _, k, h => by simp [wl] at h
  | c :: r, f, k, h => by
    unfold wl at h
    split at h
    · rename_i hc
      cases k with
      | zero => rw [bAt_zero]; simpa using hc
      | succ k =>
        have := wl_lt r false k (by omega)
        rw [bAt_cons]; simpa using this
    · omega
theorem wl_eq : ∀ (l : List UInt8) (f : Bool), wl l f < l.length → wb (bAt l (wl l f)) (f && decide (wl l f = 0)) = false
  | [], _, h => by simp at h
  | c :: r, f, h => by
    unfold wl at h ⊢
    split
    · rename_i hc
      rw [if_pos hc] at h
      have := wl_eq r false (by simpa using h)
      rw [bAt_cons]; simpa using this
    · rename_i hc
      rw [bAt_zero]; simpa using hc

/-- is a text a word that may be? -/
def nmB (s : ByteArray) : Bool := decide (1 ≤ s.size ∧ s.size ≤ 20) && decide (wl s.data.toList true = s.size)

/-- the marks, the longer ones first -/
def marksL : List (List UInt8) := [[58, 58], [47, 47], [46, 46], [58, 61], [33, 61], [60, 61], [62, 61], [60, 60], [62, 62], [47], [40], [41], [91], [93], [123], [125], [44], [46], [64], [42], [61], [60], [62], [43], [45], [124]]
def mkAt (k : Nat) : List UInt8 := marksL.getD k []
/-- the first of the marks, from the k-th one on, with which a list begins -/
def fm (l : List UInt8) : List UInt8 := (marksL.find? fun m => m.isPrefixOf l).getD []
def fmFrom (l : List UInt8) (k : Nat) : List UInt8 := ((marksL.drop k).find? fun m => m.isPrefixOf l).getD []
theorem fmFrom_zero (l : List UInt8) : fmFrom l 0 = fm l := rfl
theorem mark_drop {k : Nat} (h : k < 26) : marksL.drop k = mkAt k :: marksL.drop (k + 1) := by
  have h' : k < marksL.length := h
  rw [List.drop_eq_getElem_cons h']
  congr 1
  unfold mkAt
  rw [List.getD_eq_getElem?_getD, List.getElem?_eq_getElem h']
  rfl
theorem fmFrom_hit {l : List UInt8} {k : Nat} (h : k < 26) (hp : (mkAt k).isPrefixOf l = true) : fmFrom l k = mkAt k := by
  unfold fmFrom; rw [mark_drop h, List.find?_cons, hp]; rfl
theorem fmFrom_miss {l : List UInt8} {k : Nat} (h : k < 26) (hp : (mkAt k).isPrefixOf l = false) : fmFrom l k = fmFrom l (k + 1) := by
  unfold fmFrom; rw [mark_drop h, List.find?_cons, hp]
theorem fmFrom_end (l : List UInt8) : fmFrom l 26 = [] := rfl
/-- is a list a mark? -/
def isMk (l : List UInt8) : Bool := marksL.contains l
theorem fm_mem {l : List UInt8} (h : fm l ≠ []) : fm l ∈ marksL ∧ (fm l).isPrefixOf l = true := by
  unfold fm at h ⊢
  cases hf : marksL.find? (fun m => m.isPrefixOf l) with
  | none => rw [hf] at h; simp at h
  | some m => exact ⟨List.mem_of_find?_eq_some hf, List.find?_some (p := fun m : List UInt8 => m.isPrefixOf l) hf⟩
theorem fm_self : ∀ m ∈ marksL, fm m = m := by decide
theorem fm_isMk (l : List UInt8) : isMk l = (decide (l ≠ []) && decide (fm l = l)) := by
  rw [Bool.eq_iff_iff]
  unfold isMk
  simp only [List.contains_iff_mem, Bool.and_eq_true, decide_eq_true_eq]
  constructor
  · intro h
    exact ⟨by rintro rfl; revert h; decide, fm_self l h⟩
  · rintro ⟨h1, h2⟩
    have := fm_mem (l := l) (by rw [h2]; exact h1)
    rw [h2] at this
    exact this.1

/-- has a list a quotation mark? -/
def hasQ (l : List UInt8) : Bool := l.contains 34
/-- what is said of a token -/
def tokF (k : Int) (s : ByteArray) (n : Int) : Int :=
  if ¬ (1 ≤ k ∧ k ≤ 5) then 3
  else if k = 2 then (if n < 0 ∨ 1099511627776 < n then 2 else if s.size ≠ 0 then 4 else 0)
  else if n ≠ 0 then 4
  else if k = 3 then (if hasQ s.data.toList = true then 4 else textF s)
  else if k = 5 then (if isMk s.data.toList = true then 0 else 6)
  else if nmB s = true then 0 else 10
end Go.Proofs.YteapocgpenokfaaGreatDoor
