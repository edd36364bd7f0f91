import Derived.Test.YtbnlekhjgkojlaaGreatDoorTkStep
import Derived.Lib.IndexMore
import Derived.Lib.IndexBytes
import Derived.Lib.SlTrimSet
namespace Go.Proofs.YtbnlekhjgkojlaaGreatDoor
open Go.RowKit
structure Tok where
 kind : Int
 s : ByteArray
 n : Int
def tokV (t : Tok) : Value := .agg #[.int .i64 t.kind, .string t.s, .int .i64 t.n]
def tokC (t : Tok) : List Value := [.int .i64 t.kind, .string t.s, .int .i64 t.n]
def tokCells (L : List Tok) : List Value := L.flatMap tokC
def tok0 : Tok := ⟨0, ⟨#[]⟩, 0⟩
def bs (l : List UInt8) : ByteArray := ⟨l.toArray⟩
theorem bs_list (l : List UInt8) : (bs l).data.toList = l := by simp [bs]
theorem bs_size (l : List UInt8) : (bs l).size = l.length := by show l.toArray.size = l.length; simp
theorem bs_of (s : ByteArray) : bs s.data.toList = s := by simp [bs]
theorem tokCells_snoc (L : List Tok) (t : Tok) : tokCells (L ++ [t]) = tokCells L ++ tokC t := by simp [tokCells]
theorem bAt_lt (l : List UInt8) (k : Nat) (h : k < l.length) : bAt l k = (l[k].toNat : Int) := by
 unfold bAt; rw [List.getD_eq_getElem?_getD, List.getElem?_eq_getElem h]; rfl
def dl : List UInt8 → Nat
 | [] => 0
 | c :: r => if dgt (c.toNat : Int) = true then dl r + 1 else 0
theorem dl_le : ∀ l : List UInt8, dl l ≤ l.length
 | [] => by simp [dl]
 | c :: r => by
  have := dl_le r
  unfold dl; split <;> simp <;> omega
theorem dl_lt : ∀ (l : List UInt8) (k : Nat), k < dl l → dgt (bAt l k) = true
 | [], k, h => by simp [dl] at h
 | c :: r, k, h => by
  unfold dl at h
  split at h
  · rename_i hc
    cases k with
    | zero => rw [bAt_zero]; exact hc
    | succ k => rw [bAt_cons]; exact dl_lt r k (by omega)
  · omega
theorem dl_eq : ∀ l : List UInt8, dl l < l.length → dgt (bAt l (dl l)) = false
 | [], h => by simp at h
 | c :: r, h => by
  unfold dl at h ⊢
  split
  · rename_i hc
    rw [if_pos hc] at h
    rw [bAt_cons]; exact dl_eq r (by simpa using h)
  · rename_i hc
    rw [bAt_zero]; simpa using hc
theorem dgt_iff {c : Int} : dgt c = true ↔ 48 ≤ c ∧ c ≤ 57 := by simp [dgt]
def numV (l : List UInt8) : Nat → Int
 | 0 => 0
 | k + 1 => 10 * numV l k + (bAt l k - 48)
theorem numV_succ (l : List UInt8) (k : Nat) : numV l (k + 1) = 10 * numV l k + (bAt l k - 48) := rfl
theorem numV_nonneg (l : List UInt8) : ∀ k, k ≤ dl l → 0 ≤ numV l k
 | 0, _ => Int.le_refl _
 | k + 1, h => by
  have h1 := numV_nonneg l k (by omega)
  have h2 := dgt_iff.1 (dl_lt l k (by omega))
  rw [numV_succ]; omega
theorem dl_pos {l : List UInt8} (h : dgt (bAt l 0) = true) (hl : 0 < l.length) : 1 ≤ dl l := by
 cases l with
 | nil => simp at hl
 | cons c r => rw [bAt_zero] at h; unfold dl; rw [if_pos h]; omega
theorem wl_pos {l : List UInt8} (h : lett (bAt l 0) = true) (hl : 0 < l.length) : 1 ≤ wl l true := by
 cases l with
 | nil => simp at hl
 | cons c r => rw [bAt_zero] at h; unfold wl; rw [if_pos (by simp [wb, h])]; omega
theorem wl_take : ∀ (l : List UInt8) (f : Bool), wl (l.take (wl l f)) f = wl l f
 | [], f => by simp [wl]
 | c :: r, f => by
  have ih := wl_take r false
  by_cases h : wb (c.toNat : Int) f = true
  · have e : wl (c :: r) f = wl r false + 1 := by rw [wl, if_pos h]
    rw [e, List.take_succ_cons, wl, if_pos h, ih]
  · have e : wl (c :: r) f = 0 := by rw [wl, if_neg h]
    rw [e]; rfl
def ql : List UInt8 → Nat
 | [] => 0
 | c :: r => if c = 34 then 0 else ql r + 1
theorem ql_lt : ∀ (l : List UInt8) (k : Nat), k < ql l → bAt l k ≠ 34
 | [], k, h => by simp [ql] at h
 | c :: r, k, h => by
  unfold ql at h
  split at h
  · omega
  · rename_i hc
    cases k with
    | zero =>
     rw [bAt_zero]
     intro e
     exact hc (UInt8.toNat_inj.1 (show c.toNat = 34 by omega))
    | succ k => rw [bAt_cons]; exact ql_lt r k (by omega)
theorem ql_index : ∀ l : List UInt8, Lib.indexByte l 34 = if ql l < l.length then (ql l : Int) else -1
 | [] => by simp [Lib.indexByte]
 | c :: r => by
  have ih := ql_index r
  have e1 : Lib.indexByte (c :: r) 34 = if (c == 34) = true then 0 else if (Lib.indexByte r 34 == -1) = true then -1 else Lib.indexByte r 34 + 1 := rfl
  by_cases hc : c = 34
  · have e2 : ql (c :: r) = 0 := by rw [ql, if_pos hc]
    rw [e1, e2, hc]; simp
  · have hb : (c == 34) = false := by simpa using hc
    have e2 : ql (c :: r) = ql r + 1 := by rw [ql, if_neg hc]
    rw [e1, e2, hb, ih, if_neg (by decide)]
    by_cases h : ql r < r.length
    · have h3 : ((ql r : Int) == -1) = false := by rw [beq_eq_false_iff_ne]; omega
      rw [if_pos h, h3, if_neg (by decide), if_pos (by rw [List.length_cons]; omega)]
      omega
    · rw [if_neg h, if_pos (by decide), if_neg (by rw [List.length_cons]; omega)]
theorem ql_cut (l : List UInt8) : Lib.cut l [34] = if ql l < l.length then (l.take (ql l), l.drop (ql l + 1), true) else (l, [], false) := by
 unfold Lib.cut
 rw [Lib.index_one, ql_index]
 by_cases h : ql l < l.length
 · rw [if_pos h, if_pos h, if_pos (by omega)]
   simp
 · rw [if_neg h, if_neg h, if_neg (by decide)]
def bk (c : Int) : Bool := decide (c = 32 ∨ c = 10 ∨ c = 9)
def bl : List UInt8 → Nat
 | [] => 0
 | c :: r => if bk (c.toNat : Int) = true then bl r + 1 else 0
theorem bl_le : ∀ l : List UInt8, bl l ≤ l.length
 | [] => by simp [bl]
 | c :: r => by
  have := bl_le r
  unfold bl; split <;> simp <;> omega
theorem bl_lt : ∀ (l : List UInt8) (k : Nat), k < bl l → bk (bAt l k) = true
 | [], k, h => by simp [bl] at h
 | c :: r, k, h => by
  unfold bl at h
  split at h
  · rename_i hc
    cases k with
    | zero => rw [bAt_zero]; exact hc
    | succ k => rw [bAt_cons]; exact bl_lt r k (by omega)
  · omega
theorem bl_eq : ∀ l : List UInt8, bl l < l.length → bk (bAt l (bl l)) = false
 | [], h => by simp at h
 | c :: r, h => by
  unfold bl at h ⊢
  split
  · rename_i hc
    rw [if_pos hc] at h
    rw [bAt_cons]; exact bl_eq r (by simpa using h)
  · rename_i hc
    rw [bAt_zero]; simpa using hc
theorem bk_in (c : UInt8) : ([32, 10, 9] : List UInt8).contains c = bk (c.toNat : Int) := by
 rw [Bool.eq_iff_iff]
 simp only [List.contains_iff_mem, List.mem_cons, List.not_mem_nil, or_false, bk, decide_eq_true_eq]
 constructor
 · rintro (rfl | rfl | rfl) <;> decide
 · rintro (h | h | h)
   · exact .inl (UInt8.toNat_inj.1 (show c.toNat = 32 by omega))
   · exact .inr (.inl (UInt8.toNat_inj.1 (show c.toNat = 10 by omega)))
   · exact .inr (.inr (UInt8.toNat_inj.1 (show c.toNat = 9 by omega)))
theorem bl_trim : ∀ l : List UInt8, Lib.trimLeftS l [32, 10, 9] = l.drop (bl l)
 | [] => by simp [Lib.trimLeftS, bl]
 | c :: r => by
  have ih := bl_trim r
  unfold Lib.trimLeftS at ih ⊢
  unfold bl
  rw [List.dropWhile_cons, bk_in c]
  split
  · rw [ih]; rfl
  · rfl
def tk (l : List UInt8) : Int × Tok × Nat :=
 if lett (bAt l 0) = true then (if wl l true ≤ 20 then (0, ⟨1, bs (l.take (wl l true)), 0⟩, wl l true) else (10, tok0, 0))
 else if bAt l 0 = 36 then (if 1 ≤ wl (l.drop 1) true ∧ wl (l.drop 1) true ≤ 20 then (0, ⟨4, bs ((l.drop 1).take (wl (l.drop 1) true)), 0⟩, 1 + wl (l.drop 1) true) else (10, tok0, 0))
 else if dgt (bAt l 0) = true then (if numV l (dl l) ≤ 1099511627776 then (0, ⟨2, ⟨#[]⟩, numV l (dl l)⟩, dl l) else (2, tok0, 0))
 else if bAt l 0 = 34 then (if ql (l.drop 1) < (l.drop 1).length then (if textF (bs ((l.drop 1).take (ql (l.drop 1)))) = 0 then (0, ⟨3, bs ((l.drop 1).take (ql (l.drop 1))), 0⟩, ql (l.drop 1) + 2) else (textF (bs ((l.drop 1).take (ql (l.drop 1)))), tok0, 0)) else (5, tok0, 0))
 else if fm l = [] then (4, tok0, 0) else (0, ⟨5, bs (fm l), 0⟩, (fm l).length)
theorem fm_len {l : List UInt8} (h : fm l ≠ []) : 1 ≤ (fm l).length ∧ (fm l).length ≤ l.length := by
 constructor
 · cases e : fm l with
   | nil => exact absurd e h
   | cons c r => simp
 · have := (fm_mem h).2
   exact (List.isPrefixOf_iff_prefix.1 this).length_le
theorem tk_size {l : List UInt8} (hl : 0 < l.length) (h : (tk l).1 = 0) : 1 ≤ (tk l).2.2 ∧ (tk l).2.2 ≤ l.length := by
 have h1 := wl_le l true
 have h2 := wl_le (l.drop 1) true
 have h3 := dl_le l
 rw [List.length_drop] at h2
 unfold tk at h ⊢
 split
 · rename_i hc
   have := wl_pos hc hl
   rw [if_pos hc] at h
   split
   · exact ⟨this, h1⟩
   · rename_i hn; rw [if_neg hn] at h; exact absurd h (by decide)
 rename_i c1
 rw [if_neg c1] at h
 split
 · rename_i hc
   rw [if_pos hc] at h
   split
   · rename_i hn; simp only; omega
   · rename_i hn; rw [if_neg hn] at h; exact absurd h (by decide)
 rename_i c2
 rw [if_neg c2] at h
 split
 · rename_i hc
   have := dl_pos hc hl
   rw [if_pos hc] at h
   split
   · exact ⟨this, h3⟩
   · rename_i hn; rw [if_neg hn] at h; exact absurd h (by decide)
 rename_i c3
 rw [if_neg c3] at h
 split
 · rename_i hc
   rw [if_pos hc] at h
   split
   · rename_i hn
     rw [if_pos hn] at h
     rw [List.length_drop] at hn
     split
     · simp only; omega
     · rename_i ht; rw [if_neg ht] at h; exact absurd h ht
   · rename_i hn; rw [if_neg hn] at h; exact absurd h (by decide)
 rename_i c4
 rw [if_neg c4] at h
 split
 · rename_i hn; rw [if_pos hn] at h; exact absurd h (by decide)
 · rename_i hn; exact fm_len hn
def cutGo (l : List UInt8) : Nat → Nat → Nat → List Tok × Nat × Int
 | 0, _, _ => ([], 0, 0)
 | f + 1, a, n =>
  if l.length ≤ a then ([], 0, 0)
  else if bk (bAt l a) = true then cutGo l f (a + 1) n
  else if 200 ≤ n then ([], a, 1)
  else if (tk (l.drop a)).1 = 0 then ((tk (l.drop a)).2.1 :: (cutGo l f (a + (tk (l.drop a)).2.2) (n + 1)).1, (cutGo l f (a + (tk (l.drop a)).2.2) (n + 1)).2)
  else ([], a, (tk (l.drop a)).1)
theorem cutGo_stable (l : List UInt8) : ∀ f f' a n, l.length - a ≤ f → l.length - a ≤ f' → cutGo l f a n = cutGo l f' a n
 | 0, 0, a, n, _, _ => rfl
 | 0, f' + 1, a, n, h, _ => by rw [cutGo, cutGo, if_pos (by omega)]
 | f + 1, 0, a, n, _, h => by rw [cutGo, cutGo, if_pos (by omega)]
 | f + 1, f' + 1, a, n, h, h' => by
  rw [cutGo, cutGo]
  by_cases h1 : l.length ≤ a
  · rw [if_pos h1, if_pos h1]
  rw [if_neg h1, if_neg h1]
  by_cases h2 : bk (bAt l a) = true
  · rw [if_pos h2, if_pos h2]
    exact cutGo_stable l f f' (a + 1) n (by omega) (by omega)
  rw [if_neg h2, if_neg h2]
  by_cases h3 : 200 ≤ n
  · rw [if_pos h3, if_pos h3]
  rw [if_neg h3, if_neg h3]
  by_cases h4 : (tk (l.drop a)).1 = 0
  · have hz := tk_size (l := l.drop a) (by rw [List.length_drop]; omega) h4
    rw [if_pos h4, if_pos h4, cutGo_stable l f f' (a + (tk (l.drop a)).2.2) (n + 1) (by omega) (by omega)]
  · rw [if_neg h4, if_neg h4]
def cutAt (l : List UInt8) (a n : Nat) : List Tok × Nat × Int := cutGo l (l.length - a) a n
theorem cutAt_end {l : List UInt8} {a n : Nat} (h : l.length ≤ a) : cutAt l a n = ([], 0, 0) := by
 unfold cutAt; rw [show l.length - a = 0 by omega]; rfl
theorem cutAt_blank {l : List UInt8} {a n : Nat} (h : a < l.length) (hb : bk (bAt l a) = true) : cutAt l a n = cutAt l (a + 1) n := by
 unfold cutAt
 rw [show l.length - a = (l.length - (a + 1)) + 1 by omega, cutGo, if_neg (by omega), if_pos hb]
theorem cutAt_full {l : List UInt8} {a n : Nat} (h : a < l.length) (hb : bk (bAt l a) = false) (hn : 200 ≤ n) : cutAt l a n = ([], a, 1) := by
 unfold cutAt
 rw [show l.length - a = (l.length - (a + 1)) + 1 by omega, cutGo, if_neg (by omega), if_neg (by rw [hb]; decide), if_pos hn]
theorem cutAt_err {l : List UInt8} {a n : Nat} (h : a < l.length) (hb : bk (bAt l a) = false) (hn : ¬ 200 ≤ n) (ht : ¬ (tk (l.drop a)).1 = 0) : cutAt l a n = ([], a, (tk (l.drop a)).1) := by
 unfold cutAt
 rw [show l.length - a = (l.length - (a + 1)) + 1 by omega, cutGo, if_neg (by omega), if_neg (by rw [hb]; decide), if_neg hn, if_neg ht]
theorem cutAt_tok {l : List UInt8} {a n : Nat} (h : a < l.length) (hb : bk (bAt l a) = false) (hn : ¬ 200 ≤ n) (ht : (tk (l.drop a)).1 = 0) :
 cutAt l a n = ((tk (l.drop a)).2.1 :: (cutAt l (a + (tk (l.drop a)).2.2) (n + 1)).1, (cutAt l (a + (tk (l.drop a)).2.2) (n + 1)).2) := by
 have hz := tk_size (l := l.drop a) (by rw [List.length_drop]; omega) ht
 unfold cutAt
 rw [show l.length - a = (l.length - (a + 1)) + 1 by omega, cutGo, if_neg (by omega), if_neg (by rw [hb]; decide), if_neg hn, if_pos ht,
  cutGo_stable l (l.length - (a + 1)) (l.length - (a + (tk (l.drop a)).2.2)) (a + (tk (l.drop a)).2.2) (n + 1) (by omega) (by omega)]
theorem cutAt_blanks {l : List UInt8} (n : Nat) : ∀ k a, k ≤ bl (l.drop a) → cutAt l a n = cutAt l (a + k) n
 | 0, a, _ => rfl
 | k + 1, a, h => by
  have hle := bl_le (l.drop a)
  rw [List.length_drop] at hle
  rw [cutAt_blanks n k a (by omega)]
  have := bl_lt (l.drop a) k (by omega)
  rw [bAt_drop] at this
  rw [cutAt_blank (by omega) this]
  rfl
def CutTo (l : List UInt8) (L : List Tok) (a : Nat) : Prop := cutAt l 0 0 = (L ++ (cutAt l a L.length).1, (cutAt l a L.length).2)
theorem CutTo.zero (l : List UInt8) : CutTo l [] 0 := by unfold CutTo; simp
theorem CutTo.blanks {l : List UInt8} {L : List Tok} {a k : Nat} (h : CutTo l L a) (hk : k ≤ bl (l.drop a)) : CutTo l L (a + k) := by
 unfold CutTo at h ⊢; rw [h, cutAt_blanks L.length k a hk]
theorem CutTo.tok {l : List UInt8} {L : List Tok} {a : Nat} (h : CutTo l L a) (ha : a < l.length) (hb : bk (bAt l a) = false) (hn : ¬ 200 ≤ L.length) (ht : (tk (l.drop a)).1 = 0) : CutTo l (L ++ [(tk (l.drop a)).2.1]) (a + (tk (l.drop a)).2.2) := by
 unfold CutTo at h ⊢; rw [h, cutAt_tok ha hb hn ht]; simp
def cutT (l : List UInt8) : List Tok := if 1000 < l.length then [] else if (cutAt l 0 0).2.2 = 0 then (cutAt l 0 0).1 else []
def cutP (l : List UInt8) : Nat := if 1000 < l.length then 0 else (cutAt l 0 0).2.1
def cutE (l : List UInt8) : Int := if 1000 < l.length then 1 else (cutAt l 0 0).2.2
theorem cut_big {l : List UInt8} (h : 1000 < l.length) : cutT l = [] ∧ cutP l = 0 ∧ cutE l = 1 := by
 unfold cutT cutP cutE; rw [if_pos h, if_pos h, if_pos h]; exact ⟨rfl, rfl, rfl⟩
theorem CutTo.done {l : List UInt8} {L : List Tok} {a : Nat} (h : CutTo l L a) (hs : ¬ 1000 < l.length) (ha : l.length ≤ a) : cutT l = L ∧ cutP l = 0 ∧ cutE l = 0 := by
 unfold CutTo at h
 rw [cutAt_end ha] at h
 unfold cutT cutP cutE
 rw [if_neg hs, if_neg hs, if_neg hs, h]
 exact ⟨by simp, rfl, rfl⟩
theorem CutTo.full {l : List UInt8} {L : List Tok} {a : Nat} (h : CutTo l L a) (hs : ¬ 1000 < l.length) (ha : a < l.length) (hb : bk (bAt l a) = false) (hn : 200 ≤ L.length) : cutT l = [] ∧ cutP l = a ∧ cutE l = 1 := by
 unfold CutTo at h
 rw [cutAt_full ha hb hn] at h
 unfold cutT cutP cutE
 rw [if_neg hs, if_neg hs, if_neg hs, h]
 exact ⟨rfl, rfl, rfl⟩
theorem CutTo.err {l : List UInt8} {L : List Tok} {a : Nat} (h : CutTo l L a) (hs : ¬ 1000 < l.length) (ha : a < l.length) (hb : bk (bAt l a) = false) (hn : ¬ 200 ≤ L.length) (ht : ¬ (tk (l.drop a)).1 = 0) : cutT l = [] ∧ cutP l = a ∧ cutE l = (tk (l.drop a)).1 := by
 unfold CutTo at h
 rw [cutAt_err ha hb hn ht] at h
 unfold cutT cutP cutE
 rw [if_neg hs, if_neg hs, if_neg hs, h]
 exact ⟨if_neg ht, rfl, rfl⟩
end Go.Proofs.YtbnlekhjgkojlaaGreatDoor
