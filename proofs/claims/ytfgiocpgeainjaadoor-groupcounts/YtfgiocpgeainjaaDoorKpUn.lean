/-
  FACTS for pleacherkeep.UnionSplit: relations of raw things may be; what becomes of two of them.
-/
import Derived.Test.YtfgiocpgeainjaaDoorKpCmp
import Derived.Test.YtfgiocpgeainjaaDoorKpSame
import Derived.Test.YtfgiocpgeainjaaDoorRlUnion
set_option linter.unusedVariables false
namespace Go.Proofs.YtfgiocpgeainjaaDoor
set_option maxRecDepth 100000
open Go.RowKit

def nA : ByteArray := ⟨#[97]⟩
def nB : ByteArray := ⟨#[98]⟩
theorem may_x (x : Rw) : mayI (itX x) = true := by
  unfold itX mayI
  have h4 := pk_range (n := x.a) (many := 4) (by omega)
  rw [if_neg (show ¬ (2 : Int) = 1 by decide), if_pos rfl]
  exact decide_eq_true ⟨rfl, by show -1099511627776 ≤ pk x.a 4; omega, by show pk x.a 4 ≤ 1099511627776; omega⟩
theorem rawN_le (n : Nat) : rawN n ≤ 12 := by unfold rawN; split <;> omega
theorem raw_row (X : Nat → Rw) (i : Nat) : rowE 2 (rawR X) i = 0 := by
  refine rowE_ok rfl (all_yes fun k hk => ?_)
  unfold rawR
  simp only
  split
  · exact may_x _
  · exact (may_y _).1
theorem raw_fine (X : Nat → Rw) (m : Nat) (hm : m ≤ 12) : RowsFine m (rawR X) := by
  refine ⟨by omega, fun i hi => ⟨?_, fun k hk => ?_⟩⟩
  · show 2 * 32 ≤ _; decide
  · unfold rawR maxLen
    simp only
    split
    · show (0 : Nat) ≤ _; omega
    · have := (may_y (X i)).2; omega
theorem cols_fine (a b : ByteArray) (ha : a.size ≤ 1) (hb : b.size ≤ 1) : StrsFine 2 (twoC a b) := by
  refine ⟨by decide, fun i hi => ?_⟩
  unfold twoC maxLen
  split <;> omega
theorem ab_ne : (nA.toList == nB.toList) = false := by rw [ByteArray.toList_eq, ByteArray.toList_eq]; rfl
theorem ba_ne : (nB.toList == nA.toList) = false := by rw [ByteArray.toList_eq, ByteArray.toList_eq]; rfl
theorem cols_two {a b : ByteArray} (ha : a.size = 1) (hb : b.size = 1) (h : (a.toList == b.toList) = false) : colsF (twoC a b) 2 = 0 := by
  refine colsF_ok (by decide) fun j hj => ?_
  have : j = 0 ∨ j = 1 := by omega
  rcases this with rfl | rfl
  · exact colE_ok (by show ¬ (a.size < 1 ∨ 20 < a.size); omega) (among_no fun j hj => by omega)
  · refine colE_ok (by show ¬ (b.size < 1 ∨ 20 < b.size); omega) (among_no fun j hj => ?_)
    obtain rfl : j = 0 := by omega
    exact h
theorem cols_ab : colsF (twoC nA nB) 2 = 0 := cols_two rfl rfl ab_ne
theorem cols_ba : colsF (twoC nB nA) 2 = 0 := cols_two rfl rfl ba_ne
theorem colsB_ab : colsB (twoC nA nB) (twoC nA nB) 2 2 = true := by unfold colsB; simp
theorem colsB_ba : colsB (twoC nA nB) (twoC nB nA) 2 2 = false := colsB_no (k := 0) (by decide) ab_ne
theorem made_0 {C : Nat → ByteArray} {n m : Nat} (h : colsF C n = 0) (hm : m ≤ 1000000) : madeF C n m = 0 := by
  unfold madeF; rw [if_pos h, if_neg (by omega)]
theorem rel_ab (X : Nat → Rw) (m : Nat) (hm : m ≤ 12) : relF (twoC nA nB) 2 (rawR X) m = 0 := relF_ok (made_0 cols_ab (by omega)) (fun j _ => raw_row X j)
theorem rel_ba (X : Nat → Rw) (m : Nat) (hm : m ≤ 12) : relF (twoC nB nA) 2 (rawR X) m = 0 := relF_ok (made_0 cols_ba (by omega)) (fun j _ => raw_row X j)
theorem un_ab (X Y : Nat → Rw) (m m' : Nat) (hm : m ≤ 12) (hm' : m' ≤ 12) : unF (twoC nA nB) 2 (rawR X) m (twoC nA nB) 2 (rawR Y) m' = 0 := by
  unfold unF twoF
  rw [rel_ab X m hm, rel_ab Y m' hm', if_pos rfl, if_pos rfl, if_pos colsB_ab]
  exact made_0 cols_ab (by omega)
theorem un_ba (X Y : Nat → Rw) (m m' : Nat) (hm : m ≤ 12) (hm' : m' ≤ 12) : unF (twoC nA nB) 2 (rawR X) m (twoC nB nA) 2 (rawR Y) m' = 9 := by
  unfold unF twoF
  rw [rel_ab X m hm, rel_ba Y m' hm', if_pos rfl, if_pos rfl, if_neg (by rw [colsB_ba]; decide)]
theorem RowsIs.take {w : World} {a : Option Addr} {M m c : Nat} {R : Nat → Row} (h : RowsIs w (.slice a M c) M R) (hm : m ≤ M) : RowsIs w (.slice a m c) m R := by
  obtain ⟨a0, cap, e, h1, h2, h3, h4⟩ := h
  simp only [Value.slice.injEq, true_and] at e
  obtain ⟨rfl, rfl⟩ := e
  refine ⟨a, c, rfl, by omega, h2, h3, fun h0 => ?_⟩
  obtain ⟨b, off, e1, e2, e3⟩ := h4 (by omega)
  exact ⟨b, off, e1, e2, fun i hi => e3 i (by omega)⟩
theorem RowsIs.drop {w : World} {b off M m c : Nat} {R : Nat → Row} (h : RowsIs w (.slice (some ⟨b, off, none⟩) M c) M R) (hm : m < M) : RowsIs w (.slice (some ⟨b, off + m, none⟩) (M - m) (c - m)) (M - m) (fun i => R (m + i)) := by
  obtain ⟨a0, cap, e, h1, h2, h3, h4⟩ := h
  simp only [Value.slice.injEq, true_and] at e
  obtain ⟨rfl, rfl⟩ := e
  refine ⟨_, c - m, rfl, by omega, by omega, (fun h => nomatch h), fun h0 => ?_⟩
  obtain ⟨b', off', e1, e2, e3⟩ := h4 (by omega)
  simp only [Option.some.injEq, Addr.mk.injEq, and_true] at e1
  obtain ⟨rfl, rfl⟩ := e1
  refine ⟨b, off + m, rfl, e2, fun i hi => ?_⟩
  obtain ⟨u, k1, k2⟩ := e3 (m + i) (by omega)
  exact ⟨u, by rw [show off + m + i = off + (m + i) by omega]; exact k1, k2⟩
theorem rows_none {w : World} {a : Option Addr} {c : Nat} (R : Nat → Row) (hc : c ≤ maxLen) (ha : a = none → c = 0) : RowsIs w (.slice a 0 c) 0 R := ⟨a, c, rfl, Nat.zero_le _, hc, ha, fun h => absurd h (Nat.lt_irrefl _)⟩
end Go.Proofs.YtfgiocpgeainjaaDoor
