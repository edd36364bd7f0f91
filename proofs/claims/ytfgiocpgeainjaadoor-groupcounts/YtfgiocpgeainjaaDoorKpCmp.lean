/-
  FACTS for pleacherkeep.CompareOrder: its rows, one row more, and that its items may be.
-/
import Derived.Test.YtfgiocpgeainjaaDoorKpRel
import Derived.Test.YtfgiocpgeainjaaDoorKpOrd
import Derived.Test.YtfgiocpgeainjaaDoorRlItemC
set_option linter.unusedVariables false
namespace Go.Proofs.YtfgiocpgeainjaaDoor
set_option maxRecDepth 100000
open Go.RowKit Go.WideShapes

def lastR : Row := ⟨2, fun t => if t = 0 then ⟨2, 0, ⟨#[]⟩⟩ else ⟨3, 0, ⟨#[]⟩⟩⟩
/-- the rows, with one more -/
def cmpR (X : Nat → Rw) (m i : Nat) : Row := if i < m then rawR X i else lastR
theorem RowsTwo.congr {w : World} {B T : Nat} {v : Value} {m : Nat} {R R' : Nat → Row} (h : RowsTwo w B T v m R) (e : ∀ i, i < m → R' i = R i) : RowsTwo w B T v m R' := by
  obtain ⟨us, h1, h2, h3⟩ := h
  refine ⟨us, h1, h2, fun i hi => ?_⟩
  obtain ⟨u, k1, k2⟩ := h3 i hi
  exact ⟨u, k1, by rw [e i hi]; exact k2⟩
theorem its_setK {w : World} {u z : Value} {n T : Nat} {X : Nat → It} (h : ItsIs w u n X) (hno : ∀ j, w.cell? ⟨T, j + 2, none⟩ = none) : ItsIs (w.setCell ⟨T, 1, none⟩ z) u n X := by
  obtain ⟨a, cap, h1, h2, h3, hn, h4⟩ := h
  refine ⟨a, cap, h1, h2, h3, hn, fun h0 => ?_⟩
  obtain ⟨b, off, h5, h6, h7⟩ := h4 h0
  have hb : b ≠ T := fun e => by
    have := (h7 0 h0).2.2
    rw [e, show off + 0 * 3 + 2 = off + 2 by omega, hno off] at this
    cases this
  exact ⟨b, off, h5, by simpa using h6, h7.block (Below.heap_setCell _ _ _ _ (by simpa using hb))⟩
/-- the list is put where the relation is kept -/
theorem rows_put {w : World} {B T T' m : Nat} {v z : Value} {R : Nat → Row} (h : RowsTwo w B T v m R) (hv : v.ownBlock ≠ some T') (hno : ∀ j, w.cell? ⟨T', j + 2, none⟩ = none) : RowsIs (w.setCell ⟨T', 1, none⟩ z) v m R := by
  obtain ⟨a, cap, rfl, h1, h2, h3, h4⟩ := h.is
  refine ⟨a, cap, rfl, h1, h2, h3, fun h0 => ?_⟩
  obtain ⟨b, off, rfl, h5, h6⟩ := h4 h0
  have hb : b ≠ T' := fun e => hv (by rw [← e]; rfl)
  refine ⟨b, off, rfl, by simpa using h5, fun i hi => ?_⟩
  obtain ⟨u, k1, k2⟩ := h6 i hi
  exact ⟨u, (World.cell?_of_block (a := ⟨b, off + i, none⟩) (Below.heap_setCell _ _ _ _ (by simpa using hb))).trans k1, its_setK k2 hno⟩
theorem text_one {c : Int} (h0 : 0 ≤ c) (h1 : c < 5) : textF (strOfNums [97 + c]) = 0 := by
  obtain rfl | rfl | rfl | rfl | rfl : c = 0 ∨ c = 1 ∨ c = 2 ∨ c = 3 ∨ c = 4 := by omega
  all_goals exact textF_ok (by rw [strOfNums_size]; simp) (by decide) (by decide)
theorem pl_size (t : ByteArray) : (pl t).size ≤ 1 := by
  unfold pl
  split
  · simp
  · rw [strOfNums_size]; simp
theorem text_pl (t : ByteArray) : textF (pl t) = 0 := by
  unfold pl
  split
  · exact textF_ok (by simp) (by decide) (by decide)
  · exact text_one (Int.emod_nonneg _ (by omega)) (Int.emod_lt_of_pos _ (by omega))
theorem may_y (x : Rw) : mayI (itY x) = true ∧ (itY x).s.size ≤ 1 := by
  unfold itY
  have h4 := pk_range (n := x.b) (many := 4) (by omega)
  have h2 := pk_range (n := x.b) (many := 2) (by omega)
  split
  · exact ⟨by simp [mayI, text_pl], pl_size _⟩
  · split
    · refine ⟨?_, Nat.zero_le 1⟩
      unfold mayI
      rw [if_neg (show ¬ (4 : Int) = 1 by decide), if_neg (show ¬ (4 : Int) = 2 by decide), if_neg (show ¬ (4 : Int) = 3 by decide), if_pos rfl]
      exact decide_eq_true ⟨rfl, by show pk x.b 2 = 0 ∨ pk x.b 2 = 1; omega⟩
    · refine ⟨?_, Nat.zero_le 1⟩
      unfold mayI
      rw [if_neg (show ¬ (2 : Int) = 1 by decide), if_pos rfl]
      exact decide_eq_true ⟨rfl, by show -1099511627776 ≤ pk x.b 4 - 1; omega, by show pk x.b 4 - 1 ≤ 1099511627776; omega⟩
def it1 (X : Nat → Rw) (m i : Nat) : It := (cmpR X m i).at_ 1
theorem may_1 (X : Nat → Rw) (m i : Nat) : mayI (it1 X m i) = true ∧ (it1 X m i).s.size ≤ 1 := by
  unfold it1 cmpR
  split
  · exact may_y _
  · exact ⟨by decide, by decide⟩
theorem len_2 (X : Nat → Rw) (m i : Nat) : (cmpR X m i).len = 2 := by unfold cmpR; split <;> rfl

end Go.Proofs.YtfgiocpgeainjaaDoor
