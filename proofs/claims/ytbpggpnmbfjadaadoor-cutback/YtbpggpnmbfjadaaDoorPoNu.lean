/-
  WHAT THE POET's number TELLS, plainly.
-/
import Derived.Test.YtbpggpnmbfjadaaDoorPoTx
set_option linter.unusedVariables false
namespace Go.Proofs.YtbpggpnmbfjadaaDoor
set_option maxRecDepth 100000
open Go.RowKit

theorem nu_dec {i : Nat} (hi : i < 20) : TextS ⟨(Lib.decDigits i).toArray⟩ 2 := by
  refine ⟨mid_dec hi, ?_, dec_len hi⟩
  show 0 < (Lib.decDigits i).length ∧ bk (bAt (Lib.decDigits i) 0) = false
  rw [dec_num hi]
  have : ∀ i : Fin 20, 0 < (numL.getD i []).length ∧ bk (bAt (numL.getD i []) 0) = false := by decide
  exact this ⟨i, hi⟩
theorem nu_count {s : ByteArray} {n : Nat} (h : TextS s n) : TextS (⟨#[99, 111, 117, 110, 116, 40]⟩ ++ s ++ ⟨#[41]⟩) (n + 7) := by
  have hm : Mid ([99, 111, 117, 110, 116, 40] ++ (s.data.toList ++ [41])) := (pc0.app (h.1.app beg1 pc1)).mid
  refine TextS.at hm (by rw [data_appQ, data_appQ]; simp) (by decide) ?_
  rw [ByteArray.size_append, ByteArray.size_append]
  have e1 : (⟨#[99, 111, 117, 110, 116, 40]⟩ : ByteArray).size = 6 := rfl
  have e2 : (⟨#[41]⟩ : ByteArray).size = 1 := rfl
  have := h.2.2
  omega
theorem nu_slen {s : ByteArray} {n : Nat} (h : TextS s n) : TextS (⟨#[115, 116, 114, 105, 110, 103, 45, 108, 101, 110, 103, 116, 104, 40]⟩ ++ s ++ ⟨#[41]⟩) (n + 15) := by
  have hm : Mid ([115, 116, 114, 105, 110, 103, 45, 108, 101, 110, 103, 116, 104, 40] ++ (s.data.toList ++ [41])) := (pc2.app (h.1.app beg1 pc1)).mid
  refine TextS.at hm (by rw [data_appQ, data_appQ]; simp) (by decide) ?_
  rw [ByteArray.size_append, ByteArray.size_append]
  have e1 : (⟨#[115, 116, 114, 105, 110, 103, 45, 108, 101, 110, 103, 116, 104, 40]⟩ : ByteArray).size = 14 := rfl
  have e2 : (⟨#[41]⟩ : ByteArray).size = 1 := rfl
  have := h.2.2
  omega
theorem nu_pos : TextS ⟨#[112, 111, 115, 105, 116, 105, 111, 110, 40, 41]⟩ 10 := TextS.at pc57.mid rfl (by decide) (by decide)
theorem nu_last : TextS ⟨#[108, 97, 115, 116, 40, 41]⟩ 10 := TextS.at pc58.mid rfl (by decide) (by decide)
theorem nu_m3 : TextS ⟨#[45, 51]⟩ 2 := TextS.at mid2 rfl (by decide) (by decide)
theorem nu_len {x : ByteArray} (h : Let x.data.toList) (hl : x.size ≤ 6) : TextS (⟨#[115, 116, 114, 105, 110, 103, 45, 108, 101, 110, 103, 116, 104, 40, 34]⟩ ++ x ++ ⟨#[34, 41]⟩) 40 := by
  have hm : Mid ([115, 116, 114, 105, 110, 103, 45, 108, 101, 110, 103, 116, 104, 40] ++ (34 :: x.data.toList ++ [34]) ++ [41]) := ((pc2.app (pc_quoted h (show x.size ≤ 100 by omega))).app pc1).mid
  refine TextS.at hm (by rw [data_appQ, data_appQ]; simp) (by decide) ?_
  rw [ByteArray.size_append, ByteArray.size_append]
  have e1 : (⟨#[115, 116, 114, 105, 110, 103, 45, 108, 101, 110, 103, 116, 104, 40, 34]⟩ : ByteArray).size = 15 := rfl
  have e2 : (⟨#[34, 41]⟩ : ByteArray).size = 2 := rfl
  omega
theorem nu_sum {i j : Nat} (hi : i < 20) (hj : j < 20) : TextS (⟨#[115, 117, 109, 40, 40]⟩ ++ ⟨(Lib.decDigits i).toArray⟩ ++ ⟨#[44, 32]⟩ ++ ⟨(Lib.decDigits j).toArray⟩ ++ ⟨#[41, 41]⟩) 40 := by
  have hm : Mid ([115, 117, 109, 40, 40] ++ (Lib.decDigits i ++ [44, 32]) ++ (Lib.decDigits j ++ [41, 41])) := ((pc4.app ((mid_dec hi).app beg5 pc5)).app ((mid_dec hj).app beg6 pc6)).mid
  refine TextS.at hm (by rw [data_appQ, data_appQ, data_appQ, data_appQ]; simp) (by decide) ?_
  rw [ByteArray.size_append, ByteArray.size_append, ByteArray.size_append, ByteArray.size_append]
  have e1 : (⟨#[115, 117, 109, 40, 40]⟩ : ByteArray).size = 5 := rfl
  have e2 : (⟨#[44, 32]⟩ : ByteArray).size = 2 := rfl
  have e3 : (⟨#[41, 41]⟩ : ByteArray).size = 2 := rfl
  have d1 := dec_len hi
  have d2 := dec_len hj
  omega
theorem nu_op0 {s u : ByteArray} {n : Nat} (h : TextS s n) (h' : TextS u n) : TextS (⟨#[40]⟩ ++ s ++ ⟨#[32, 43, 32]⟩ ++ u ++ ⟨#[41]⟩) (n + n + 7) := by
  have hm : Mid ([40] ++ (s.data.toList ++ [32, 43, 32]) ++ (u.data.toList ++ [41])) := ((pc3.app (h.1.app beg47 pc47)).app (h'.1.app beg1 pc1)).mid
  refine TextS.at hm (by rw [data_appQ, data_appQ, data_appQ, data_appQ]; simp) (by decide) ?_
  rw [ByteArray.size_append, ByteArray.size_append, ByteArray.size_append, ByteArray.size_append]
  have e1 : (⟨#[40]⟩ : ByteArray).size = 1 := rfl
  have e2 : (⟨#[32, 43, 32]⟩ : ByteArray).size = 3 := rfl
  have e3 : (⟨#[41]⟩ : ByteArray).size = 1 := rfl
  have d1 := h.2.2
  have d2 := h'.2.2
  omega
theorem nu_op1 {s u : ByteArray} {n : Nat} (h : TextS s n) (h' : TextS u n) : TextS (⟨#[40]⟩ ++ s ++ ⟨#[32, 45, 32]⟩ ++ u ++ ⟨#[41]⟩) (n + n + 7) := by
  have hm : Mid ([40] ++ (s.data.toList ++ [32, 45, 32]) ++ (u.data.toList ++ [41])) := ((pc3.app (h.1.app beg48 pc48)).app (h'.1.app beg1 pc1)).mid
  refine TextS.at hm (by rw [data_appQ, data_appQ, data_appQ, data_appQ]; simp) (by decide) ?_
  rw [ByteArray.size_append, ByteArray.size_append, ByteArray.size_append, ByteArray.size_append]
  have e1 : (⟨#[40]⟩ : ByteArray).size = 1 := rfl
  have e2 : (⟨#[32, 45, 32]⟩ : ByteArray).size = 3 := rfl
  have e3 : (⟨#[41]⟩ : ByteArray).size = 1 := rfl
  have d1 := h.2.2
  have d2 := h'.2.2
  omega
theorem nu_op2 {s u : ByteArray} {n : Nat} (h : TextS s n) (h' : TextS u n) : TextS (⟨#[40]⟩ ++ s ++ ⟨#[32, 42, 32]⟩ ++ u ++ ⟨#[41]⟩) (n + n + 7) := by
  have hm : Mid ([40] ++ (s.data.toList ++ [32, 42, 32]) ++ (u.data.toList ++ [41])) := ((pc3.app (h.1.app beg49 pc49)).app (h'.1.app beg1 pc1)).mid
  refine TextS.at hm (by rw [data_appQ, data_appQ, data_appQ, data_appQ]; simp) (by decide) ?_
  rw [ByteArray.size_append, ByteArray.size_append, ByteArray.size_append, ByteArray.size_append]
  have e1 : (⟨#[40]⟩ : ByteArray).size = 1 := rfl
  have e2 : (⟨#[32, 42, 32]⟩ : ByteArray).size = 3 := rfl
  have e3 : (⟨#[41]⟩ : ByteArray).size = 1 := rfl
  have d1 := h.2.2
  have d2 := h'.2.2
  omega
theorem nu_op3 {s u : ByteArray} {n : Nat} (h : TextS s n) (h' : TextS u n) : TextS (⟨#[40]⟩ ++ s ++ ⟨#[32, 100, 105, 118, 32]⟩ ++ u ++ ⟨#[41]⟩) (n + n + 7) := by
  have hm : Mid ([40] ++ (s.data.toList ++ [32, 100, 105, 118, 32]) ++ (u.data.toList ++ [41])) := ((pc3.app (h.1.app beg50 pc50)).app (h'.1.app beg1 pc1)).mid
  refine TextS.at hm (by rw [data_appQ, data_appQ, data_appQ, data_appQ]; simp) (by decide) ?_
  rw [ByteArray.size_append, ByteArray.size_append, ByteArray.size_append, ByteArray.size_append]
  have e1 : (⟨#[40]⟩ : ByteArray).size = 1 := rfl
  have e2 : (⟨#[32, 100, 105, 118, 32]⟩ : ByteArray).size = 5 := rfl
  have e3 : (⟨#[41]⟩ : ByteArray).size = 1 := rfl
  have d1 := h.2.2
  have d2 := h'.2.2
  omega
theorem nu_op4 {s u : ByteArray} {n : Nat} (h : TextS s n) (h' : TextS u n) : TextS (⟨#[40]⟩ ++ s ++ ⟨#[32, 109, 111, 100, 32]⟩ ++ u ++ ⟨#[41]⟩) (n + n + 7) := by
  have hm : Mid ([40] ++ (s.data.toList ++ [32, 109, 111, 100, 32]) ++ (u.data.toList ++ [41])) := ((pc3.app (h.1.app beg51 pc51)).app (h'.1.app beg1 pc1)).mid
  refine TextS.at hm (by rw [data_appQ, data_appQ, data_appQ, data_appQ]; simp) (by decide) ?_
  rw [ByteArray.size_append, ByteArray.size_append, ByteArray.size_append, ByteArray.size_append]
  have e1 : (⟨#[40]⟩ : ByteArray).size = 1 := rfl
  have e2 : (⟨#[32, 109, 111, 100, 32]⟩ : ByteArray).size = 5 := rfl
  have e3 : (⟨#[41]⟩ : ByteArray).size = 1 := rfl
  have d1 := h.2.2
  have d2 := h'.2.2
  omega
theorem pos_cell (w : World) (i : Nat) (hi : i < 2) : ∃ z : ByteArray, TextS z 10 ∧ (w.alloc (.cells #[.string ⟨#[112, 111, 115, 105, 116, 105, 111, 110, 40, 41]⟩, .string ⟨#[108, 97, 115, 116, 40, 41]⟩] 9)).cell? ⟨w.heap.size, i, none⟩ = some (.string z) := by
  have e : i = 0 ∨ i = 1 := by omega
  rcases e with rfl | rfl
  · exact ⟨_, nu_pos, by simp⟩
  · exact ⟨_, nu_last, by simp⟩
/-- what the poet's nodes tells -/
def NodOk (d : Int) (n : Nat) : Prop := ∀ {w0 w : World} {pb : Nat} {dt : Bool}, PoS w0 w pb dt → Calls Tryd.prog 20 #[.pointer (some ⟨pb, 0, none⟩), .int .i64 d] w fun e w' => ∃ s, TextS s n ∧ e = .returned (.string s) ∧ GrowQ pb w w' ∧ PoS w0 w' pb dt
end Go.Proofs.YtbpggpnmbfjadaaDoor
