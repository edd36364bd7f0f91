/-
  TEXTS OF THE POET's, plainly, and the CONTRACT of its text.
-/
import Derived.Test.YtbpggpnmbfjadaaDoorPoPlain
import Derived.Test.YtbpggpnmbfjadaaDoorPoOk
import Derived.Lib.ItoaNum
set_option linter.unusedVariables false
namespace Go.Proofs.YtbpggpnmbfjadaaDoor
set_option maxRecDepth 100000
open Go.RowKit

/-- a text of the poet's: cut whole, no blank ahead, and short -/
def TextS (s : ByteArray) (n : Nat) : Prop := Mid s.data.toList ∧ (0 < s.size ∧ bk (bAt s.data.toList 0) = false) ∧ s.size ≤ n
theorem TextS.more {s : ByteArray} {n m : Nat} (h : TextS s n) (hn : n ≤ m) : TextS s m := ⟨h.1, h.2.1, Nat.le_trans h.2.2 hn⟩
theorem TextS.at {s : ByteArray} {n : Nat} {c : UInt8} {r : List UInt8} (hm : Mid (c :: r)) (e : s.data.toList = c :: r) (hb : bk (c.toNat : Int) = false) (hn : s.size ≤ n) : TextS s n := by
  refine ⟨by rw [e]; exact hm, ⟨?_, by rw [e, bAt_zero]; exact hb⟩, hn⟩
  have : s.data.toList.length = s.size := rfl
  rw [e] at this
  simp at this
  omega
theorem pl_let (t : ByteArray) (k : Nat) : Let (strOfNums (plN t k)).data.toList := by
  intro b hb
  rw [strOfNums_data] at hb
  obtain ⟨z, hz, rfl⟩ := List.mem_map.1 hb
  unfold plN at hz
  obtain ⟨i, _, rfl⟩ := List.mem_map.1 hz
  have h1 : 0 ≤ byteAt t i % 5 := Int.emod_nonneg _ (by omega)
  have h2 : byteAt t i % 5 < 5 := Int.emod_lt_of_pos _ (by omega)
  generalize byteAt t i % 5 = x at *
  rw [UInt8.toNat_ofNat', Nat.mod_eq_of_lt (by omega)]
  omega
theorem pl_size (t : ByteArray) (k : Nat) : (strOfNums (plN t k)).size = k := by rw [strOfNums_size]; simp [plN]
theorem dec_num {i : Nat} (hi : i < 20) : Lib.decDigits i = numL.getD i [] := by
  have h : i = 0 ∨ i = 1 ∨ i = 2 ∨ i = 3 ∨ i = 4 ∨ i = 5 ∨ i = 6 ∨ i = 7 ∨ i = 8 ∨ i = 9 ∨ i = 10 ∨ i = 11 ∨ i = 12 ∨ i = 13 ∨ i = 14 ∨ i = 15 ∨ i = 16 ∨ i = 17 ∨ i = 18 ∨ i = 19 := by omega
  have h1 : Lib.decDigits 1 = [49] := by rw [Lib.decDigits]; decide
  have h0 : Lib.decDigits 0 = [48] := by rw [Lib.decDigits]; decide
  by_cases h9 : i < 10
  · rw [Lib.decDigits, dif_pos h9]
    rcases h with rfl | rfl | rfl | rfl | rfl | rfl | rfl | rfl | rfl | rfl | rfl | rfl | rfl | rfl | rfl | rfl | rfl | rfl | rfl | rfl <;> first | rfl | (exact absurd h9 (by decide))
  · rw [Lib.decDigits, dif_neg h9]
    rcases h with rfl | rfl | rfl | rfl | rfl | rfl | rfl | rfl | rfl | rfl | rfl | rfl | rfl | rfl | rfl | rfl | rfl | rfl | rfl | rfl <;> first | (exact absurd (by decide) h9) | (rw [show Lib.decDigits _ = [49] from h1]; rfl)
theorem mid_dec {i : Nat} (hi : i < 20) : Mid (Lib.decDigits i) := by rw [dec_num hi]; exact mid_num hi
theorem dec_len {i : Nat} (hi : i < 20) : (⟨(Lib.decDigits i).toArray⟩ : ByteArray).size ≤ 2 := by
  show (Lib.decDigits i).length ≤ 2
  rw [dec_num hi]
  have : ∀ i : Fin 20, (numL.getD i []).length ≤ 2 := by decide
  exact this ⟨i, hi⟩
theorem tx_quoted {x : ByteArray} (h : Let x.data.toList) (hl : x.size ≤ 6) : TextS (⟨#[34]⟩ ++ x ++ ⟨#[34]⟩) 8 := by
  refine TextS.at (c := 34) (r := x.data.toList ++ [34]) (by rw [← List.cons_append]; exact (pc_quoted h (show x.size ≤ 100 by omega)).mid) (by rw [data_appQ, data_appQ]; rfl) (by decide) ?_
  rw [ByteArray.size_append, ByteArray.size_append]
  have e1 : (⟨#[34]⟩ : ByteArray).size = 1 := rfl
  omega
theorem tx_concat {x : ByteArray} (h : Let x.data.toList) (hl : x.size ≤ 6) : TextS (⟨#[99, 111, 110, 99, 97, 116, 40, 115, 116, 114, 105, 110, 103, 40, 47, 114, 41, 44, 32, 34]⟩ ++ x ++ ⟨#[34, 41]⟩) 40 := by
  have hm : Mid ([99, 111, 110, 99, 97, 116, 40, 115, 116, 114, 105, 110, 103, 40, 47, 114, 41, 44, 32] ++ (34 :: x.data.toList ++ [34]) ++ [41]) := ((pc7.app (pc_quoted h (show x.size ≤ 100 by omega))).app pc1).mid
  refine TextS.at hm (by rw [data_appQ, data_appQ]; simp) (by decide) ?_
  rw [ByteArray.size_append, ByteArray.size_append]
  have e1 : (⟨#[99, 111, 110, 99, 97, 116, 40, 115, 116, 114, 105, 110, 103, 40, 47, 114, 41, 44, 32, 34]⟩ : ByteArray).size = 20 := rfl
  have e2 : (⟨#[34, 41]⟩ : ByteArray).size = 2 := rfl
  omega
theorem tx_name : TextS ⟨#[110, 97, 109, 101, 40, 46, 41]⟩ 7 := TextS.at pc8.mid rfl (by decide) (by decide)
theorem tx_substr {x : ByteArray} {i j : Nat} (h : Let x.data.toList) (hl : x.size ≤ 6) (hi : i < 20) (hj : j < 20) : TextS (⟨#[115, 117, 98, 115, 116, 114, 105, 110, 103, 40, 34]⟩ ++ x ++ ⟨#[34, 44, 32]⟩ ++ ⟨(Lib.decDigits i).toArray⟩ ++ ⟨#[44, 32]⟩ ++ ⟨(Lib.decDigits j).toArray⟩ ++ ⟨#[41]⟩) 40 := by
  have hm : Mid ([115, 117, 98, 115, 116, 114, 105, 110, 103, 40] ++ (34 :: x.data.toList ++ [34]) ++ [44, 32] ++ (Lib.decDigits i ++ [44, 32]) ++ (Lib.decDigits j ++ [41])) := (((((pc9.app (pc_quoted h (show x.size ≤ 100 by omega))).app pc5).app ((mid_dec hi).app beg5 pc5)).app ((mid_dec hj).app beg1 pc1)).mid)
  refine TextS.at hm (by rw [data_appQ, data_appQ, data_appQ, data_appQ, data_appQ, data_appQ]; simp) (by decide) ?_
  rw [ByteArray.size_append, ByteArray.size_append, ByteArray.size_append, ByteArray.size_append, ByteArray.size_append, ByteArray.size_append]
  have e1 : (⟨#[115, 117, 98, 115, 116, 114, 105, 110, 103, 40, 34]⟩ : ByteArray).size = 11 := rfl
  have e2 : (⟨#[34, 44, 32]⟩ : ByteArray).size = 3 := rfl
  have e3 : (⟨#[44, 32]⟩ : ByteArray).size = 2 := rfl
  have e4 : (⟨#[41]⟩ : ByteArray).size = 1 := rfl
  have d1 := dec_len hi
  have d2 := dec_len hj
  omega
theorem tx_string {s : ByteArray} {n : Nat} (h : TextS s n) : TextS (⟨#[115, 116, 114, 105, 110, 103, 40]⟩ ++ s ++ ⟨#[41]⟩) (n + 8) := by
  have hm : Mid ([115, 116, 114, 105, 110, 103, 40] ++ (s.data.toList ++ [41])) := (pc10.app (h.1.app beg1 pc1)).mid
  refine TextS.at hm (by rw [data_appQ, data_appQ]; simp) (by decide) ?_
  rw [ByteArray.size_append, ByteArray.size_append]
  have e1 : (⟨#[115, 116, 114, 105, 110, 103, 40]⟩ : ByteArray).size = 7 := rfl
  have e2 : (⟨#[41]⟩ : ByteArray).size = 1 := rfl
  have := h.2.2
  omega
/-- what the poet's number tells -/
def NumOk (d : Int) (n : Nat) : Prop := ∀ {w0 w : World} {pb : Nat} {dt : Bool}, PoS w0 w pb dt → Calls Tryd.prog 21 #[.pointer (some ⟨pb, 0, none⟩), .int .i64 d] w fun e w' => ∃ s, TextS s n ∧ e = .returned (.string s) ∧ GrowQ pb w w' ∧ PoS w0 w' pb dt
/-- what the poet's text tells -/
def TextOk (d : Int) (n : Nat) : Prop := ∀ {w0 w : World} {pb : Nat} {dt : Bool}, PoS w0 w pb dt → Calls Tryd.prog 22 #[.pointer (some ⟨pb, 0, none⟩), .int .i64 d] w fun e w' => ∃ s, TextS s n ∧ e = .returned (.string s) ∧ GrowQ pb w w' ∧ PoS w0 w' pb dt
end Go.Proofs.YtbpggpnmbfjadaaDoor
