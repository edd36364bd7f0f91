/-
  WHAT THE POET's nodes, truth AND query TELL, plainly.
-/
import Derived.Test.YtbpggpnmbfjadaaDoorPoNu
import Derived.Test.YtbpggpnmbfjadaaDoorPoBack
set_option linter.unusedVariables false
namespace Go.Proofs.YtbpggpnmbfjadaaDoor
set_option maxRecDepth 100000
open Go.RowKit

/-- a text that begins with one of the poet's -/
theorem TextS.onto {s t : ByteArray} {n m : Nat} {R : List UInt8} (h : TextS s n) (hm : Mid (s.data.toList ++ R)) (e : t.data.toList = s.data.toList ++ R) (hn : t.size ≤ m) : TextS t m := by
  refine ⟨by rw [e]; exact hm, ⟨?_, by rw [e, bAt_app _ _ 0 h.2.1.1]; exact h.2.1.2⟩, hn⟩
  have h1 : t.data.toList.length = t.size := rfl
  have h2 : s.data.toList.length = s.size := rfl
  have h3 := h.2.1.1
  rw [e, List.length_append] at h1
  omega
theorem tr_eq {s : ByteArray} {u : ByteArray} {n : Nat} (hs : TextS s n) (hu : TextS u n) : TextS (s ++ ⟨#[32, 61, 32]⟩ ++ u) (n + n + 3) := by
  have hm : Mid ((s.data.toList ++ [32, 61, 32]) ++ u.data.toList) := (hs.1.app beg14 pc14).on hu.1
  rw [List.append_assoc] at hm
  refine TextS.onto (s := s) hs hm (by rw [data_appQ, data_appQ, List.append_assoc]) ?_
  rw [ByteArray.size_append, ByteArray.size_append]
  have e0 : (⟨#[32, 61, 32]⟩ : ByteArray).size = 3 := rfl
  have ks := hs.2.2
  have ku := hu.2.2
  omega
theorem tr_op0 {s : ByteArray} {u : ByteArray} {n : Nat} (hs : TextS s n) (hu : TextS u n) : TextS (s ++ ⟨#[32, 60, 32]⟩ ++ u) (n + n + 3) := by
  have hm : Mid ((s.data.toList ++ [32, 60, 32]) ++ u.data.toList) := (hs.1.app beg52 pc52).on hu.1
  rw [List.append_assoc] at hm
  refine TextS.onto (s := s) hs hm (by rw [data_appQ, data_appQ, List.append_assoc]) ?_
  rw [ByteArray.size_append, ByteArray.size_append]
  have e0 : (⟨#[32, 60, 32]⟩ : ByteArray).size = 3 := rfl
  have ks := hs.2.2
  have ku := hu.2.2
  omega
theorem tr_op1 {s : ByteArray} {u : ByteArray} {n : Nat} (hs : TextS s n) (hu : TextS u n) : TextS (s ++ ⟨#[32, 60, 61, 32]⟩ ++ u) (n + n + 4) := by
  have hm : Mid ((s.data.toList ++ [32, 60, 61, 32]) ++ u.data.toList) := (hs.1.app beg53 pc53).on hu.1
  rw [List.append_assoc] at hm
  refine TextS.onto (s := s) hs hm (by rw [data_appQ, data_appQ, List.append_assoc]) ?_
  rw [ByteArray.size_append, ByteArray.size_append]
  have e0 : (⟨#[32, 60, 61, 32]⟩ : ByteArray).size = 4 := rfl
  have ks := hs.2.2
  have ku := hu.2.2
  omega
theorem tr_op2 {s : ByteArray} {u : ByteArray} {n : Nat} (hs : TextS s n) (hu : TextS u n) : TextS (s ++ ⟨#[32, 62, 32]⟩ ++ u) (n + n + 3) := by
  have hm : Mid ((s.data.toList ++ [32, 62, 32]) ++ u.data.toList) := (hs.1.app beg54 pc54).on hu.1
  rw [List.append_assoc] at hm
  refine TextS.onto (s := s) hs hm (by rw [data_appQ, data_appQ, List.append_assoc]) ?_
  rw [ByteArray.size_append, ByteArray.size_append]
  have e0 : (⟨#[32, 62, 32]⟩ : ByteArray).size = 3 := rfl
  have ks := hs.2.2
  have ku := hu.2.2
  omega
theorem tr_op3 {s : ByteArray} {u : ByteArray} {n : Nat} (hs : TextS s n) (hu : TextS u n) : TextS (s ++ ⟨#[32, 62, 61, 32]⟩ ++ u) (n + n + 4) := by
  have hm : Mid ((s.data.toList ++ [32, 62, 61, 32]) ++ u.data.toList) := (hs.1.app beg55 pc55).on hu.1
  rw [List.append_assoc] at hm
  refine TextS.onto (s := s) hs hm (by rw [data_appQ, data_appQ, List.append_assoc]) ?_
  rw [ByteArray.size_append, ByteArray.size_append]
  have e0 : (⟨#[32, 62, 61, 32]⟩ : ByteArray).size = 4 := rfl
  have ks := hs.2.2
  have ku := hu.2.2
  omega
theorem tr_op4 {s : ByteArray} {u : ByteArray} {n : Nat} (hs : TextS s n) (hu : TextS u n) : TextS (s ++ ⟨#[32, 33, 61, 32]⟩ ++ u) (n + n + 4) := by
  have hm : Mid ((s.data.toList ++ [32, 33, 61, 32]) ++ u.data.toList) := (hs.1.app beg56 pc56).on hu.1
  rw [List.append_assoc] at hm
  refine TextS.onto (s := s) hs hm (by rw [data_appQ, data_appQ, List.append_assoc]) ?_
  rw [ByteArray.size_append, ByteArray.size_append]
  have e0 : (⟨#[32, 33, 61, 32]⟩ : ByteArray).size = 4 := rfl
  have ks := hs.2.2
  have ku := hu.2.2
  omega
theorem tr_empty {s : ByteArray} {n : Nat} (hs : TextS s n) : TextS (⟨#[101, 109, 112, 116, 121, 40]⟩ ++ s ++ ⟨#[41]⟩) (n + 7) := by
  have hm : Mid ([101, 109, 112, 116, 121, 40] ++ (s.data.toList ++ [41])) := (pc15.app (hs.1.app beg1 pc1)).mid
  refine TextS.at hm (by rw [data_appQ, data_appQ]; simp) (by decide) ?_
  rw [ByteArray.size_append, ByteArray.size_append]
  have e0 : (⟨#[41]⟩ : ByteArray).size = 1 := rfl
  have e1 : (⟨#[101, 109, 112, 116, 121, 40]⟩ : ByteArray).size = 6 := rfl
  have ks := hs.2.2
  omega
theorem tr_not {s : ByteArray} {u : ByteArray} {n : Nat} (hs : TextS s n) (hu : TextS u n) : TextS (⟨#[110, 111, 116, 40]⟩ ++ s ++ ⟨#[41, 32, 97, 110, 100, 32]⟩ ++ u) (n + n + 10) := by
  have hm : Mid ([110, 111, 116, 40] ++ (s.data.toList ++ [41, 32, 97, 110, 100, 32]) ++ u.data.toList) := (pc16.app (hs.1.app beg17 pc17)).on hu.1
  refine TextS.at hm (by rw [data_appQ, data_appQ, data_appQ]; simp) (by decide) ?_
  rw [ByteArray.size_append, ByteArray.size_append, ByteArray.size_append]
  have e0 : (⟨#[41, 32, 97, 110, 100, 32]⟩ : ByteArray).size = 6 := rfl
  have e1 : (⟨#[110, 111, 116, 40]⟩ : ByteArray).size = 4 := rfl
  have ks := hs.2.2
  have ku := hu.2.2
  omega
theorem tr_some {s : ByteArray} {i : Nat} {n : Nat} (hs : TextS s n) (hi : i < 20) : TextS (⟨#[40, 115, 111, 109, 101, 32, 36, 113, 32, 105, 110, 32]⟩ ++ s ++ ⟨#[32, 115, 97, 116, 105, 115, 102, 105, 101, 115, 32, 36, 113, 32, 61, 32]⟩ ++ ⟨(Lib.decDigits i).toArray⟩ ++ ⟨#[41]⟩) (n + 31) := by
  have hm : Mid ([40, 115, 111, 109, 101, 32, 36, 113, 32, 105, 110, 32] ++ (s.data.toList ++ [32, 115, 97, 116, 105, 115, 102, 105, 101, 115, 32, 36, 113, 32, 61, 32]) ++ (Lib.decDigits i ++ [41])) := ((pc18.app (hs.1.app beg19 pc19)).app ((mid_dec hi).app beg1 pc1)).mid
  refine TextS.at hm (by rw [data_appQ, data_appQ, data_appQ, data_appQ]; simp) (by decide) ?_
  rw [ByteArray.size_append, ByteArray.size_append, ByteArray.size_append, ByteArray.size_append]
  have e0 : (⟨#[32, 115, 97, 116, 105, 115, 102, 105, 101, 115, 32, 36, 113, 32, 61, 32]⟩ : ByteArray).size = 16 := rfl
  have e1 : (⟨#[40, 115, 111, 109, 101, 32, 36, 113, 32, 105, 110, 32]⟩ : ByteArray).size = 12 := rfl
  have e2 : (⟨#[41]⟩ : ByteArray).size = 1 := rfl
  have ks := hs.2.2
  have ki := dec_len hi
  omega
theorem tr_cont {s : ByteArray} {u : ByteArray} {x : ByteArray} {n : Nat} (hs : TextS s n) (hu : TextS u n) (hx : Let x.data.toList) (lx : x.size ≤ 6) : TextS (⟨#[99, 111, 110, 116, 97, 105, 110, 115, 40]⟩ ++ s ++ ⟨#[44, 32, 34]⟩ ++ x ++ ⟨#[34, 41, 32, 111, 114, 32]⟩ ++ u) (n + n + 24) := by
  have hm : Mid ([99, 111, 110, 116, 97, 105, 110, 115, 40] ++ (s.data.toList ++ [44, 32]) ++ (34 :: x.data.toList ++ [34]) ++ [41, 32, 111, 114, 32] ++ u.data.toList) := (((pc20.app (hs.1.app beg5 pc5)).app (pc_quoted hx (show x.size ≤ 100 by omega))).app pc21).on hu.1
  refine TextS.at hm (by rw [data_appQ, data_appQ, data_appQ, data_appQ, data_appQ]; simp) (by decide) ?_
  rw [ByteArray.size_append, ByteArray.size_append, ByteArray.size_append, ByteArray.size_append, ByteArray.size_append]
  have e0 : (⟨#[34, 41, 32, 111, 114, 32]⟩ : ByteArray).size = 6 := rfl
  have e1 : (⟨#[44, 32, 34]⟩ : ByteArray).size = 3 := rfl
  have e2 : (⟨#[99, 111, 110, 116, 97, 105, 110, 115, 40]⟩ : ByteArray).size = 9 := rfl
  have ks := hs.2.2
  have ku := hu.2.2
  omega
theorem tr_every {s : ByteArray} {n : Nat} (hs : TextS s n) : TextS (⟨#[40, 101, 118, 101, 114, 121, 32, 36, 113, 32, 105, 110, 32]⟩ ++ s ++ ⟨#[32, 115, 97, 116, 105, 115, 102, 105, 101, 115, 32, 101, 120, 105, 115, 116, 115, 40, 36, 113, 47, 46, 46, 41, 41]⟩) (n + 38) := by
  have hm : Mid ([40, 101, 118, 101, 114, 121, 32, 36, 113, 32, 105, 110, 32] ++ (s.data.toList ++ [32, 115, 97, 116, 105, 115, 102, 105, 101, 115, 32, 101, 120, 105, 115, 116, 115, 40, 36, 113, 47, 46, 46, 41, 41])) := (pc22.app (hs.1.app beg23 pc23)).mid
  refine TextS.at hm (by rw [data_appQ, data_appQ]; simp) (by decide) ?_
  rw [ByteArray.size_append, ByteArray.size_append]
  have e0 : (⟨#[32, 115, 97, 116, 105, 115, 102, 105, 101, 115, 32, 101, 120, 105, 115, 116, 115, 40, 36, 113, 47, 46, 46, 41, 41]⟩ : ByteArray).size = 25 := rfl
  have e1 : (⟨#[40, 101, 118, 101, 114, 121, 32, 36, 113, 32, 105, 110, 32]⟩ : ByteArray).size = 13 := rfl
  have ks := hs.2.2
  omega
theorem qu_seq {s : ByteArray} {u : ByteArray} {n : Nat} (hs : TextS s n) (hu : TextS u n) : TextS (⟨#[40]⟩ ++ s ++ ⟨#[44, 32]⟩ ++ u ++ ⟨#[41]⟩) (n + n + 4) := by
  have hm : Mid ([40] ++ (s.data.toList ++ [44, 32]) ++ (u.data.toList ++ [41])) := ((pc3.app (hs.1.app beg5 pc5)).app (hu.1.app beg1 pc1)).mid
  refine TextS.at hm (by rw [data_appQ, data_appQ, data_appQ, data_appQ]; simp) (by decide) ?_
  rw [ByteArray.size_append, ByteArray.size_append, ByteArray.size_append, ByteArray.size_append]
  have e0 : (⟨#[40]⟩ : ByteArray).size = 1 := rfl
  have e1 : (⟨#[41]⟩ : ByteArray).size = 1 := rfl
  have e2 : (⟨#[44, 32]⟩ : ByteArray).size = 2 := rfl
  have ks := hs.2.2
  have ku := hu.2.2
  omega
theorem qu_if {s : ByteArray} {u : ByteArray} {y : ByteArray} {n : Nat} (hs : TextS s n) (hu : TextS u n) (hy : TextS y n) : TextS (⟨#[40, 105, 102, 32, 40]⟩ ++ s ++ ⟨#[41, 32, 116, 104, 101, 110, 32]⟩ ++ u ++ ⟨#[32, 101, 108, 115, 101, 32]⟩ ++ y ++ ⟨#[41]⟩) (n + n + n + 19) := by
  have hm : Mid ([40, 105, 102, 32, 40] ++ (s.data.toList ++ [41, 32, 116, 104, 101, 110, 32]) ++ (u.data.toList ++ [32, 101, 108, 115, 101, 32]) ++ (y.data.toList ++ [41])) := (((pc26.app (hs.1.app beg27 pc27)).app (hu.1.app beg28 pc28)).app (hy.1.app beg1 pc1)).mid
  refine TextS.at hm (by rw [data_appQ, data_appQ, data_appQ, data_appQ, data_appQ, data_appQ]; simp) (by decide) ?_
  rw [ByteArray.size_append, ByteArray.size_append, ByteArray.size_append, ByteArray.size_append, ByteArray.size_append, ByteArray.size_append]
  have e0 : (⟨#[32, 101, 108, 115, 101, 32]⟩ : ByteArray).size = 6 := rfl
  have e1 : (⟨#[40, 105, 102, 32, 40]⟩ : ByteArray).size = 5 := rfl
  have e2 : (⟨#[41]⟩ : ByteArray).size = 1 := rfl
  have e3 : (⟨#[41, 32, 116, 104, 101, 110, 32]⟩ : ByteArray).size = 7 := rfl
  have ks := hs.2.2
  have ku := hu.2.2
  have ky := hy.2.2
  omega
theorem qu_for {s : ByteArray} {u : ByteArray} {n : Nat} (hs : TextS s n) (hu : TextS u n) : TextS (⟨#[40, 102, 111, 114, 32, 36, 118, 32, 105, 110, 32]⟩ ++ s ++ ⟨#[32, 114, 101, 116, 117, 114, 110, 32, 40, 36, 118, 44, 32]⟩ ++ u ++ ⟨#[41, 41]⟩) (n + n + 26) := by
  have hm : Mid ([40, 102, 111, 114, 32, 36, 118, 32, 105, 110, 32] ++ (s.data.toList ++ [32, 114, 101, 116, 117, 114, 110, 32, 40, 36, 118, 44, 32]) ++ (u.data.toList ++ [41, 41])) := ((pc29.app (hs.1.app beg30 pc30)).app (hu.1.app beg6 pc6)).mid
  refine TextS.at hm (by rw [data_appQ, data_appQ, data_appQ, data_appQ]; simp) (by decide) ?_
  rw [ByteArray.size_append, ByteArray.size_append, ByteArray.size_append, ByteArray.size_append]
  have e0 : (⟨#[32, 114, 101, 116, 117, 114, 110, 32, 40, 36, 118, 44, 32]⟩ : ByteArray).size = 13 := rfl
  have e1 : (⟨#[40, 102, 111, 114, 32, 36, 118, 32, 105, 110, 32]⟩ : ByteArray).size = 11 := rfl
  have e2 : (⟨#[41, 41]⟩ : ByteArray).size = 2 := rfl
  have ks := hs.2.2
  have ku := hu.2.2
  omega
theorem qu_let {s : ByteArray} {n : Nat} (hs : TextS s n) : TextS (⟨#[40, 108, 101, 116, 32, 36, 119, 32, 58, 61, 32]⟩ ++ s ++ ⟨#[32, 114, 101, 116, 117, 114, 110, 32, 40, 99, 111, 117, 110, 116, 40, 36, 119, 41, 44, 32, 36, 119, 41, 41]⟩) (n + 35) := by
  have hm : Mid ([40, 108, 101, 116, 32, 36, 119, 32, 58, 61, 32] ++ (s.data.toList ++ [32, 114, 101, 116, 117, 114, 110, 32, 40, 99, 111, 117, 110, 116, 40, 36, 119, 41, 44, 32, 36, 119, 41, 41])) := (pc34.app (hs.1.app beg35 pc35)).mid
  refine TextS.at hm (by rw [data_appQ, data_appQ]; simp) (by decide) ?_
  rw [ByteArray.size_append, ByteArray.size_append]
  have e0 : (⟨#[32, 114, 101, 116, 117, 114, 110, 32, 40, 99, 111, 117, 110, 116, 40, 36, 119, 41, 44, 32, 36, 119, 41, 41]⟩ : ByteArray).size = 24 := rfl
  have e1 : (⟨#[40, 108, 101, 116, 32, 36, 119, 32, 58, 61, 32]⟩ : ByteArray).size = 11 := rfl
  have ks := hs.2.2
  omega
theorem qu_elem {s : ByteArray} {u : ByteArray} {n : Nat} (hs : TextS s n) (hu : TextS u n) : TextS (⟨#[101, 108, 101, 109, 101, 110, 116, 32, 101, 32, 123, 32, 97, 116, 116, 114, 105, 98, 117, 116, 101, 32, 107, 32, 123, 32]⟩ ++ s ++ ⟨#[32, 125, 44, 32]⟩ ++ u ++ ⟨#[32, 125]⟩) (n + n + 32) := by
  have hm : Mid ([101, 108, 101, 109, 101, 110, 116, 32, 101, 32, 123, 32, 97, 116, 116, 114, 105, 98, 117, 116, 101, 32, 107, 32, 123, 32] ++ (s.data.toList ++ [32, 125, 44, 32]) ++ (u.data.toList ++ [32, 125])) := ((pc36.app (hs.1.app beg37 pc37)).app (hu.1.app beg38 pc38)).mid
  refine TextS.at hm (by rw [data_appQ, data_appQ, data_appQ, data_appQ]; simp) (by decide) ?_
  rw [ByteArray.size_append, ByteArray.size_append, ByteArray.size_append, ByteArray.size_append]
  have e0 : (⟨#[32, 125]⟩ : ByteArray).size = 2 := rfl
  have e1 : (⟨#[32, 125, 44, 32]⟩ : ByteArray).size = 4 := rfl
  have e2 : (⟨#[101, 108, 101, 109, 101, 110, 116, 32, 101, 32, 123, 32, 97, 116, 116, 114, 105, 98, 117, 116, 101, 32, 107, 32, 123, 32]⟩ : ByteArray).size = 26 := rfl
  have ks := hs.2.2
  have ku := hu.2.2
  omega
theorem qu_text {s : ByteArray} {n : Nat} (hs : TextS s n) : TextS (⟨#[116, 101, 120, 116, 32, 123, 32]⟩ ++ s ++ ⟨#[32, 125, 47, 46, 46]⟩) (n + 12) := by
  have hm : Mid ([116, 101, 120, 116, 32, 123, 32] ++ (s.data.toList ++ [32, 125, 47, 46, 46])) := (pc43.app (hs.1.app beg44 pc44)).mid
  refine TextS.at hm (by rw [data_appQ, data_appQ]; simp) (by decide) ?_
  rw [ByteArray.size_append, ByteArray.size_append]
  have e0 : (⟨#[32, 125, 47, 46, 46]⟩ : ByteArray).size = 5 := rfl
  have e1 : (⟨#[116, 101, 120, 116, 32, 123, 32]⟩ : ByteArray).size = 7 := rfl
  have ks := hs.2.2
  omega
theorem qu_fn0 {s : ByteArray} {i : Nat} {n : Nat} (hs : TextS s n) (hi : i < 20) : TextS (⟨#[114, 101, 118, 101, 114, 115, 101]⟩ ++ ⟨#[40, 40]⟩ ++ s ++ ⟨#[44, 32, 49, 32, 116, 111, 32]⟩ ++ ⟨(Lib.decDigits i).toArray⟩ ++ ⟨#[41, 41]⟩) (n + 20) := by
  have hm : Mid ([114, 101, 118, 101, 114, 115, 101, 40, 40] ++ (s.data.toList ++ [44, 32, 49, 32, 116, 111, 32]) ++ (Lib.decDigits i ++ [41, 41])) := ((pc39.app (hs.1.app beg42 pc42)).app ((mid_dec hi).app beg6 pc6)).mid
  refine TextS.at hm (by rw [data_appQ, data_appQ, data_appQ, data_appQ, data_appQ]; simp) (by decide) ?_
  rw [ByteArray.size_append, ByteArray.size_append, ByteArray.size_append, ByteArray.size_append, ByteArray.size_append]
  have e0 : (⟨#[40, 40]⟩ : ByteArray).size = 2 := rfl
  have e1 : (⟨#[41, 41]⟩ : ByteArray).size = 2 := rfl
  have e2 : (⟨#[44, 32, 49, 32, 116, 111, 32]⟩ : ByteArray).size = 7 := rfl
  have e3 : (⟨#[114, 101, 118, 101, 114, 115, 101]⟩ : ByteArray).size = 7 := rfl
  have ks := hs.2.2
  have ki := dec_len hi
  omega
theorem qu_fn1 {s : ByteArray} {i : Nat} {n : Nat} (hs : TextS s n) (hi : i < 20) : TextS (⟨#[100, 105, 115, 116, 105, 110, 99, 116, 45, 118, 97, 108, 117, 101, 115]⟩ ++ ⟨#[40, 40]⟩ ++ s ++ ⟨#[44, 32, 49, 32, 116, 111, 32]⟩ ++ ⟨(Lib.decDigits i).toArray⟩ ++ ⟨#[41, 41]⟩) (n + 28) := by
  have hm : Mid ([100, 105, 115, 116, 105, 110, 99, 116, 45, 118, 97, 108, 117, 101, 115, 40, 40] ++ (s.data.toList ++ [44, 32, 49, 32, 116, 111, 32]) ++ (Lib.decDigits i ++ [41, 41])) := ((pc40.app (hs.1.app beg42 pc42)).app ((mid_dec hi).app beg6 pc6)).mid
  refine TextS.at hm (by rw [data_appQ, data_appQ, data_appQ, data_appQ, data_appQ]; simp) (by decide) ?_
  rw [ByteArray.size_append, ByteArray.size_append, ByteArray.size_append, ByteArray.size_append, ByteArray.size_append]
  have e0 : (⟨#[40, 40]⟩ : ByteArray).size = 2 := rfl
  have e1 : (⟨#[41, 41]⟩ : ByteArray).size = 2 := rfl
  have e2 : (⟨#[44, 32, 49, 32, 116, 111, 32]⟩ : ByteArray).size = 7 := rfl
  have e3 : (⟨#[100, 105, 115, 116, 105, 110, 99, 116, 45, 118, 97, 108, 117, 101, 115]⟩ : ByteArray).size = 15 := rfl
  have ks := hs.2.2
  have ki := dec_len hi
  omega
theorem qu_fn2 {s : ByteArray} {i : Nat} {n : Nat} (hs : TextS s n) (hi : i < 20) : TextS (⟨#[100, 97, 116, 97]⟩ ++ ⟨#[40, 40]⟩ ++ s ++ ⟨#[44, 32, 49, 32, 116, 111, 32]⟩ ++ ⟨(Lib.decDigits i).toArray⟩ ++ ⟨#[41, 41]⟩) (n + 17) := by
  have hm : Mid ([100, 97, 116, 97, 40, 40] ++ (s.data.toList ++ [44, 32, 49, 32, 116, 111, 32]) ++ (Lib.decDigits i ++ [41, 41])) := ((pc41.app (hs.1.app beg42 pc42)).app ((mid_dec hi).app beg6 pc6)).mid
  refine TextS.at hm (by rw [data_appQ, data_appQ, data_appQ, data_appQ, data_appQ]; simp) (by decide) ?_
  rw [ByteArray.size_append, ByteArray.size_append, ByteArray.size_append, ByteArray.size_append, ByteArray.size_append]
  have e0 : (⟨#[40, 40]⟩ : ByteArray).size = 2 := rfl
  have e1 : (⟨#[41, 41]⟩ : ByteArray).size = 2 := rfl
  have e2 : (⟨#[44, 32, 49, 32, 116, 111, 32]⟩ : ByteArray).size = 7 := rfl
  have e3 : (⟨#[100, 97, 116, 97]⟩ : ByteArray).size = 4 := rfl
  have ks := hs.2.2
  have ki := dec_len hi
  omega
theorem qu_ord0 {s : ByteArray} {n : Nat} (hs : TextS s n) : TextS (⟨#[40, 102, 111, 114, 32, 36, 118, 32, 97, 116, 32, 36, 105, 32, 105, 110, 32]⟩ ++ s ++ ⟨#[32, 119, 104, 101, 114, 101, 32, 36, 105, 32, 60, 32, 51, 32, 111, 114, 100, 101, 114, 32, 98, 121, 32, 36, 105]⟩ ++ ⟨#[]⟩ ++ ⟨#[32, 114, 101, 116, 117, 114, 110, 32, 40, 36, 105, 44, 32, 36, 118, 41, 41]⟩) (n + 59) := by
  have hm : Mid ([40, 102, 111, 114, 32, 36, 118, 32, 97, 116, 32, 36, 105, 32, 105, 110, 32] ++ (s.data.toList ++ [32, 119, 104, 101, 114, 101, 32, 36, 105, 32, 60, 32, 51, 32, 111, 114, 100, 101, 114, 32, 98, 121, 32, 36, 105, 32, 114, 101, 116, 117, 114, 110, 32, 40, 36, 105, 44, 32, 36, 118, 41, 41])) := (pc31.app (hs.1.app beg32 pc32)).mid
  refine TextS.at hm (by rw [data_appQ, data_appQ, data_appQ, data_appQ]; simp) (by decide) ?_
  rw [ByteArray.size_append, ByteArray.size_append, ByteArray.size_append, ByteArray.size_append]
  have e0 : (⟨#[]⟩ : ByteArray).size = 0 := rfl
  have e1 : (⟨#[32, 114, 101, 116, 117, 114, 110, 32, 40, 36, 105, 44, 32, 36, 118, 41, 41]⟩ : ByteArray).size = 17 := rfl
  have e2 : (⟨#[32, 119, 104, 101, 114, 101, 32, 36, 105, 32, 60, 32, 51, 32, 111, 114, 100, 101, 114, 32, 98, 121, 32, 36, 105]⟩ : ByteArray).size = 25 := rfl
  have e3 : (⟨#[40, 102, 111, 114, 32, 36, 118, 32, 97, 116, 32, 36, 105, 32, 105, 110, 32]⟩ : ByteArray).size = 17 := rfl
  have ks := hs.2.2
  omega
theorem qu_ord1 {s : ByteArray} {n : Nat} (hs : TextS s n) : TextS (⟨#[40, 102, 111, 114, 32, 36, 118, 32, 97, 116, 32, 36, 105, 32, 105, 110, 32]⟩ ++ s ++ ⟨#[32, 119, 104, 101, 114, 101, 32, 36, 105, 32, 60, 32, 51, 32, 111, 114, 100, 101, 114, 32, 98, 121, 32, 36, 105]⟩ ++ ⟨#[32, 100, 101, 115, 99, 101, 110, 100, 105, 110, 103]⟩ ++ ⟨#[32, 114, 101, 116, 117, 114, 110, 32, 40, 36, 105, 44, 32, 36, 118, 41, 41]⟩) (n + 70) := by
  have hm : Mid ([40, 102, 111, 114, 32, 36, 118, 32, 97, 116, 32, 36, 105, 32, 105, 110, 32] ++ (s.data.toList ++ [32, 119, 104, 101, 114, 101, 32, 36, 105, 32, 60, 32, 51, 32, 111, 114, 100, 101, 114, 32, 98, 121, 32, 36, 105, 32, 100, 101, 115, 99, 101, 110, 100, 105, 110, 103, 32, 114, 101, 116, 117, 114, 110, 32, 40, 36, 105, 44, 32, 36, 118, 41, 41])) := (pc31.app (hs.1.app beg33 pc33)).mid
  refine TextS.at hm (by rw [data_appQ, data_appQ, data_appQ, data_appQ]; simp) (by decide) ?_
  rw [ByteArray.size_append, ByteArray.size_append, ByteArray.size_append, ByteArray.size_append]
  have e0 : (⟨#[32, 100, 101, 115, 99, 101, 110, 100, 105, 110, 103]⟩ : ByteArray).size = 11 := rfl
  have e1 : (⟨#[32, 114, 101, 116, 117, 114, 110, 32, 40, 36, 105, 44, 32, 36, 118, 41, 41]⟩ : ByteArray).size = 17 := rfl
  have e2 : (⟨#[32, 119, 104, 101, 114, 101, 32, 36, 105, 32, 60, 32, 51, 32, 111, 114, 100, 101, 114, 32, 98, 121, 32, 36, 105]⟩ : ByteArray).size = 25 := rfl
  have e3 : (⟨#[40, 102, 111, 114, 32, 36, 118, 32, 97, 116, 32, 36, 105, 32, 105, 110, 32]⟩ : ByteArray).size = 17 := rfl
  have ks := hs.2.2
  omega
theorem no_filter {s : ByteArray} {u : ByteArray} {n : Nat} (hs : TextS s n) (hu : TextS u n) : TextS (⟨#[40]⟩ ++ s ++ ⟨#[41, 91]⟩ ++ u ++ ⟨#[93]⟩) (n + n + 4) := by
  have hm : Mid ([40] ++ (s.data.toList ++ [41, 91]) ++ (u.data.toList ++ [93])) := ((pc3.app (hs.1.app beg45 pc45)).app (hu.1.app beg46 pc46)).mid
  refine TextS.at hm (by rw [data_appQ, data_appQ, data_appQ, data_appQ]; simp) (by decide) ?_
  rw [ByteArray.size_append, ByteArray.size_append, ByteArray.size_append, ByteArray.size_append]
  have e0 : (⟨#[40]⟩ : ByteArray).size = 1 := rfl
  have e1 : (⟨#[41, 91]⟩ : ByteArray).size = 2 := rfl
  have e2 : (⟨#[93]⟩ : ByteArray).size = 1 := rfl
  have ks := hs.2.2
  have ku := hu.2.2
  omega
theorem no_op0 {s : ByteArray} {n : Nat} (hs : TextS s n) : TextS (⟨#[40]⟩ ++ s ++ ⟨#[32, 117, 110, 105, 111, 110, 32]⟩ ++ ⟨#[47, 47, 42, 41]⟩) (n + 12) := by
  have hm : Mid ([40] ++ (s.data.toList ++ [32, 117, 110, 105, 111, 110, 32, 47, 47, 42, 41])) := (pc3.app (hs.1.app beg59 pc59)).mid
  refine TextS.at hm (by rw [data_appQ, data_appQ, data_appQ]; simp) (by decide) ?_
  rw [ByteArray.size_append, ByteArray.size_append, ByteArray.size_append]
  have e0 : (⟨#[32, 117, 110, 105, 111, 110, 32]⟩ : ByteArray).size = 7 := rfl
  have e1 : (⟨#[40]⟩ : ByteArray).size = 1 := rfl
  have e2 : (⟨#[47, 47, 42, 41]⟩ : ByteArray).size = 4 := rfl
  have ks := hs.2.2
  omega
theorem no_op1 {s : ByteArray} {n : Nat} (hs : TextS s n) : TextS (⟨#[40]⟩ ++ s ++ ⟨#[32, 105, 110, 116, 101, 114, 115, 101, 99, 116, 32]⟩ ++ ⟨#[47, 47, 42, 41]⟩) (n + 16) := by
  have hm : Mid ([40] ++ (s.data.toList ++ [32, 105, 110, 116, 101, 114, 115, 101, 99, 116, 32, 47, 47, 42, 41])) := (pc3.app (hs.1.app beg60 pc60)).mid
  refine TextS.at hm (by rw [data_appQ, data_appQ, data_appQ]; simp) (by decide) ?_
  rw [ByteArray.size_append, ByteArray.size_append, ByteArray.size_append]
  have e0 : (⟨#[32, 105, 110, 116, 101, 114, 115, 101, 99, 116, 32]⟩ : ByteArray).size = 11 := rfl
  have e1 : (⟨#[40]⟩ : ByteArray).size = 1 := rfl
  have e2 : (⟨#[47, 47, 42, 41]⟩ : ByteArray).size = 4 := rfl
  have ks := hs.2.2
  omega
theorem no_op2 {s : ByteArray} {n : Nat} (hs : TextS s n) : TextS (⟨#[40]⟩ ++ s ++ ⟨#[32, 101, 120, 99, 101, 112, 116, 32]⟩ ++ ⟨#[47, 47, 42, 41]⟩) (n + 13) := by
  have hm : Mid ([40] ++ (s.data.toList ++ [32, 101, 120, 99, 101, 112, 116, 32, 47, 47, 42, 41])) := (pc3.app (hs.1.app beg61 pc61)).mid
  refine TextS.at hm (by rw [data_appQ, data_appQ, data_appQ]; simp) (by decide) ?_
  rw [ByteArray.size_append, ByteArray.size_append, ByteArray.size_append]
  have e0 : (⟨#[32, 101, 120, 99, 101, 112, 116, 32]⟩ : ByteArray).size = 8 := rfl
  have e1 : (⟨#[40]⟩ : ByteArray).size = 1 := rfl
  have e2 : (⟨#[47, 47, 42, 41]⟩ : ByteArray).size = 4 := rfl
  have ks := hs.2.2
  omega
theorem tr_lt : TextS ⟨#[49, 32, 60, 32, 50]⟩ 5 := by
  have hm : Mid ([49] ++ [32, 60, 32] ++ [50]) := ((show Mid [49] from mid_num (i := 1) (by omega)).app beg52 pc52).on (show Mid [50] from mid_num (i := 2) (by omega))
  exact TextS.at hm rfl (by decide) (by decide)
theorem tr_true : TextS ⟨#[116, 114, 117, 101, 40, 41]⟩ 6 := TextS.at pc11.mid rfl (by decide) (by decide)
theorem tr_false : TextS ⟨#[102, 97, 108, 115, 101, 40, 41]⟩ 7 := TextS.at pc12.mid rfl (by decide) (by decide)
theorem tr_ex : TextS ⟨#[101, 120, 105, 115, 116, 115, 40, 47, 47, 97, 41]⟩ 11 := TextS.at pc13.mid rfl (by decide) (by decide)
theorem qu_q0 {i : Nat} (hi : i < 5) : TextS ⟨(q0L.getD i []).toArray⟩ 6 := by
  refine ⟨mid_q0 hi, ?_, ?_⟩
  · have : ∀ i : Fin 5, 0 < (q0L.getD i []).length ∧ bk (bAt (q0L.getD i []) 0) = false := by decide
    exact this ⟨i, hi⟩
  · have : ∀ i : Fin 5, (q0L.getD i []).length ≤ 6 := by decide
    exact this ⟨i, hi⟩
theorem no_base {i : Nat} (hi : i < 6) : TextS ⟨(baseL.getD i []).toArray⟩ 8 := by
  refine ⟨mid_base hi, ?_, ?_⟩
  · have : ∀ i : Fin 6, 0 < (baseL.getD i []).length ∧ bk (bAt (baseL.getD i []) 0) = false := by decide
    exact this ⟨i, hi⟩
  · have : ∀ i : Fin 6, (baseL.getD i []).length ≤ 8 := by decide
    exact this ⟨i, hi⟩
theorem mid_dot : Mid [46] := fun c R hc => by
  rcases hc with rfl | rfl | rfl | rfl | rfl <;> exact Eat.eats (m := 1) ⟨60, by kernel_rfl⟩ (by decide)
theorem no_dot : TextS ⟨#[46]⟩ 1 := TextS.at mid_dot rfl (by decide) (by decide)
theorem no_step {s : ByteArray} {n i j : Nat} (h : TextS s n) (hj : j < 2) (hi : i < 18) : TextS (s ++ (⟨(sepL.getD j []).toArray⟩ ++ ⟨(stepL.getD i []).toArray⟩)) (n + 32) := by
  refine TextS.onto h (sep_step h.1 hj hi) (by rw [data_appQ, data_appQ]) ?_
  rw [ByteArray.size_append, ByteArray.size_append]
  have h1 : (⟨(sepL.getD j []).toArray⟩ : ByteArray).size ≤ 2 := sepL_len hj
  have h2 : (⟨(stepL.getD i []).toArray⟩ : ByteArray).size ≤ 30 := stepL_len hi
  have h3 := h.2.2
  omega
theorem no_filter2 {s u : ByteArray} {m n : Nat} (hs : TextS s m) (hu : TextS u n) : TextS (⟨#[40]⟩ ++ s ++ ⟨#[41, 91]⟩ ++ u ++ ⟨#[93]⟩) (m + n + 4) := by
  have k := no_filter (n := m + n) (hs.more (by omega)) (hu.more (by omega))
  refine ⟨k.1, k.2.1, ?_⟩
  rw [ByteArray.size_append, ByteArray.size_append, ByteArray.size_append, ByteArray.size_append]
  have c1 : (⟨#[40]⟩ : ByteArray).size = 1 := rfl
  have c2 : (⟨#[41, 91]⟩ : ByteArray).size = 2 := rfl
  have c3 : (⟨#[93]⟩ : ByteArray).size = 1 := rfl
  have c4 := hs.2.2
  have c5 := hu.2.2
  omega
theorem PoS.drewI {w0 w : World} {pb : Nat} {d : Bool} (h : PoS w0 w pb d) : PoS w0 w.drew pb d := h.below (Below.refl _ _).drew
theorem PoS.allocI {w0 w : World} {pb : Nat} {d : Bool} (h : PoS w0 w pb d) (o : Obj) : PoS w0 (w.alloc o) pb d := h.below ((Below.refl _ _).alloc (Nat.le_refl _) o)
/-- what the poet's truth tells -/
def TruOk (d : Int) (n : Nat) : Prop := ∀ {w0 w : World} {pb : Nat} {dt : Bool}, PoS w0 w pb dt → Calls Tryd.prog 23 #[.pointer (some ⟨pb, 0, none⟩), .int .i64 d] w fun e w' => ∃ s, TextS s n ∧ e = .returned (.string s) ∧ GrowQ pb w w' ∧ PoS w0 w' pb dt
/-- what the poet's query tells -/
def QueOk (d : Int) (n : Nat) : Prop := ∀ {w0 w : World} {pb : Nat} {dt : Bool}, PoS w0 w pb dt → Calls Tryd.prog 9 #[.pointer (some ⟨pb, 0, none⟩), .int .i64 d] w fun e w' => ∃ s, TextS s n ∧ e = .returned (.string s) ∧ GrowQ pb w w' ∧ PoS w0 w' pb dt
theorem query0_ok : QueOk 0 6 := fun h => (query0_is h).mono fun e w' ⟨i, k1, k2, k3, k4⟩ => ⟨_, qu_q0 k1, k2, k3, k4⟩
end Go.Proofs.YtbpggpnmbfjadaaDoor
