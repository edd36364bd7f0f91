import Derived.Test.YtbnlekhjgkojlaaGreatDoorQoTok
import Derived.Test.YtbnlekhjgkojlaaGreatDoorLaidQ
set_option linter.unusedVariables false
namespace Go.Proofs.YtbnlekhjgkojlaaGreatDoor
set_option maxRecDepth 100000
open Go.RowKit
theorem k_tx_quoted {x : ByteArray} (hx : Let x.data.toList) (lx : x.size ≤ 6) : MdK (⟨#[34]⟩ ++ x ++ ⟨#[34]⟩ : ByteArray).data.toList ([⟨3, x, 0⟩]) := by
 have hm : MdK ((34 :: x.data.toList ++ [34])) ([⟨3, x, 0⟩]) := (pk_quoted hx (show x.size ≤ 100 by omega)).mid
 rw [data_appQ, data_appQ]
 simpa using hm
theorem k_tx_concat {x : ByteArray} (hx : Let x.data.toList) (lx : x.size ≤ 6) : MdK (⟨#[99, 111, 110, 99, 97, 116, 40, 115, 116, 114, 105, 110, 103, 40, 47, 114, 41, 44, 32, 34]⟩ ++ x ++ ⟨#[34, 41]⟩ : ByteArray).data.toList ((([⟨1, ⟨#[99, 111, 110, 99, 97, 116]⟩, 0⟩, ⟨5, ⟨#[40]⟩, 0⟩, ⟨1, ⟨#[115, 116, 114, 105, 110, 103]⟩, 0⟩, ⟨5, ⟨#[40]⟩, 0⟩, ⟨5, ⟨#[47]⟩, 0⟩, ⟨1, ⟨#[114]⟩, 0⟩, ⟨5, ⟨#[41]⟩, 0⟩, ⟨5, ⟨#[44]⟩, 0⟩] ++ [⟨3, x, 0⟩]) ++ [⟨5, ⟨#[41]⟩, 0⟩])) := by
 have hm : MdK ((([99, 111, 110, 99, 97, 116, 40, 115, 116, 114, 105, 110, 103, 40, 47, 114, 41, 44, 32] ++ (34 :: x.data.toList ++ [34])) ++ [41])) ((([⟨1, ⟨#[99, 111, 110, 99, 97, 116]⟩, 0⟩, ⟨5, ⟨#[40]⟩, 0⟩, ⟨1, ⟨#[115, 116, 114, 105, 110, 103]⟩, 0⟩, ⟨5, ⟨#[40]⟩, 0⟩, ⟨5, ⟨#[47]⟩, 0⟩, ⟨1, ⟨#[114]⟩, 0⟩, ⟨5, ⟨#[41]⟩, 0⟩, ⟨5, ⟨#[44]⟩, 0⟩] ++ [⟨3, x, 0⟩]) ++ [⟨5, ⟨#[41]⟩, 0⟩])) := ((pk0.app (pk_quoted hx (show x.size ≤ 100 by omega))).app pk1).mid
 rw [data_appQ, data_appQ]
 simpa using hm
theorem k_tx_name : MdK (⟨#[110, 97, 109, 101, 40, 46, 41]⟩ : ByteArray).data.toList ([⟨1, ⟨#[110, 97, 109, 101]⟩, 0⟩, ⟨5, ⟨#[40]⟩, 0⟩, ⟨5, ⟨#[46]⟩, 0⟩, ⟨5, ⟨#[41]⟩, 0⟩]) := by
 have hm : MdK ([110, 97, 109, 101, 40, 46, 41]) ([⟨1, ⟨#[110, 97, 109, 101]⟩, 0⟩, ⟨5, ⟨#[40]⟩, 0⟩, ⟨5, ⟨#[46]⟩, 0⟩, ⟨5, ⟨#[41]⟩, 0⟩]) := pk2.mid
 exact hm
theorem k_tx_substr {x : ByteArray} {i : Nat} {j : Nat} (hx : Let x.data.toList) (lx : x.size ≤ 6) (hi : i < 20) (hj : j < 20) : MdK (⟨#[115, 117, 98, 115, 116, 114, 105, 110, 103, 40, 34]⟩ ++ x ++ ⟨#[34, 44, 32]⟩ ++ ⟨(Lib.decDigits i).toArray⟩ ++ ⟨#[44, 32]⟩ ++ ⟨(Lib.decDigits j).toArray⟩ ++ ⟨#[41]⟩ : ByteArray).data.toList ((((([⟨1, ⟨#[115, 117, 98, 115, 116, 114, 105, 110, 103]⟩, 0⟩, ⟨5, ⟨#[40]⟩, 0⟩] ++ [⟨3, x, 0⟩]) ++ [⟨5, ⟨#[44]⟩, 0⟩]) ++ ([⟨2, ⟨#[]⟩, i⟩] ++ [⟨5, ⟨#[44]⟩, 0⟩])) ++ ([⟨2, ⟨#[]⟩, j⟩] ++ [⟨5, ⟨#[41]⟩, 0⟩]))) := by
 have hm : MdK ((((([115, 117, 98, 115, 116, 114, 105, 110, 103, 40] ++ (34 :: x.data.toList ++ [34])) ++ [44, 32]) ++ (Lib.decDigits i ++ [44, 32])) ++ (Lib.decDigits j ++ [41]))) ((((([⟨1, ⟨#[115, 117, 98, 115, 116, 114, 105, 110, 103]⟩, 0⟩, ⟨5, ⟨#[40]⟩, 0⟩] ++ [⟨3, x, 0⟩]) ++ [⟨5, ⟨#[44]⟩, 0⟩]) ++ ([⟨2, ⟨#[]⟩, i⟩] ++ [⟨5, ⟨#[44]⟩, 0⟩])) ++ ([⟨2, ⟨#[]⟩, j⟩] ++ [⟨5, ⟨#[41]⟩, 0⟩]))) := ((((pk3.app (pk_quoted hx (show x.size ≤ 100 by omega))).app pk4).app ((md_dec hi).app bg4 pk4)).app ((md_dec hj).app bg1 pk1)).mid
 rw [data_appQ, data_appQ, data_appQ, data_appQ, data_appQ, data_appQ]
 simpa using hm
theorem k_tx_string {s : ByteArray} {Ks : List Tok} (ms : MdK s.data.toList Ks) : MdK (⟨#[115, 116, 114, 105, 110, 103, 40]⟩ ++ s ++ ⟨#[41]⟩ : ByteArray).data.toList (([⟨1, ⟨#[115, 116, 114, 105, 110, 103]⟩, 0⟩, ⟨5, ⟨#[40]⟩, 0⟩] ++ (Ks ++ [⟨5, ⟨#[41]⟩, 0⟩]))) := by
 have hm : MdK (([115, 116, 114, 105, 110, 103, 40] ++ (s.data.toList ++ [41]))) (([⟨1, ⟨#[115, 116, 114, 105, 110, 103]⟩, 0⟩, ⟨5, ⟨#[40]⟩, 0⟩] ++ (Ks ++ [⟨5, ⟨#[41]⟩, 0⟩]))) := (pk5.app (ms.app bg1 pk1)).mid
 rw [data_appQ, data_appQ]
 simpa using hm
theorem k_nu_dec {i : Nat} (hi : i < 20) : MdK (⟨(Lib.decDigits i).toArray⟩ : ByteArray).data.toList ([⟨2, ⟨#[]⟩, i⟩]) := by
 have hm : MdK (Lib.decDigits i) ([⟨2, ⟨#[]⟩, i⟩]) := (md_dec hi)
 exact hm
theorem k_nu_count {s : ByteArray} {Ks : List Tok} (ms : MdK s.data.toList Ks) : MdK (⟨#[99, 111, 117, 110, 116, 40]⟩ ++ s ++ ⟨#[41]⟩ : ByteArray).data.toList (([⟨1, ⟨#[99, 111, 117, 110, 116]⟩, 0⟩, ⟨5, ⟨#[40]⟩, 0⟩] ++ (Ks ++ [⟨5, ⟨#[41]⟩, 0⟩]))) := by
 have hm : MdK (([99, 111, 117, 110, 116, 40] ++ (s.data.toList ++ [41]))) (([⟨1, ⟨#[99, 111, 117, 110, 116]⟩, 0⟩, ⟨5, ⟨#[40]⟩, 0⟩] ++ (Ks ++ [⟨5, ⟨#[41]⟩, 0⟩]))) := (pk6.app (ms.app bg1 pk1)).mid
 rw [data_appQ, data_appQ]
 simpa using hm
theorem k_nu_pos : MdK (⟨#[112, 111, 115, 105, 116, 105, 111, 110, 40, 41]⟩ : ByteArray).data.toList ([⟨1, ⟨#[112, 111, 115, 105, 116, 105, 111, 110]⟩, 0⟩, ⟨5, ⟨#[40]⟩, 0⟩, ⟨5, ⟨#[41]⟩, 0⟩]) := by
 have hm : MdK ([112, 111, 115, 105, 116, 105, 111, 110, 40, 41]) ([⟨1, ⟨#[112, 111, 115, 105, 116, 105, 111, 110]⟩, 0⟩, ⟨5, ⟨#[40]⟩, 0⟩, ⟨5, ⟨#[41]⟩, 0⟩]) := pk7.mid
 exact hm
theorem k_nu_last : MdK (⟨#[108, 97, 115, 116, 40, 41]⟩ : ByteArray).data.toList ([⟨1, ⟨#[108, 97, 115, 116]⟩, 0⟩, ⟨5, ⟨#[40]⟩, 0⟩, ⟨5, ⟨#[41]⟩, 0⟩]) := by
 have hm : MdK ([108, 97, 115, 116, 40, 41]) ([⟨1, ⟨#[108, 97, 115, 116]⟩, 0⟩, ⟨5, ⟨#[40]⟩, 0⟩, ⟨5, ⟨#[41]⟩, 0⟩]) := pk8.mid
 exact hm
theorem k_nu_len {x : ByteArray} (hx : Let x.data.toList) (lx : x.size ≤ 6) : MdK (⟨#[115, 116, 114, 105, 110, 103, 45, 108, 101, 110, 103, 116, 104, 40, 34]⟩ ++ x ++ ⟨#[34, 41]⟩ : ByteArray).data.toList ((([⟨1, ⟨#[115, 116, 114, 105, 110, 103, 45, 108, 101, 110, 103, 116, 104]⟩, 0⟩, ⟨5, ⟨#[40]⟩, 0⟩] ++ [⟨3, x, 0⟩]) ++ [⟨5, ⟨#[41]⟩, 0⟩])) := by
 have hm : MdK ((([115, 116, 114, 105, 110, 103, 45, 108, 101, 110, 103, 116, 104, 40] ++ (34 :: x.data.toList ++ [34])) ++ [41])) ((([⟨1, ⟨#[115, 116, 114, 105, 110, 103, 45, 108, 101, 110, 103, 116, 104]⟩, 0⟩, ⟨5, ⟨#[40]⟩, 0⟩] ++ [⟨3, x, 0⟩]) ++ [⟨5, ⟨#[41]⟩, 0⟩])) := ((pk9.app (pk_quoted hx (show x.size ≤ 100 by omega))).app pk1).mid
 rw [data_appQ, data_appQ]
 simpa using hm
theorem k_nu_op0 {s : ByteArray} {Ks : List Tok} {u : ByteArray} {Ku : List Tok} (ms : MdK s.data.toList Ks) (mu : MdK u.data.toList Ku) : MdK (⟨#[40]⟩ ++ s ++ ⟨#[32, 43, 32]⟩ ++ u ++ ⟨#[41]⟩ : ByteArray).data.toList ((([⟨5, ⟨#[40]⟩, 0⟩] ++ (Ks ++ [⟨5, ⟨#[43]⟩, 0⟩])) ++ (Ku ++ [⟨5, ⟨#[41]⟩, 0⟩]))) := by
 have hm : MdK ((([40] ++ (s.data.toList ++ [32, 43, 32])) ++ (u.data.toList ++ [41]))) ((([⟨5, ⟨#[40]⟩, 0⟩] ++ (Ks ++ [⟨5, ⟨#[43]⟩, 0⟩])) ++ (Ku ++ [⟨5, ⟨#[41]⟩, 0⟩]))) := ((pk10.app (ms.app bg11 pk11)).app (mu.app bg1 pk1)).mid
 rw [data_appQ, data_appQ, data_appQ, data_appQ]
 simpa using hm
theorem k_nu_op1 {s : ByteArray} {Ks : List Tok} {u : ByteArray} {Ku : List Tok} (ms : MdK s.data.toList Ks) (mu : MdK u.data.toList Ku) : MdK (⟨#[40]⟩ ++ s ++ ⟨#[32, 45, 32]⟩ ++ u ++ ⟨#[41]⟩ : ByteArray).data.toList ((([⟨5, ⟨#[40]⟩, 0⟩] ++ (Ks ++ [⟨5, ⟨#[45]⟩, 0⟩])) ++ (Ku ++ [⟨5, ⟨#[41]⟩, 0⟩]))) := by
 have hm : MdK ((([40] ++ (s.data.toList ++ [32, 45, 32])) ++ (u.data.toList ++ [41]))) ((([⟨5, ⟨#[40]⟩, 0⟩] ++ (Ks ++ [⟨5, ⟨#[45]⟩, 0⟩])) ++ (Ku ++ [⟨5, ⟨#[41]⟩, 0⟩]))) := ((pk10.app (ms.app bg12 pk12)).app (mu.app bg1 pk1)).mid
 rw [data_appQ, data_appQ, data_appQ, data_appQ]
 simpa using hm
theorem k_nu_op2 {s : ByteArray} {Ks : List Tok} {u : ByteArray} {Ku : List Tok} (ms : MdK s.data.toList Ks) (mu : MdK u.data.toList Ku) : MdK (⟨#[40]⟩ ++ s ++ ⟨#[32, 42, 32]⟩ ++ u ++ ⟨#[41]⟩ : ByteArray).data.toList ((([⟨5, ⟨#[40]⟩, 0⟩] ++ (Ks ++ [⟨5, ⟨#[42]⟩, 0⟩])) ++ (Ku ++ [⟨5, ⟨#[41]⟩, 0⟩]))) := by
 have hm : MdK ((([40] ++ (s.data.toList ++ [32, 42, 32])) ++ (u.data.toList ++ [41]))) ((([⟨5, ⟨#[40]⟩, 0⟩] ++ (Ks ++ [⟨5, ⟨#[42]⟩, 0⟩])) ++ (Ku ++ [⟨5, ⟨#[41]⟩, 0⟩]))) := ((pk10.app (ms.app bg13 pk13)).app (mu.app bg1 pk1)).mid
 rw [data_appQ, data_appQ, data_appQ, data_appQ]
 simpa using hm
theorem k_nu_op3 {s : ByteArray} {Ks : List Tok} {u : ByteArray} {Ku : List Tok} (ms : MdK s.data.toList Ks) (mu : MdK u.data.toList Ku) : MdK (⟨#[40]⟩ ++ s ++ ⟨#[32, 100, 105, 118, 32]⟩ ++ u ++ ⟨#[41]⟩ : ByteArray).data.toList ((([⟨5, ⟨#[40]⟩, 0⟩] ++ (Ks ++ [⟨1, ⟨#[100, 105, 118]⟩, 0⟩])) ++ (Ku ++ [⟨5, ⟨#[41]⟩, 0⟩]))) := by
 have hm : MdK ((([40] ++ (s.data.toList ++ [32, 100, 105, 118, 32])) ++ (u.data.toList ++ [41]))) ((([⟨5, ⟨#[40]⟩, 0⟩] ++ (Ks ++ [⟨1, ⟨#[100, 105, 118]⟩, 0⟩])) ++ (Ku ++ [⟨5, ⟨#[41]⟩, 0⟩]))) := ((pk10.app (ms.app bg14 pk14)).app (mu.app bg1 pk1)).mid
 rw [data_appQ, data_appQ, data_appQ, data_appQ]
 simpa using hm
theorem k_nu_op4 {s : ByteArray} {Ks : List Tok} {u : ByteArray} {Ku : List Tok} (ms : MdK s.data.toList Ks) (mu : MdK u.data.toList Ku) : MdK (⟨#[40]⟩ ++ s ++ ⟨#[32, 109, 111, 100, 32]⟩ ++ u ++ ⟨#[41]⟩ : ByteArray).data.toList ((([⟨5, ⟨#[40]⟩, 0⟩] ++ (Ks ++ [⟨1, ⟨#[109, 111, 100]⟩, 0⟩])) ++ (Ku ++ [⟨5, ⟨#[41]⟩, 0⟩]))) := by
 have hm : MdK ((([40] ++ (s.data.toList ++ [32, 109, 111, 100, 32])) ++ (u.data.toList ++ [41]))) ((([⟨5, ⟨#[40]⟩, 0⟩] ++ (Ks ++ [⟨1, ⟨#[109, 111, 100]⟩, 0⟩])) ++ (Ku ++ [⟨5, ⟨#[41]⟩, 0⟩]))) := ((pk10.app (ms.app bg15 pk15)).app (mu.app bg1 pk1)).mid
 rw [data_appQ, data_appQ, data_appQ, data_appQ]
 simpa using hm
theorem k_nu_sum {i : Nat} {j : Nat} (hi : i < 20) (hj : j < 20) : MdK (⟨#[115, 117, 109, 40, 40]⟩ ++ ⟨(Lib.decDigits i).toArray⟩ ++ ⟨#[44, 32]⟩ ++ ⟨(Lib.decDigits j).toArray⟩ ++ ⟨#[41, 41]⟩ : ByteArray).data.toList ((([⟨1, ⟨#[115, 117, 109]⟩, 0⟩, ⟨5, ⟨#[40]⟩, 0⟩, ⟨5, ⟨#[40]⟩, 0⟩] ++ ([⟨2, ⟨#[]⟩, i⟩] ++ [⟨5, ⟨#[44]⟩, 0⟩])) ++ ([⟨2, ⟨#[]⟩, j⟩] ++ [⟨5, ⟨#[41]⟩, 0⟩, ⟨5, ⟨#[41]⟩, 0⟩]))) := by
 have hm : MdK ((([115, 117, 109, 40, 40] ++ (Lib.decDigits i ++ [44, 32])) ++ (Lib.decDigits j ++ [41, 41]))) ((([⟨1, ⟨#[115, 117, 109]⟩, 0⟩, ⟨5, ⟨#[40]⟩, 0⟩, ⟨5, ⟨#[40]⟩, 0⟩] ++ ([⟨2, ⟨#[]⟩, i⟩] ++ [⟨5, ⟨#[44]⟩, 0⟩])) ++ ([⟨2, ⟨#[]⟩, j⟩] ++ [⟨5, ⟨#[41]⟩, 0⟩, ⟨5, ⟨#[41]⟩, 0⟩]))) := ((pk16.app ((md_dec hi).app bg4 pk4)).app ((md_dec hj).app bg17 pk17)).mid
 rw [data_appQ, data_appQ, data_appQ, data_appQ]
 simpa using hm
theorem k_nu_slen {s : ByteArray} {Ks : List Tok} (ms : MdK s.data.toList Ks) : MdK (⟨#[115, 116, 114, 105, 110, 103, 45, 108, 101, 110, 103, 116, 104, 40]⟩ ++ s ++ ⟨#[41]⟩ : ByteArray).data.toList (([⟨1, ⟨#[115, 116, 114, 105, 110, 103, 45, 108, 101, 110, 103, 116, 104]⟩, 0⟩, ⟨5, ⟨#[40]⟩, 0⟩] ++ (Ks ++ [⟨5, ⟨#[41]⟩, 0⟩]))) := by
 have hm : MdK (([115, 116, 114, 105, 110, 103, 45, 108, 101, 110, 103, 116, 104, 40] ++ (s.data.toList ++ [41]))) (([⟨1, ⟨#[115, 116, 114, 105, 110, 103, 45, 108, 101, 110, 103, 116, 104]⟩, 0⟩, ⟨5, ⟨#[40]⟩, 0⟩] ++ (Ks ++ [⟨5, ⟨#[41]⟩, 0⟩]))) := (pk9.app (ms.app bg1 pk1)).mid
 rw [data_appQ, data_appQ]
 simpa using hm
theorem k_tr_true : MdK (⟨#[116, 114, 117, 101, 40, 41]⟩ : ByteArray).data.toList ([⟨1, ⟨#[116, 114, 117, 101]⟩, 0⟩, ⟨5, ⟨#[40]⟩, 0⟩, ⟨5, ⟨#[41]⟩, 0⟩]) := by
 have hm : MdK ([116, 114, 117, 101, 40, 41]) ([⟨1, ⟨#[116, 114, 117, 101]⟩, 0⟩, ⟨5, ⟨#[40]⟩, 0⟩, ⟨5, ⟨#[41]⟩, 0⟩]) := pk18.mid
 exact hm
theorem k_tr_false : MdK (⟨#[102, 97, 108, 115, 101, 40, 41]⟩ : ByteArray).data.toList ([⟨1, ⟨#[102, 97, 108, 115, 101]⟩, 0⟩, ⟨5, ⟨#[40]⟩, 0⟩, ⟨5, ⟨#[41]⟩, 0⟩]) := by
 have hm : MdK ([102, 97, 108, 115, 101, 40, 41]) ([⟨1, ⟨#[102, 97, 108, 115, 101]⟩, 0⟩, ⟨5, ⟨#[40]⟩, 0⟩, ⟨5, ⟨#[41]⟩, 0⟩]) := pk19.mid
 exact hm
theorem k_tr_ex : MdK (⟨#[101, 120, 105, 115, 116, 115, 40, 47, 47, 97, 41]⟩ : ByteArray).data.toList ([⟨1, ⟨#[101, 120, 105, 115, 116, 115]⟩, 0⟩, ⟨5, ⟨#[40]⟩, 0⟩, ⟨5, ⟨#[47, 47]⟩, 0⟩, ⟨1, ⟨#[97]⟩, 0⟩, ⟨5, ⟨#[41]⟩, 0⟩]) := by
 have hm : MdK ([101, 120, 105, 115, 116, 115, 40, 47, 47, 97, 41]) ([⟨1, ⟨#[101, 120, 105, 115, 116, 115]⟩, 0⟩, ⟨5, ⟨#[40]⟩, 0⟩, ⟨5, ⟨#[47, 47]⟩, 0⟩, ⟨1, ⟨#[97]⟩, 0⟩, ⟨5, ⟨#[41]⟩, 0⟩]) := pk20.mid
 exact hm
theorem k_tr_eq {s : ByteArray} {Ks : List Tok} {u : ByteArray} {Ku : List Tok} (ms : MdK s.data.toList Ks) (mu : MdK u.data.toList Ku) : MdK (s ++ ⟨#[32, 61, 32]⟩ ++ u : ByteArray).data.toList ((Ks ++ [⟨5, ⟨#[61]⟩, 0⟩]) ++ Ku) := by
 have hm : MdK ((s.data.toList ++ [32, 61, 32]) ++ u.data.toList) ((Ks ++ [⟨5, ⟨#[61]⟩, 0⟩]) ++ Ku) := (ms.app bg21 pk21).on mu
 rw [data_appQ, data_appQ]
 simpa using hm
theorem k_tr_op0 {s : ByteArray} {Ks : List Tok} {u : ByteArray} {Ku : List Tok} (ms : MdK s.data.toList Ks) (mu : MdK u.data.toList Ku) : MdK (s ++ ⟨#[32, 60, 32]⟩ ++ u : ByteArray).data.toList ((Ks ++ [⟨5, ⟨#[60]⟩, 0⟩]) ++ Ku) := by
 have hm : MdK ((s.data.toList ++ [32, 60, 32]) ++ u.data.toList) ((Ks ++ [⟨5, ⟨#[60]⟩, 0⟩]) ++ Ku) := (ms.app bg22 pk22).on mu
 rw [data_appQ, data_appQ]
 simpa using hm
theorem k_tr_op1 {s : ByteArray} {Ks : List Tok} {u : ByteArray} {Ku : List Tok} (ms : MdK s.data.toList Ks) (mu : MdK u.data.toList Ku) : MdK (s ++ ⟨#[32, 60, 61, 32]⟩ ++ u : ByteArray).data.toList ((Ks ++ [⟨5, ⟨#[60, 61]⟩, 0⟩]) ++ Ku) := by
 have hm : MdK ((s.data.toList ++ [32, 60, 61, 32]) ++ u.data.toList) ((Ks ++ [⟨5, ⟨#[60, 61]⟩, 0⟩]) ++ Ku) := (ms.app bg23 pk23).on mu
 rw [data_appQ, data_appQ]
 simpa using hm
theorem k_tr_op2 {s : ByteArray} {Ks : List Tok} {u : ByteArray} {Ku : List Tok} (ms : MdK s.data.toList Ks) (mu : MdK u.data.toList Ku) : MdK (s ++ ⟨#[32, 62, 32]⟩ ++ u : ByteArray).data.toList ((Ks ++ [⟨5, ⟨#[62]⟩, 0⟩]) ++ Ku) := by
 have hm : MdK ((s.data.toList ++ [32, 62, 32]) ++ u.data.toList) ((Ks ++ [⟨5, ⟨#[62]⟩, 0⟩]) ++ Ku) := (ms.app bg24 pk24).on mu
 rw [data_appQ, data_appQ]
 simpa using hm
theorem k_tr_op3 {s : ByteArray} {Ks : List Tok} {u : ByteArray} {Ku : List Tok} (ms : MdK s.data.toList Ks) (mu : MdK u.data.toList Ku) : MdK (s ++ ⟨#[32, 62, 61, 32]⟩ ++ u : ByteArray).data.toList ((Ks ++ [⟨5, ⟨#[62, 61]⟩, 0⟩]) ++ Ku) := by
 have hm : MdK ((s.data.toList ++ [32, 62, 61, 32]) ++ u.data.toList) ((Ks ++ [⟨5, ⟨#[62, 61]⟩, 0⟩]) ++ Ku) := (ms.app bg25 pk25).on mu
 rw [data_appQ, data_appQ]
 simpa using hm
theorem k_tr_op4 {s : ByteArray} {Ks : List Tok} {u : ByteArray} {Ku : List Tok} (ms : MdK s.data.toList Ks) (mu : MdK u.data.toList Ku) : MdK (s ++ ⟨#[32, 33, 61, 32]⟩ ++ u : ByteArray).data.toList ((Ks ++ [⟨5, ⟨#[33, 61]⟩, 0⟩]) ++ Ku) := by
 have hm : MdK ((s.data.toList ++ [32, 33, 61, 32]) ++ u.data.toList) ((Ks ++ [⟨5, ⟨#[33, 61]⟩, 0⟩]) ++ Ku) := (ms.app bg26 pk26).on mu
 rw [data_appQ, data_appQ]
 simpa using hm
theorem k_tr_empty {s : ByteArray} {Ks : List Tok} (ms : MdK s.data.toList Ks) : MdK (⟨#[101, 109, 112, 116, 121, 40]⟩ ++ s ++ ⟨#[41]⟩ : ByteArray).data.toList (([⟨1, ⟨#[101, 109, 112, 116, 121]⟩, 0⟩, ⟨5, ⟨#[40]⟩, 0⟩] ++ (Ks ++ [⟨5, ⟨#[41]⟩, 0⟩]))) := by
 have hm : MdK (([101, 109, 112, 116, 121, 40] ++ (s.data.toList ++ [41]))) (([⟨1, ⟨#[101, 109, 112, 116, 121]⟩, 0⟩, ⟨5, ⟨#[40]⟩, 0⟩] ++ (Ks ++ [⟨5, ⟨#[41]⟩, 0⟩]))) := (pk27.app (ms.app bg1 pk1)).mid
 rw [data_appQ, data_appQ]
 simpa using hm
theorem k_tr_not {s : ByteArray} {Ks : List Tok} {u : ByteArray} {Ku : List Tok} (ms : MdK s.data.toList Ks) (mu : MdK u.data.toList Ku) : MdK (⟨#[110, 111, 116, 40]⟩ ++ s ++ ⟨#[41, 32, 97, 110, 100, 32]⟩ ++ u : ByteArray).data.toList (([⟨1, ⟨#[110, 111, 116]⟩, 0⟩, ⟨5, ⟨#[40]⟩, 0⟩] ++ (Ks ++ [⟨5, ⟨#[41]⟩, 0⟩, ⟨1, ⟨#[97, 110, 100]⟩, 0⟩])) ++ Ku) := by
 have hm : MdK (([110, 111, 116, 40] ++ (s.data.toList ++ [41, 32, 97, 110, 100, 32])) ++ u.data.toList) (([⟨1, ⟨#[110, 111, 116]⟩, 0⟩, ⟨5, ⟨#[40]⟩, 0⟩] ++ (Ks ++ [⟨5, ⟨#[41]⟩, 0⟩, ⟨1, ⟨#[97, 110, 100]⟩, 0⟩])) ++ Ku) := (pk28.app (ms.app bg29 pk29)).on mu
 rw [data_appQ, data_appQ, data_appQ]
 simpa using hm
theorem k_tr_some {s : ByteArray} {Ks : List Tok} {i : Nat} (ms : MdK s.data.toList Ks) (hi : i < 20) : MdK (⟨#[40, 115, 111, 109, 101, 32, 36, 113, 32, 105, 110, 32]⟩ ++ s ++ ⟨#[32, 115, 97, 116, 105, 115, 102, 105, 101, 115, 32, 36, 113, 32, 61, 32]⟩ ++ ⟨(Lib.decDigits i).toArray⟩ ++ ⟨#[41]⟩ : ByteArray).data.toList ((([⟨5, ⟨#[40]⟩, 0⟩, ⟨1, ⟨#[115, 111, 109, 101]⟩, 0⟩, ⟨4, ⟨#[113]⟩, 0⟩, ⟨1, ⟨#[105, 110]⟩, 0⟩] ++ (Ks ++ [⟨1, ⟨#[115, 97, 116, 105, 115, 102, 105, 101, 115]⟩, 0⟩, ⟨4, ⟨#[113]⟩, 0⟩, ⟨5, ⟨#[61]⟩, 0⟩])) ++ ([⟨2, ⟨#[]⟩, i⟩] ++ [⟨5, ⟨#[41]⟩, 0⟩]))) := by
 have hm : MdK ((([40, 115, 111, 109, 101, 32, 36, 113, 32, 105, 110, 32] ++ (s.data.toList ++ [32, 115, 97, 116, 105, 115, 102, 105, 101, 115, 32, 36, 113, 32, 61, 32])) ++ (Lib.decDigits i ++ [41]))) ((([⟨5, ⟨#[40]⟩, 0⟩, ⟨1, ⟨#[115, 111, 109, 101]⟩, 0⟩, ⟨4, ⟨#[113]⟩, 0⟩, ⟨1, ⟨#[105, 110]⟩, 0⟩] ++ (Ks ++ [⟨1, ⟨#[115, 97, 116, 105, 115, 102, 105, 101, 115]⟩, 0⟩, ⟨4, ⟨#[113]⟩, 0⟩, ⟨5, ⟨#[61]⟩, 0⟩])) ++ ([⟨2, ⟨#[]⟩, i⟩] ++ [⟨5, ⟨#[41]⟩, 0⟩]))) := ((pk30.app (ms.app bg31 pk31)).app ((md_dec hi).app bg1 pk1)).mid
 rw [data_appQ, data_appQ, data_appQ, data_appQ]
 simpa using hm
theorem k_tr_cont {s : ByteArray} {Ks : List Tok} {u : ByteArray} {Ku : List Tok} {x : ByteArray} (ms : MdK s.data.toList Ks) (mu : MdK u.data.toList Ku) (hx : Let x.data.toList) (lx : x.size ≤ 6) : MdK (⟨#[99, 111, 110, 116, 97, 105, 110, 115, 40]⟩ ++ s ++ ⟨#[44, 32, 34]⟩ ++ x ++ ⟨#[34, 41, 32, 111, 114, 32]⟩ ++ u : ByteArray).data.toList (((([⟨1, ⟨#[99, 111, 110, 116, 97, 105, 110, 115]⟩, 0⟩, ⟨5, ⟨#[40]⟩, 0⟩] ++ (Ks ++ [⟨5, ⟨#[44]⟩, 0⟩])) ++ [⟨3, x, 0⟩]) ++ [⟨5, ⟨#[41]⟩, 0⟩, ⟨1, ⟨#[111, 114]⟩, 0⟩]) ++ Ku) := by
 have hm : MdK (((([99, 111, 110, 116, 97, 105, 110, 115, 40] ++ (s.data.toList ++ [44, 32])) ++ (34 :: x.data.toList ++ [34])) ++ [41, 32, 111, 114, 32]) ++ u.data.toList) (((([⟨1, ⟨#[99, 111, 110, 116, 97, 105, 110, 115]⟩, 0⟩, ⟨5, ⟨#[40]⟩, 0⟩] ++ (Ks ++ [⟨5, ⟨#[44]⟩, 0⟩])) ++ [⟨3, x, 0⟩]) ++ [⟨5, ⟨#[41]⟩, 0⟩, ⟨1, ⟨#[111, 114]⟩, 0⟩]) ++ Ku) := (((pk32.app (ms.app bg4 pk4)).app (pk_quoted hx (show x.size ≤ 100 by omega))).app pk33).on mu
 rw [data_appQ, data_appQ, data_appQ, data_appQ, data_appQ]
 simpa using hm
theorem k_tr_every {s : ByteArray} {Ks : List Tok} (ms : MdK s.data.toList Ks) : MdK (⟨#[40, 101, 118, 101, 114, 121, 32, 36, 113, 32, 105, 110, 32]⟩ ++ s ++ ⟨#[32, 115, 97, 116, 105, 115, 102, 105, 101, 115, 32, 101, 120, 105, 115, 116, 115, 40, 36, 113, 47, 46, 46, 41, 41]⟩ : ByteArray).data.toList (([⟨5, ⟨#[40]⟩, 0⟩, ⟨1, ⟨#[101, 118, 101, 114, 121]⟩, 0⟩, ⟨4, ⟨#[113]⟩, 0⟩, ⟨1, ⟨#[105, 110]⟩, 0⟩] ++ (Ks ++ [⟨1, ⟨#[115, 97, 116, 105, 115, 102, 105, 101, 115]⟩, 0⟩, ⟨1, ⟨#[101, 120, 105, 115, 116, 115]⟩, 0⟩, ⟨5, ⟨#[40]⟩, 0⟩, ⟨4, ⟨#[113]⟩, 0⟩, ⟨5, ⟨#[47]⟩, 0⟩, ⟨5, ⟨#[46, 46]⟩, 0⟩, ⟨5, ⟨#[41]⟩, 0⟩, ⟨5, ⟨#[41]⟩, 0⟩]))) := by
 have hm : MdK (([40, 101, 118, 101, 114, 121, 32, 36, 113, 32, 105, 110, 32] ++ (s.data.toList ++ [32, 115, 97, 116, 105, 115, 102, 105, 101, 115, 32, 101, 120, 105, 115, 116, 115, 40, 36, 113, 47, 46, 46, 41, 41]))) (([⟨5, ⟨#[40]⟩, 0⟩, ⟨1, ⟨#[101, 118, 101, 114, 121]⟩, 0⟩, ⟨4, ⟨#[113]⟩, 0⟩, ⟨1, ⟨#[105, 110]⟩, 0⟩] ++ (Ks ++ [⟨1, ⟨#[115, 97, 116, 105, 115, 102, 105, 101, 115]⟩, 0⟩, ⟨1, ⟨#[101, 120, 105, 115, 116, 115]⟩, 0⟩, ⟨5, ⟨#[40]⟩, 0⟩, ⟨4, ⟨#[113]⟩, 0⟩, ⟨5, ⟨#[47]⟩, 0⟩, ⟨5, ⟨#[46, 46]⟩, 0⟩, ⟨5, ⟨#[41]⟩, 0⟩, ⟨5, ⟨#[41]⟩, 0⟩]))) := (pk34.app (ms.app bg35 pk35)).mid
 rw [data_appQ, data_appQ]
 simpa using hm
theorem k_qu_seq {s : ByteArray} {Ks : List Tok} {u : ByteArray} {Ku : List Tok} (ms : MdK s.data.toList Ks) (mu : MdK u.data.toList Ku) : MdK (⟨#[40]⟩ ++ s ++ ⟨#[44, 32]⟩ ++ u ++ ⟨#[41]⟩ : ByteArray).data.toList ((([⟨5, ⟨#[40]⟩, 0⟩] ++ (Ks ++ [⟨5, ⟨#[44]⟩, 0⟩])) ++ (Ku ++ [⟨5, ⟨#[41]⟩, 0⟩]))) := by
 have hm : MdK ((([40] ++ (s.data.toList ++ [44, 32])) ++ (u.data.toList ++ [41]))) ((([⟨5, ⟨#[40]⟩, 0⟩] ++ (Ks ++ [⟨5, ⟨#[44]⟩, 0⟩])) ++ (Ku ++ [⟨5, ⟨#[41]⟩, 0⟩]))) := ((pk10.app (ms.app bg4 pk4)).app (mu.app bg1 pk1)).mid
 rw [data_appQ, data_appQ, data_appQ, data_appQ]
 simpa using hm
theorem k_qu_if {s : ByteArray} {Ks : List Tok} {u : ByteArray} {Ku : List Tok} {y : ByteArray} {Ky : List Tok} (ms : MdK s.data.toList Ks) (mu : MdK u.data.toList Ku) (my : MdK y.data.toList Ky) : MdK (⟨#[40, 105, 102, 32, 40]⟩ ++ s ++ ⟨#[41, 32, 116, 104, 101, 110, 32]⟩ ++ u ++ ⟨#[32, 101, 108, 115, 101, 32]⟩ ++ y ++ ⟨#[41]⟩ : ByteArray).data.toList (((([⟨5, ⟨#[40]⟩, 0⟩, ⟨1, ⟨#[105, 102]⟩, 0⟩, ⟨5, ⟨#[40]⟩, 0⟩] ++ (Ks ++ [⟨5, ⟨#[41]⟩, 0⟩, ⟨1, ⟨#[116, 104, 101, 110]⟩, 0⟩])) ++ (Ku ++ [⟨1, ⟨#[101, 108, 115, 101]⟩, 0⟩])) ++ (Ky ++ [⟨5, ⟨#[41]⟩, 0⟩]))) := by
 have hm : MdK (((([40, 105, 102, 32, 40] ++ (s.data.toList ++ [41, 32, 116, 104, 101, 110, 32])) ++ (u.data.toList ++ [32, 101, 108, 115, 101, 32])) ++ (y.data.toList ++ [41]))) (((([⟨5, ⟨#[40]⟩, 0⟩, ⟨1, ⟨#[105, 102]⟩, 0⟩, ⟨5, ⟨#[40]⟩, 0⟩] ++ (Ks ++ [⟨5, ⟨#[41]⟩, 0⟩, ⟨1, ⟨#[116, 104, 101, 110]⟩, 0⟩])) ++ (Ku ++ [⟨1, ⟨#[101, 108, 115, 101]⟩, 0⟩])) ++ (Ky ++ [⟨5, ⟨#[41]⟩, 0⟩]))) := (((pk36.app (ms.app bg37 pk37)).app (mu.app bg38 pk38)).app (my.app bg1 pk1)).mid
 rw [data_appQ, data_appQ, data_appQ, data_appQ, data_appQ, data_appQ]
 simpa using hm
theorem k_qu_for {s : ByteArray} {Ks : List Tok} {u : ByteArray} {Ku : List Tok} (ms : MdK s.data.toList Ks) (mu : MdK u.data.toList Ku) : MdK (⟨#[40, 102, 111, 114, 32, 36, 118, 32, 105, 110, 32]⟩ ++ s ++ ⟨#[32, 114, 101, 116, 117, 114, 110, 32, 40, 36, 118, 44, 32]⟩ ++ u ++ ⟨#[41, 41]⟩ : ByteArray).data.toList ((([⟨5, ⟨#[40]⟩, 0⟩, ⟨1, ⟨#[102, 111, 114]⟩, 0⟩, ⟨4, ⟨#[118]⟩, 0⟩, ⟨1, ⟨#[105, 110]⟩, 0⟩] ++ (Ks ++ [⟨1, ⟨#[114, 101, 116, 117, 114, 110]⟩, 0⟩, ⟨5, ⟨#[40]⟩, 0⟩, ⟨4, ⟨#[118]⟩, 0⟩, ⟨5, ⟨#[44]⟩, 0⟩])) ++ (Ku ++ [⟨5, ⟨#[41]⟩, 0⟩, ⟨5, ⟨#[41]⟩, 0⟩]))) := by
 have hm : MdK ((([40, 102, 111, 114, 32, 36, 118, 32, 105, 110, 32] ++ (s.data.toList ++ [32, 114, 101, 116, 117, 114, 110, 32, 40, 36, 118, 44, 32])) ++ (u.data.toList ++ [41, 41]))) ((([⟨5, ⟨#[40]⟩, 0⟩, ⟨1, ⟨#[102, 111, 114]⟩, 0⟩, ⟨4, ⟨#[118]⟩, 0⟩, ⟨1, ⟨#[105, 110]⟩, 0⟩] ++ (Ks ++ [⟨1, ⟨#[114, 101, 116, 117, 114, 110]⟩, 0⟩, ⟨5, ⟨#[40]⟩, 0⟩, ⟨4, ⟨#[118]⟩, 0⟩, ⟨5, ⟨#[44]⟩, 0⟩])) ++ (Ku ++ [⟨5, ⟨#[41]⟩, 0⟩, ⟨5, ⟨#[41]⟩, 0⟩]))) := ((pk39.app (ms.app bg40 pk40)).app (mu.app bg17 pk17)).mid
 rw [data_appQ, data_appQ, data_appQ, data_appQ]
 simpa using hm
theorem k_qu_ord0 {s : ByteArray} {Ks : List Tok} (ms : MdK s.data.toList Ks) : MdK (⟨#[40, 102, 111, 114, 32, 36, 118, 32, 97, 116, 32, 36, 105, 32, 105, 110, 32]⟩ ++ s ++ ⟨#[32, 119, 104, 101, 114, 101, 32, 36, 105, 32, 60, 32, 51, 32, 111, 114, 100, 101, 114, 32, 98, 121, 32, 36, 105]⟩ ++ ⟨#[]⟩ ++ ⟨#[32, 114, 101, 116, 117, 114, 110, 32, 40, 36, 105, 44, 32, 36, 118, 41, 41]⟩ : ByteArray).data.toList (([⟨5, ⟨#[40]⟩, 0⟩, ⟨1, ⟨#[102, 111, 114]⟩, 0⟩, ⟨4, ⟨#[118]⟩, 0⟩, ⟨1, ⟨#[97, 116]⟩, 0⟩, ⟨4, ⟨#[105]⟩, 0⟩, ⟨1, ⟨#[105, 110]⟩, 0⟩] ++ (Ks ++ [⟨1, ⟨#[119, 104, 101, 114, 101]⟩, 0⟩, ⟨4, ⟨#[105]⟩, 0⟩, ⟨5, ⟨#[60]⟩, 0⟩, ⟨2, ⟨#[]⟩, 3⟩, ⟨1, ⟨#[111, 114, 100, 101, 114]⟩, 0⟩, ⟨1, ⟨#[98, 121]⟩, 0⟩, ⟨4, ⟨#[105]⟩, 0⟩, ⟨1, ⟨#[114, 101, 116, 117, 114, 110]⟩, 0⟩, ⟨5, ⟨#[40]⟩, 0⟩, ⟨4, ⟨#[105]⟩, 0⟩, ⟨5, ⟨#[44]⟩, 0⟩, ⟨4, ⟨#[118]⟩, 0⟩, ⟨5, ⟨#[41]⟩, 0⟩, ⟨5, ⟨#[41]⟩, 0⟩]))) := by
 have hm : MdK (([40, 102, 111, 114, 32, 36, 118, 32, 97, 116, 32, 36, 105, 32, 105, 110, 32] ++ (s.data.toList ++ [32, 119, 104, 101, 114, 101, 32, 36, 105, 32, 60, 32, 51, 32, 111, 114, 100, 101, 114, 32, 98, 121, 32, 36, 105, 32, 114, 101, 116, 117, 114, 110, 32, 40, 36, 105, 44, 32, 36, 118, 41, 41]))) (([⟨5, ⟨#[40]⟩, 0⟩, ⟨1, ⟨#[102, 111, 114]⟩, 0⟩, ⟨4, ⟨#[118]⟩, 0⟩, ⟨1, ⟨#[97, 116]⟩, 0⟩, ⟨4, ⟨#[105]⟩, 0⟩, ⟨1, ⟨#[105, 110]⟩, 0⟩] ++ (Ks ++ [⟨1, ⟨#[119, 104, 101, 114, 101]⟩, 0⟩, ⟨4, ⟨#[105]⟩, 0⟩, ⟨5, ⟨#[60]⟩, 0⟩, ⟨2, ⟨#[]⟩, 3⟩, ⟨1, ⟨#[111, 114, 100, 101, 114]⟩, 0⟩, ⟨1, ⟨#[98, 121]⟩, 0⟩, ⟨4, ⟨#[105]⟩, 0⟩, ⟨1, ⟨#[114, 101, 116, 117, 114, 110]⟩, 0⟩, ⟨5, ⟨#[40]⟩, 0⟩, ⟨4, ⟨#[105]⟩, 0⟩, ⟨5, ⟨#[44]⟩, 0⟩, ⟨4, ⟨#[118]⟩, 0⟩, ⟨5, ⟨#[41]⟩, 0⟩, ⟨5, ⟨#[41]⟩, 0⟩]))) := (pk41.app (ms.app bg42 pk42)).mid
 rw [data_appQ, data_appQ, data_appQ, data_appQ]
 simpa using hm
theorem k_qu_ord1 {s : ByteArray} {Ks : List Tok} (ms : MdK s.data.toList Ks) : MdK (⟨#[40, 102, 111, 114, 32, 36, 118, 32, 97, 116, 32, 36, 105, 32, 105, 110, 32]⟩ ++ s ++ ⟨#[32, 119, 104, 101, 114, 101, 32, 36, 105, 32, 60, 32, 51, 32, 111, 114, 100, 101, 114, 32, 98, 121, 32, 36, 105]⟩ ++ ⟨#[32, 100, 101, 115, 99, 101, 110, 100, 105, 110, 103]⟩ ++ ⟨#[32, 114, 101, 116, 117, 114, 110, 32, 40, 36, 105, 44, 32, 36, 118, 41, 41]⟩ : ByteArray).data.toList (([⟨5, ⟨#[40]⟩, 0⟩, ⟨1, ⟨#[102, 111, 114]⟩, 0⟩, ⟨4, ⟨#[118]⟩, 0⟩, ⟨1, ⟨#[97, 116]⟩, 0⟩, ⟨4, ⟨#[105]⟩, 0⟩, ⟨1, ⟨#[105, 110]⟩, 0⟩] ++ (Ks ++ [⟨1, ⟨#[119, 104, 101, 114, 101]⟩, 0⟩, ⟨4, ⟨#[105]⟩, 0⟩, ⟨5, ⟨#[60]⟩, 0⟩, ⟨2, ⟨#[]⟩, 3⟩, ⟨1, ⟨#[111, 114, 100, 101, 114]⟩, 0⟩, ⟨1, ⟨#[98, 121]⟩, 0⟩, ⟨4, ⟨#[105]⟩, 0⟩, ⟨1, ⟨#[100, 101, 115, 99, 101, 110, 100, 105, 110, 103]⟩, 0⟩, ⟨1, ⟨#[114, 101, 116, 117, 114, 110]⟩, 0⟩, ⟨5, ⟨#[40]⟩, 0⟩, ⟨4, ⟨#[105]⟩, 0⟩, ⟨5, ⟨#[44]⟩, 0⟩, ⟨4, ⟨#[118]⟩, 0⟩, ⟨5, ⟨#[41]⟩, 0⟩, ⟨5, ⟨#[41]⟩, 0⟩]))) := by
 have hm : MdK (([40, 102, 111, 114, 32, 36, 118, 32, 97, 116, 32, 36, 105, 32, 105, 110, 32] ++ (s.data.toList ++ [32, 119, 104, 101, 114, 101, 32, 36, 105, 32, 60, 32, 51, 32, 111, 114, 100, 101, 114, 32, 98, 121, 32, 36, 105, 32, 100, 101, 115, 99, 101, 110, 100, 105, 110, 103, 32, 114, 101, 116, 117, 114, 110, 32, 40, 36, 105, 44, 32, 36, 118, 41, 41]))) (([⟨5, ⟨#[40]⟩, 0⟩, ⟨1, ⟨#[102, 111, 114]⟩, 0⟩, ⟨4, ⟨#[118]⟩, 0⟩, ⟨1, ⟨#[97, 116]⟩, 0⟩, ⟨4, ⟨#[105]⟩, 0⟩, ⟨1, ⟨#[105, 110]⟩, 0⟩] ++ (Ks ++ [⟨1, ⟨#[119, 104, 101, 114, 101]⟩, 0⟩, ⟨4, ⟨#[105]⟩, 0⟩, ⟨5, ⟨#[60]⟩, 0⟩, ⟨2, ⟨#[]⟩, 3⟩, ⟨1, ⟨#[111, 114, 100, 101, 114]⟩, 0⟩, ⟨1, ⟨#[98, 121]⟩, 0⟩, ⟨4, ⟨#[105]⟩, 0⟩, ⟨1, ⟨#[100, 101, 115, 99, 101, 110, 100, 105, 110, 103]⟩, 0⟩, ⟨1, ⟨#[114, 101, 116, 117, 114, 110]⟩, 0⟩, ⟨5, ⟨#[40]⟩, 0⟩, ⟨4, ⟨#[105]⟩, 0⟩, ⟨5, ⟨#[44]⟩, 0⟩, ⟨4, ⟨#[118]⟩, 0⟩, ⟨5, ⟨#[41]⟩, 0⟩, ⟨5, ⟨#[41]⟩, 0⟩]))) := (pk41.app (ms.app bg43 pk43)).mid
 rw [data_appQ, data_appQ, data_appQ, data_appQ]
 simpa using hm
theorem k_qu_let {s : ByteArray} {Ks : List Tok} (ms : MdK s.data.toList Ks) : MdK (⟨#[40, 108, 101, 116, 32, 36, 119, 32, 58, 61, 32]⟩ ++ s ++ ⟨#[32, 114, 101, 116, 117, 114, 110, 32, 40, 99, 111, 117, 110, 116, 40, 36, 119, 41, 44, 32, 36, 119, 41, 41]⟩ : ByteArray).data.toList (([⟨5, ⟨#[40]⟩, 0⟩, ⟨1, ⟨#[108, 101, 116]⟩, 0⟩, ⟨4, ⟨#[119]⟩, 0⟩, ⟨5, ⟨#[58, 61]⟩, 0⟩] ++ (Ks ++ [⟨1, ⟨#[114, 101, 116, 117, 114, 110]⟩, 0⟩, ⟨5, ⟨#[40]⟩, 0⟩, ⟨1, ⟨#[99, 111, 117, 110, 116]⟩, 0⟩, ⟨5, ⟨#[40]⟩, 0⟩, ⟨4, ⟨#[119]⟩, 0⟩, ⟨5, ⟨#[41]⟩, 0⟩, ⟨5, ⟨#[44]⟩, 0⟩, ⟨4, ⟨#[119]⟩, 0⟩, ⟨5, ⟨#[41]⟩, 0⟩, ⟨5, ⟨#[41]⟩, 0⟩]))) := by
 have hm : MdK (([40, 108, 101, 116, 32, 36, 119, 32, 58, 61, 32] ++ (s.data.toList ++ [32, 114, 101, 116, 117, 114, 110, 32, 40, 99, 111, 117, 110, 116, 40, 36, 119, 41, 44, 32, 36, 119, 41, 41]))) (([⟨5, ⟨#[40]⟩, 0⟩, ⟨1, ⟨#[108, 101, 116]⟩, 0⟩, ⟨4, ⟨#[119]⟩, 0⟩, ⟨5, ⟨#[58, 61]⟩, 0⟩] ++ (Ks ++ [⟨1, ⟨#[114, 101, 116, 117, 114, 110]⟩, 0⟩, ⟨5, ⟨#[40]⟩, 0⟩, ⟨1, ⟨#[99, 111, 117, 110, 116]⟩, 0⟩, ⟨5, ⟨#[40]⟩, 0⟩, ⟨4, ⟨#[119]⟩, 0⟩, ⟨5, ⟨#[41]⟩, 0⟩, ⟨5, ⟨#[44]⟩, 0⟩, ⟨4, ⟨#[119]⟩, 0⟩, ⟨5, ⟨#[41]⟩, 0⟩, ⟨5, ⟨#[41]⟩, 0⟩]))) := (pk44.app (ms.app bg45 pk45)).mid
 rw [data_appQ, data_appQ]
 simpa using hm
theorem k_qu_elem {s : ByteArray} {Ks : List Tok} {u : ByteArray} {Ku : List Tok} (ms : MdK s.data.toList Ks) (mu : MdK u.data.toList Ku) : MdK (⟨#[101, 108, 101, 109, 101, 110, 116, 32, 101, 32, 123, 32, 97, 116, 116, 114, 105, 98, 117, 116, 101, 32, 107, 32, 123, 32]⟩ ++ s ++ ⟨#[32, 125, 44, 32]⟩ ++ u ++ ⟨#[32, 125]⟩ : ByteArray).data.toList ((([⟨1, ⟨#[101, 108, 101, 109, 101, 110, 116]⟩, 0⟩, ⟨1, ⟨#[101]⟩, 0⟩, ⟨5, ⟨#[123]⟩, 0⟩, ⟨1, ⟨#[97, 116, 116, 114, 105, 98, 117, 116, 101]⟩, 0⟩, ⟨1, ⟨#[107]⟩, 0⟩, ⟨5, ⟨#[123]⟩, 0⟩] ++ (Ks ++ [⟨5, ⟨#[125]⟩, 0⟩, ⟨5, ⟨#[44]⟩, 0⟩])) ++ (Ku ++ [⟨5, ⟨#[125]⟩, 0⟩]))) := by
 have hm : MdK ((([101, 108, 101, 109, 101, 110, 116, 32, 101, 32, 123, 32, 97, 116, 116, 114, 105, 98, 117, 116, 101, 32, 107, 32, 123, 32] ++ (s.data.toList ++ [32, 125, 44, 32])) ++ (u.data.toList ++ [32, 125]))) ((([⟨1, ⟨#[101, 108, 101, 109, 101, 110, 116]⟩, 0⟩, ⟨1, ⟨#[101]⟩, 0⟩, ⟨5, ⟨#[123]⟩, 0⟩, ⟨1, ⟨#[97, 116, 116, 114, 105, 98, 117, 116, 101]⟩, 0⟩, ⟨1, ⟨#[107]⟩, 0⟩, ⟨5, ⟨#[123]⟩, 0⟩] ++ (Ks ++ [⟨5, ⟨#[125]⟩, 0⟩, ⟨5, ⟨#[44]⟩, 0⟩])) ++ (Ku ++ [⟨5, ⟨#[125]⟩, 0⟩]))) := ((pk46.app (ms.app bg47 pk47)).app (mu.app bg48 pk48)).mid
 rw [data_appQ, data_appQ, data_appQ, data_appQ]
 simpa using hm
theorem k_qu_fn0 {s : ByteArray} {Ks : List Tok} {i : Nat} (ms : MdK s.data.toList Ks) (hi : i < 20) : MdK (⟨#[114, 101, 118, 101, 114, 115, 101]⟩ ++ ⟨#[40, 40]⟩ ++ s ++ ⟨#[44, 32, 49, 32, 116, 111, 32]⟩ ++ ⟨(Lib.decDigits i).toArray⟩ ++ ⟨#[41, 41]⟩ : ByteArray).data.toList ((([⟨1, ⟨#[114, 101, 118, 101, 114, 115, 101]⟩, 0⟩, ⟨5, ⟨#[40]⟩, 0⟩, ⟨5, ⟨#[40]⟩, 0⟩] ++ (Ks ++ [⟨5, ⟨#[44]⟩, 0⟩, ⟨2, ⟨#[]⟩, 1⟩, ⟨1, ⟨#[116, 111]⟩, 0⟩])) ++ ([⟨2, ⟨#[]⟩, i⟩] ++ [⟨5, ⟨#[41]⟩, 0⟩, ⟨5, ⟨#[41]⟩, 0⟩]))) := by
 have hm : MdK ((([114, 101, 118, 101, 114, 115, 101, 40, 40] ++ (s.data.toList ++ [44, 32, 49, 32, 116, 111, 32])) ++ (Lib.decDigits i ++ [41, 41]))) ((([⟨1, ⟨#[114, 101, 118, 101, 114, 115, 101]⟩, 0⟩, ⟨5, ⟨#[40]⟩, 0⟩, ⟨5, ⟨#[40]⟩, 0⟩] ++ (Ks ++ [⟨5, ⟨#[44]⟩, 0⟩, ⟨2, ⟨#[]⟩, 1⟩, ⟨1, ⟨#[116, 111]⟩, 0⟩])) ++ ([⟨2, ⟨#[]⟩, i⟩] ++ [⟨5, ⟨#[41]⟩, 0⟩, ⟨5, ⟨#[41]⟩, 0⟩]))) := ((pk49.app (ms.app bg50 pk50)).app ((md_dec hi).app bg17 pk17)).mid
 rw [data_appQ, data_appQ, data_appQ, data_appQ, data_appQ]
 simpa using hm
theorem k_qu_fn1 {s : ByteArray} {Ks : List Tok} {i : Nat} (ms : MdK s.data.toList Ks) (hi : i < 20) : MdK (⟨#[100, 105, 115, 116, 105, 110, 99, 116, 45, 118, 97, 108, 117, 101, 115]⟩ ++ ⟨#[40, 40]⟩ ++ s ++ ⟨#[44, 32, 49, 32, 116, 111, 32]⟩ ++ ⟨(Lib.decDigits i).toArray⟩ ++ ⟨#[41, 41]⟩ : ByteArray).data.toList ((([⟨1, ⟨#[100, 105, 115, 116, 105, 110, 99, 116, 45, 118, 97, 108, 117, 101, 115]⟩, 0⟩, ⟨5, ⟨#[40]⟩, 0⟩, ⟨5, ⟨#[40]⟩, 0⟩] ++ (Ks ++ [⟨5, ⟨#[44]⟩, 0⟩, ⟨2, ⟨#[]⟩, 1⟩, ⟨1, ⟨#[116, 111]⟩, 0⟩])) ++ ([⟨2, ⟨#[]⟩, i⟩] ++ [⟨5, ⟨#[41]⟩, 0⟩, ⟨5, ⟨#[41]⟩, 0⟩]))) := by
 have hm : MdK ((([100, 105, 115, 116, 105, 110, 99, 116, 45, 118, 97, 108, 117, 101, 115, 40, 40] ++ (s.data.toList ++ [44, 32, 49, 32, 116, 111, 32])) ++ (Lib.decDigits i ++ [41, 41]))) ((([⟨1, ⟨#[100, 105, 115, 116, 105, 110, 99, 116, 45, 118, 97, 108, 117, 101, 115]⟩, 0⟩, ⟨5, ⟨#[40]⟩, 0⟩, ⟨5, ⟨#[40]⟩, 0⟩] ++ (Ks ++ [⟨5, ⟨#[44]⟩, 0⟩, ⟨2, ⟨#[]⟩, 1⟩, ⟨1, ⟨#[116, 111]⟩, 0⟩])) ++ ([⟨2, ⟨#[]⟩, i⟩] ++ [⟨5, ⟨#[41]⟩, 0⟩, ⟨5, ⟨#[41]⟩, 0⟩]))) := ((pk51.app (ms.app bg50 pk50)).app ((md_dec hi).app bg17 pk17)).mid
 rw [data_appQ, data_appQ, data_appQ, data_appQ, data_appQ]
 simpa using hm
theorem k_qu_fn2 {s : ByteArray} {Ks : List Tok} {i : Nat} (ms : MdK s.data.toList Ks) (hi : i < 20) : MdK (⟨#[100, 97, 116, 97]⟩ ++ ⟨#[40, 40]⟩ ++ s ++ ⟨#[44, 32, 49, 32, 116, 111, 32]⟩ ++ ⟨(Lib.decDigits i).toArray⟩ ++ ⟨#[41, 41]⟩ : ByteArray).data.toList ((([⟨1, ⟨#[100, 97, 116, 97]⟩, 0⟩, ⟨5, ⟨#[40]⟩, 0⟩, ⟨5, ⟨#[40]⟩, 0⟩] ++ (Ks ++ [⟨5, ⟨#[44]⟩, 0⟩, ⟨2, ⟨#[]⟩, 1⟩, ⟨1, ⟨#[116, 111]⟩, 0⟩])) ++ ([⟨2, ⟨#[]⟩, i⟩] ++ [⟨5, ⟨#[41]⟩, 0⟩, ⟨5, ⟨#[41]⟩, 0⟩]))) := by
 have hm : MdK ((([100, 97, 116, 97, 40, 40] ++ (s.data.toList ++ [44, 32, 49, 32, 116, 111, 32])) ++ (Lib.decDigits i ++ [41, 41]))) ((([⟨1, ⟨#[100, 97, 116, 97]⟩, 0⟩, ⟨5, ⟨#[40]⟩, 0⟩, ⟨5, ⟨#[40]⟩, 0⟩] ++ (Ks ++ [⟨5, ⟨#[44]⟩, 0⟩, ⟨2, ⟨#[]⟩, 1⟩, ⟨1, ⟨#[116, 111]⟩, 0⟩])) ++ ([⟨2, ⟨#[]⟩, i⟩] ++ [⟨5, ⟨#[41]⟩, 0⟩, ⟨5, ⟨#[41]⟩, 0⟩]))) := ((pk52.app (ms.app bg50 pk50)).app ((md_dec hi).app bg17 pk17)).mid
 rw [data_appQ, data_appQ, data_appQ, data_appQ, data_appQ]
 simpa using hm
theorem k_qu_text {s : ByteArray} {Ks : List Tok} (ms : MdK s.data.toList Ks) : MdK (⟨#[116, 101, 120, 116, 32, 123, 32]⟩ ++ s ++ ⟨#[32, 125, 47, 46, 46]⟩ : ByteArray).data.toList (([⟨1, ⟨#[116, 101, 120, 116]⟩, 0⟩, ⟨5, ⟨#[123]⟩, 0⟩] ++ (Ks ++ [⟨5, ⟨#[125]⟩, 0⟩, ⟨5, ⟨#[47]⟩, 0⟩, ⟨5, ⟨#[46, 46]⟩, 0⟩]))) := by
 have hm : MdK (([116, 101, 120, 116, 32, 123, 32] ++ (s.data.toList ++ [32, 125, 47, 46, 46]))) (([⟨1, ⟨#[116, 101, 120, 116]⟩, 0⟩, ⟨5, ⟨#[123]⟩, 0⟩] ++ (Ks ++ [⟨5, ⟨#[125]⟩, 0⟩, ⟨5, ⟨#[47]⟩, 0⟩, ⟨5, ⟨#[46, 46]⟩, 0⟩]))) := (pk53.app (ms.app bg54 pk54)).mid
 rw [data_appQ, data_appQ]
 simpa using hm
theorem k_no_filter {s : ByteArray} {Ks : List Tok} {u : ByteArray} {Ku : List Tok} (ms : MdK s.data.toList Ks) (mu : MdK u.data.toList Ku) : MdK (⟨#[40]⟩ ++ s ++ ⟨#[41, 91]⟩ ++ u ++ ⟨#[93]⟩ : ByteArray).data.toList ((([⟨5, ⟨#[40]⟩, 0⟩] ++ (Ks ++ [⟨5, ⟨#[41]⟩, 0⟩, ⟨5, ⟨#[91]⟩, 0⟩])) ++ (Ku ++ [⟨5, ⟨#[93]⟩, 0⟩]))) := by
 have hm : MdK ((([40] ++ (s.data.toList ++ [41, 91])) ++ (u.data.toList ++ [93]))) ((([⟨5, ⟨#[40]⟩, 0⟩] ++ (Ks ++ [⟨5, ⟨#[41]⟩, 0⟩, ⟨5, ⟨#[91]⟩, 0⟩])) ++ (Ku ++ [⟨5, ⟨#[93]⟩, 0⟩]))) := ((pk10.app (ms.app bg55 pk55)).app (mu.app bg56 pk56)).mid
 rw [data_appQ, data_appQ, data_appQ, data_appQ]
 simpa using hm
theorem k_no_op0 {s : ByteArray} {Ks : List Tok} (ms : MdK s.data.toList Ks) : MdK (⟨#[40]⟩ ++ s ++ ⟨#[32, 117, 110, 105, 111, 110, 32]⟩ ++ ⟨#[47, 47, 42, 41]⟩ : ByteArray).data.toList (([⟨5, ⟨#[40]⟩, 0⟩] ++ (Ks ++ [⟨1, ⟨#[117, 110, 105, 111, 110]⟩, 0⟩, ⟨5, ⟨#[47, 47]⟩, 0⟩, ⟨5, ⟨#[42]⟩, 0⟩, ⟨5, ⟨#[41]⟩, 0⟩]))) := by
 have hm : MdK (([40] ++ (s.data.toList ++ [32, 117, 110, 105, 111, 110, 32, 47, 47, 42, 41]))) (([⟨5, ⟨#[40]⟩, 0⟩] ++ (Ks ++ [⟨1, ⟨#[117, 110, 105, 111, 110]⟩, 0⟩, ⟨5, ⟨#[47, 47]⟩, 0⟩, ⟨5, ⟨#[42]⟩, 0⟩, ⟨5, ⟨#[41]⟩, 0⟩]))) := (pk10.app (ms.app bg57 pk57)).mid
 rw [data_appQ, data_appQ, data_appQ]
 simpa using hm
theorem k_no_op1 {s : ByteArray} {Ks : List Tok} (ms : MdK s.data.toList Ks) : MdK (⟨#[40]⟩ ++ s ++ ⟨#[32, 105, 110, 116, 101, 114, 115, 101, 99, 116, 32]⟩ ++ ⟨#[47, 47, 42, 41]⟩ : ByteArray).data.toList (([⟨5, ⟨#[40]⟩, 0⟩] ++ (Ks ++ [⟨1, ⟨#[105, 110, 116, 101, 114, 115, 101, 99, 116]⟩, 0⟩, ⟨5, ⟨#[47, 47]⟩, 0⟩, ⟨5, ⟨#[42]⟩, 0⟩, ⟨5, ⟨#[41]⟩, 0⟩]))) := by
 have hm : MdK (([40] ++ (s.data.toList ++ [32, 105, 110, 116, 101, 114, 115, 101, 99, 116, 32, 47, 47, 42, 41]))) (([⟨5, ⟨#[40]⟩, 0⟩] ++ (Ks ++ [⟨1, ⟨#[105, 110, 116, 101, 114, 115, 101, 99, 116]⟩, 0⟩, ⟨5, ⟨#[47, 47]⟩, 0⟩, ⟨5, ⟨#[42]⟩, 0⟩, ⟨5, ⟨#[41]⟩, 0⟩]))) := (pk10.app (ms.app bg58 pk58)).mid
 rw [data_appQ, data_appQ, data_appQ]
 simpa using hm
theorem k_no_op2 {s : ByteArray} {Ks : List Tok} (ms : MdK s.data.toList Ks) : MdK (⟨#[40]⟩ ++ s ++ ⟨#[32, 101, 120, 99, 101, 112, 116, 32]⟩ ++ ⟨#[47, 47, 42, 41]⟩ : ByteArray).data.toList (([⟨5, ⟨#[40]⟩, 0⟩] ++ (Ks ++ [⟨1, ⟨#[101, 120, 99, 101, 112, 116]⟩, 0⟩, ⟨5, ⟨#[47, 47]⟩, 0⟩, ⟨5, ⟨#[42]⟩, 0⟩, ⟨5, ⟨#[41]⟩, 0⟩]))) := by
 have hm : MdK (([40] ++ (s.data.toList ++ [32, 101, 120, 99, 101, 112, 116, 32, 47, 47, 42, 41]))) (([⟨5, ⟨#[40]⟩, 0⟩] ++ (Ks ++ [⟨1, ⟨#[101, 120, 99, 101, 112, 116]⟩, 0⟩, ⟨5, ⟨#[47, 47]⟩, 0⟩, ⟨5, ⟨#[42]⟩, 0⟩, ⟨5, ⟨#[41]⟩, 0⟩]))) := (pk10.app (ms.app bg59 pk59)).mid
 rw [data_appQ, data_appQ, data_appQ]
 simpa using hm
end Go.Proofs.YtbnlekhjgkojlaaGreatDoor
