import Derived.Test.YtmcmbdkpfcibkaaGreatDoorRlItemC
import Derived.Test.YtmcmbdkpfcibkaaGreatDoorPoOk
import Derived.Lib.ItoaNum
set_option linter.unusedVariables false
namespace Go.Proofs.YtmcmbdkpfcibkaaGreatDoor
set_option maxRecDepth 100000
open Go.RowKit
inductive PK where
 | pth | flt | nod | num | txt | tru | que
inductive Po:PK->Bool->Int->ByteArray->Prop
 | no_base {dt:Bool} {d:Int} {i:Nat} (hi:i<6):Po .pth dt d ⟨(baseL.getD i []).toArray⟩
 | no_step {dt:Bool} {d:Int} {s:ByteArray} {i j:Nat} (hs:Po .pth dt d s) (hj:j<2) (hi:i<18):Po .pth dt d (s ++ (⟨(sepL.getD j []).toArray⟩ ++ ⟨(stepL.getD i []).toArray⟩))
 | no_flt {dt:Bool} {d:Int} {s:ByteArray} (hs:Po .pth dt d s):Po .flt dt d s
 | no_nod {dt:Bool} {d:Int} {s:ByteArray} (hs:Po .flt dt d s):Po .nod dt d s
 | qu_q0 {dt:Bool} {d:Int} {i:Nat} (hi:i<5):Po .que dt d ⟨(q0L.getD i []).toArray⟩
 | tx_quoted {dt:Bool} {d:Int} {x:ByteArray} (hx:Let x.data.toList) (lx:x.size<=6):Po .txt dt d (⟨#[34]⟩ ++ x ++ ⟨#[34]⟩)
 | tx_concat {dt:Bool} {d:Int} {x:ByteArray} (hx:Let x.data.toList) (lx:x.size<=6):Po .txt dt d (⟨#[99,111,110,99,97,116,40,115,116,114,105,110,103,40,47,114,41,44,32,34]⟩ ++ x ++ ⟨#[34,41]⟩)
 | tx_name {d:Int}:Po .txt true d (⟨#[110,97,109,101,40,46,41]⟩)
 | tx_substr {dt:Bool} {d:Int} {x:ByteArray} {i:Nat} {j:Nat} (hx:Let x.data.toList) (lx:x.size<=6) (hi:i<20) (hj:j<20):Po .txt dt d (⟨#[115,117,98,115,116,114,105,110,103,40,34]⟩ ++ x ++ ⟨#[34,44,32]⟩ ++ ⟨(Lib.decDigits i).toArray⟩ ++ ⟨#[44,32]⟩ ++ ⟨(Lib.decDigits j).toArray⟩ ++ ⟨#[41]⟩)
 | tx_string {dt:Bool} {d:Int} {s:ByteArray} (hd:0<d) (hs:Po .num dt (d - 1) s):Po .txt dt d (⟨#[115,116,114,105,110,103,40]⟩ ++ s ++ ⟨#[41]⟩)
 | nu_dec {dt:Bool} {d:Int} {i:Nat} (hi:i<20):Po .num dt d (⟨(Lib.decDigits i).toArray⟩)
 | nu_count {dt:Bool} {d:Int} {s:ByteArray} (hs:Po .nod dt (d - 1) s):Po .num dt d (⟨#[99,111,117,110,116,40]⟩ ++ s ++ ⟨#[41]⟩)
 | nu_pos {d:Int}:Po .num true d (⟨#[112,111,115,105,116,105,111,110,40,41]⟩)
 | nu_last {d:Int}:Po .num true d (⟨#[108,97,115,116,40,41]⟩)
 | nu_len {dt:Bool} {d:Int} {x:ByteArray} (hx:Let x.data.toList) (lx:x.size<=6):Po .num dt d (⟨#[115,116,114,105,110,103,45,108,101,110,103,116,104,40,34]⟩ ++ x ++ ⟨#[34,41]⟩)
 | nu_op0 {dt:Bool} {d:Int} {s:ByteArray} {u:ByteArray} (hd:0<d) (hs:Po .num dt (d - 1) s) (hu:Po .num dt (d - 1) u):Po .num dt d (⟨#[40]⟩ ++ s ++ ⟨#[32,43,32]⟩ ++ u ++ ⟨#[41]⟩)
 | nu_op1 {dt:Bool} {d:Int} {s:ByteArray} {u:ByteArray} (hd:0<d) (hs:Po .num dt (d - 1) s) (hu:Po .num dt (d - 1) u):Po .num dt d (⟨#[40]⟩ ++ s ++ ⟨#[32,45,32]⟩ ++ u ++ ⟨#[41]⟩)
 | nu_op2 {dt:Bool} {d:Int} {s:ByteArray} {u:ByteArray} (hd:0<d) (hs:Po .num dt (d - 1) s) (hu:Po .num dt (d - 1) u):Po .num dt d (⟨#[40]⟩ ++ s ++ ⟨#[32,42,32]⟩ ++ u ++ ⟨#[41]⟩)
 | nu_op3 {dt:Bool} {d:Int} {s:ByteArray} {u:ByteArray} (hd:0<d) (hs:Po .num dt (d - 1) s) (hu:Po .num dt (d - 1) u):Po .num dt d (⟨#[40]⟩ ++ s ++ ⟨#[32,100,105,118,32]⟩ ++ u ++ ⟨#[41]⟩)
 | nu_op4 {dt:Bool} {d:Int} {s:ByteArray} {u:ByteArray} (hd:0<d) (hs:Po .num dt (d - 1) s) (hu:Po .num dt (d - 1) u):Po .num dt d (⟨#[40]⟩ ++ s ++ ⟨#[32,109,111,100,32]⟩ ++ u ++ ⟨#[41]⟩)
 | nu_m3 {dt:Bool} {d:Int}:Po .num dt d (⟨#[45,51]⟩)
 | nu_sum {dt:Bool} {d:Int} {i:Nat} {j:Nat} (hi:i<20) (hj:j<20):Po .num dt d (⟨#[115,117,109,40,40]⟩ ++ ⟨(Lib.decDigits i).toArray⟩ ++ ⟨#[44,32]⟩ ++ ⟨(Lib.decDigits j).toArray⟩ ++ ⟨#[41,41]⟩)
 | nu_slen {dt:Bool} {d:Int} {s:ByteArray} (hs:Po .txt dt (d - 1) s):Po .num dt d (⟨#[115,116,114,105,110,103,45,108,101,110,103,116,104,40]⟩ ++ s ++ ⟨#[41]⟩)
 | tr_true {dt:Bool} {d:Int}:Po .tru dt d (⟨#[116,114,117,101,40,41]⟩)
 | tr_false {dt:Bool} {d:Int}:Po .tru dt d (⟨#[102,97,108,115,101,40,41]⟩)
 | tr_ex {dt:Bool} {d:Int}:Po .tru dt d (⟨#[101,120,105,115,116,115,40,47,47,97,41]⟩)
 | tr_lt {dt:Bool} {d:Int}:Po .tru dt d (⟨#[49,32,60,32,50]⟩)
 | tr_eq {dt:Bool} {d:Int} {s:ByteArray} {u:ByteArray} (hd:0<d) (hs:Po .nod dt (d - 1) s) (hu:Po .txt dt (d - 1) u):Po .tru dt d (s ++ ⟨#[32,61,32]⟩ ++ u)
 | tr_op0 {dt:Bool} {d:Int} {s:ByteArray} {u:ByteArray} (hd:0<d) (hs:Po .num dt (d - 1) s) (hu:Po .num dt (d - 1) u):Po .tru dt d (s ++ ⟨#[32,60,32]⟩ ++ u)
 | tr_op1 {dt:Bool} {d:Int} {s:ByteArray} {u:ByteArray} (hd:0<d) (hs:Po .num dt (d - 1) s) (hu:Po .num dt (d - 1) u):Po .tru dt d (s ++ ⟨#[32,60,61,32]⟩ ++ u)
 | tr_op2 {dt:Bool} {d:Int} {s:ByteArray} {u:ByteArray} (hd:0<d) (hs:Po .num dt (d - 1) s) (hu:Po .num dt (d - 1) u):Po .tru dt d (s ++ ⟨#[32,62,32]⟩ ++ u)
 | tr_op3 {dt:Bool} {d:Int} {s:ByteArray} {u:ByteArray} (hd:0<d) (hs:Po .num dt (d - 1) s) (hu:Po .num dt (d - 1) u):Po .tru dt d (s ++ ⟨#[32,62,61,32]⟩ ++ u)
 | tr_op4 {dt:Bool} {d:Int} {s:ByteArray} {u:ByteArray} (hd:0<d) (hs:Po .num dt (d - 1) s) (hu:Po .num dt (d - 1) u):Po .tru dt d (s ++ ⟨#[32,33,61,32]⟩ ++ u)
 | tr_empty {dt:Bool} {d:Int} {s:ByteArray} (hd:0<d) (hs:Po .nod dt (d - 1) s):Po .tru dt d (⟨#[101,109,112,116,121,40]⟩ ++ s ++ ⟨#[41]⟩)
 | tr_not {dt:Bool} {d:Int} {s:ByteArray} {u:ByteArray} (hd:0<d) (hs:Po .tru dt (d - 1) s) (hu:Po .tru dt (d - 1) u):Po .tru dt d (⟨#[110,111,116,40]⟩ ++ s ++ ⟨#[41,32,97,110,100,32]⟩ ++ u)
 | tr_some {dt:Bool} {d:Int} {s:ByteArray} {i:Nat} (hd:0<d) (hs:Po .nod dt (d - 1) s) (hi:i<20):Po .tru dt d (⟨#[40,115,111,109,101,32,36,113,32,105,110,32]⟩ ++ s ++ ⟨#[32,115,97,116,105,115,102,105,101,115,32,36,113,32,61,32]⟩ ++ ⟨(Lib.decDigits i).toArray⟩ ++ ⟨#[41]⟩)
 | tr_cont {dt:Bool} {d:Int} {s:ByteArray} {x:ByteArray} {u:ByteArray} (hd:0<d) (hs:Po .txt dt (d - 1) s) (hx:Let x.data.toList) (lx:x.size<=6) (hu:Po .tru dt (d - 1) u):Po .tru dt d (⟨#[99,111,110,116,97,105,110,115,40]⟩ ++ s ++ ⟨#[44,32,34]⟩ ++ x ++ ⟨#[34,41,32,111,114,32]⟩ ++ u)
 | tr_every {dt:Bool} {d:Int} {s:ByteArray} (hd:0<d) (hs:Po .nod dt (d - 1) s):Po .tru dt d (⟨#[40,101,118,101,114,121,32,36,113,32,105,110,32]⟩ ++ s ++ ⟨#[32,115,97,116,105,115,102,105,101,115,32,101,120,105,115,116,115,40,36,113,47,46,46,41,41]⟩)
 | qu_nod {dt:Bool} {d:Int} {s:ByteArray} (hd:0<d) (hs:Po .nod dt (d - 1) s):Po .que dt d (s)
 | qu_num {dt:Bool} {d:Int} {s:ByteArray} (hd:0<d) (hs:Po .num dt (d - 1) s):Po .que dt d (s)
 | qu_txt {dt:Bool} {d:Int} {s:ByteArray} (hd:0<d) (hs:Po .txt dt (d - 1) s):Po .que dt d (s)
 | qu_tru {dt:Bool} {d:Int} {s:ByteArray} (hd:0<d) (hs:Po .tru dt (d - 1) s):Po .que dt d (s)
 | qu_seq {dt:Bool} {d:Int} {s:ByteArray} {u:ByteArray} (hd:0<d) (hs:Po .que dt (d - 1) s) (hu:Po .que dt (d - 1) u):Po .que dt d (⟨#[40]⟩ ++ s ++ ⟨#[44,32]⟩ ++ u ++ ⟨#[41]⟩)
 | qu_if {dt:Bool} {d:Int} {s:ByteArray} {u:ByteArray} {y:ByteArray} (hd:0<d) (hs:Po .tru dt (d - 1) s) (hu:Po .que dt (d - 1) u) (hy:Po .que dt (d - 1) y):Po .que dt d (⟨#[40,105,102,32,40]⟩ ++ s ++ ⟨#[41,32,116,104,101,110,32]⟩ ++ u ++ ⟨#[32,101,108,115,101,32]⟩ ++ y ++ ⟨#[41]⟩)
 | qu_for {dt:Bool} {d:Int} {s:ByteArray} {u:ByteArray} (hd:0<d) (hs:Po .nod dt (d - 1) s) (hu:Po .que dt (d - 1) u):Po .que dt d (⟨#[40,102,111,114,32,36,118,32,105,110,32]⟩ ++ s ++ ⟨#[32,114,101,116,117,114,110,32,40,36,118,44,32]⟩ ++ u ++ ⟨#[41,41]⟩)
 | qu_ord0 {dt:Bool} {d:Int} {s:ByteArray} (hd:0<d) (hs:Po .que dt (d - 1) s):Po .que dt d (⟨#[40,102,111,114,32,36,118,32,97,116,32,36,105,32,105,110,32]⟩ ++ s ++ ⟨#[32,119,104,101,114,101,32,36,105,32,60,32,51,32,111,114,100,101,114,32,98,121,32,36,105]⟩ ++ ⟨#[]⟩ ++ ⟨#[32,114,101,116,117,114,110,32,40,36,105,44,32,36,118,41,41]⟩)
 | qu_ord1 {dt:Bool} {d:Int} {s:ByteArray} (hd:0<d) (hs:Po .que dt (d - 1) s):Po .que dt d (⟨#[40,102,111,114,32,36,118,32,97,116,32,36,105,32,105,110,32]⟩ ++ s ++ ⟨#[32,119,104,101,114,101,32,36,105,32,60,32,51,32,111,114,100,101,114,32,98,121,32,36,105]⟩ ++ ⟨#[32,100,101,115,99,101,110,100,105,110,103]⟩ ++ ⟨#[32,114,101,116,117,114,110,32,40,36,105,44,32,36,118,41,41]⟩)
 | qu_let {dt:Bool} {d:Int} {s:ByteArray} (hd:0<d) (hs:Po .que dt (d - 1) s):Po .que dt d (⟨#[40,108,101,116,32,36,119,32,58,61,32]⟩ ++ s ++ ⟨#[32,114,101,116,117,114,110,32,40,99,111,117,110,116,40,36,119,41,44,32,36,119,41,41]⟩)
 | qu_elem {dt:Bool} {d:Int} {s:ByteArray} {u:ByteArray} (hd:0<d) (hs:Po .txt dt (d - 1) s) (hu:Po .que dt (d - 1) u):Po .que dt d (⟨#[101,108,101,109,101,110,116,32,101,32,123,32,97,116,116,114,105,98,117,116,101,32,107,32,123,32]⟩ ++ s ++ ⟨#[32,125,44,32]⟩ ++ u ++ ⟨#[32,125]⟩)
 | qu_fn0 {dt:Bool} {d:Int} {s:ByteArray} {i:Nat} (hd:0<d) (hs:Po .que dt (d - 1) s) (hi:i<20):Po .que dt d (⟨#[114,101,118,101,114,115,101]⟩ ++ ⟨#[40,40]⟩ ++ s ++ ⟨#[44,32,49,32,116,111,32]⟩ ++ ⟨(Lib.decDigits i).toArray⟩ ++ ⟨#[41,41]⟩)
 | qu_fn1 {dt:Bool} {d:Int} {s:ByteArray} {i:Nat} (hd:0<d) (hs:Po .que dt (d - 1) s) (hi:i<20):Po .que dt d (⟨#[100,105,115,116,105,110,99,116,45,118,97,108,117,101,115]⟩ ++ ⟨#[40,40]⟩ ++ s ++ ⟨#[44,32,49,32,116,111,32]⟩ ++ ⟨(Lib.decDigits i).toArray⟩ ++ ⟨#[41,41]⟩)
 | qu_fn2 {dt:Bool} {d:Int} {s:ByteArray} {i:Nat} (hd:0<d) (hs:Po .que dt (d - 1) s) (hi:i<20):Po .que dt d (⟨#[100,97,116,97]⟩ ++ ⟨#[40,40]⟩ ++ s ++ ⟨#[44,32,49,32,116,111,32]⟩ ++ ⟨(Lib.decDigits i).toArray⟩ ++ ⟨#[41,41]⟩)
 | qu_text {dt:Bool} {d:Int} {s:ByteArray} (hd:0<d) (hs:Po .que dt (d - 1) s):Po .que dt d (⟨#[116,101,120,116,32,123,32]⟩ ++ s ++ ⟨#[32,125,47,46,46]⟩)
 | no_filter {dt:Bool} {d:Int} {s:ByteArray} {u:ByteArray} (hd:0<d) (hs:Po .pth dt d s) (hu:Po .que true (d - 1) u):Po .flt dt d (⟨#[40]⟩ ++ s ++ ⟨#[41,91]⟩ ++ u ++ ⟨#[93]⟩)
 | no_op0 {dt:Bool} {d:Int} {s:ByteArray} (hs:Po .flt dt d s):Po .nod dt d (⟨#[40]⟩ ++ s ++ ⟨#[32,117,110,105,111,110,32]⟩ ++ ⟨#[47,47,42,41]⟩)
 | no_op1 {dt:Bool} {d:Int} {s:ByteArray} (hs:Po .flt dt d s):Po .nod dt d (⟨#[40]⟩ ++ s ++ ⟨#[32,105,110,116,101,114,115,101,99,116,32]⟩ ++ ⟨#[47,47,42,41]⟩)
 | no_op2 {dt:Bool} {d:Int} {s:ByteArray} (hs:Po .flt dt d s):Po .nod dt d (⟨#[40]⟩ ++ s ++ ⟨#[32,101,120,99,101,112,116,32]⟩ ++ ⟨#[47,47,42,41]⟩)
 | no_dot {d:Int}:Po .pth true d (⟨#[46]⟩)
def TextP (k:PK) (dt:Bool) (d:Int) (s:ByteArray) (n:Nat):Prop:=Po k dt d s/\True/\s.size<=n
theorem TextP.more {k:PK} {dt:Bool} {d:Int} {s:ByteArray} {n m:Nat} (h:TextP k dt d s n) (hn:n<=m):TextP k dt d s m:=⟨h.1,h.2.1,Nat.le_trans h.2.2 hn⟩
theorem dec_num {i:Nat} (hi:i<20):Lib.decDigits i=numL.getD i []:=by
 have h:i=0\/i=1\/i=2\/i=3\/i=4\/i=5\/i=6\/i=7\/i=8\/i=9\/i=10\/i=11\/i=12\/i=13\/i=14\/i=15\/i=16\/i=17\/i=18\/i=19:=by omega
 have h1:Lib.decDigits 1=[49]:=by rw [Lib.decDigits];decide
 have h0:Lib.decDigits 0=[48]:=by rw [Lib.decDigits];decide
 by_cases h9:i<10
 · rw [Lib.decDigits,dif_pos h9]
   rcases h with rfl | rfl | rfl | rfl | rfl | rfl | rfl | rfl | rfl | rfl | rfl | rfl | rfl | rfl | rfl | rfl | rfl | rfl | rfl | rfl <;> first | rfl | (exact absurd h9 (by decide))
 · rw [Lib.decDigits,dif_neg h9]
   rcases h with rfl | rfl | rfl | rfl | rfl | rfl | rfl | rfl | rfl | rfl | rfl | rfl | rfl | rfl | rfl | rfl | rfl | rfl | rfl | rfl <;> first | (exact absurd (by decide) h9) | (rw [show Lib.decDigits _=[49] from h1];rfl)
theorem dec_len {i:Nat} (hi:i<20):(⟨(Lib.decDigits i).toArray⟩:ByteArray).size<=2:=by
 show (Lib.decDigits i).length<=2
 rw [dec_num hi]
 have:∀ i:Fin 20,(numL.getD i []).length<=2:=by decide
 exact this ⟨i,hi⟩
theorem tx_quoted {dt:Bool} {d:Int} {x:ByteArray} (hx:Let x.data.toList) (lx:x.size<=6):TextP .txt dt d (⟨#[34]⟩ ++ x ++ ⟨#[34]⟩) (8):=by
 refine ⟨Po.tx_quoted (hx:=hx) (lx:=lx),trivial,?_⟩
 rw [ByteArray.size_append,ByteArray.size_append]
 have e0:(⟨#[34]⟩:ByteArray).size=1:=rfl
 omega
theorem tx_concat {dt:Bool} {d:Int} {x:ByteArray} (hx:Let x.data.toList) (lx:x.size<=6):TextP .txt dt d (⟨#[99,111,110,99,97,116,40,115,116,114,105,110,103,40,47,114,41,44,32,34]⟩ ++ x ++ ⟨#[34,41]⟩) (40):=by
 refine ⟨Po.tx_concat (hx:=hx) (lx:=lx),trivial,?_⟩
 rw [ByteArray.size_append,ByteArray.size_append]
 have e0:(⟨#[34,41]⟩:ByteArray).size=2:=rfl
 have e1:(⟨#[99,111,110,99,97,116,40,115,116,114,105,110,103,40,47,114,41,44,32,34]⟩:ByteArray).size=20:=rfl
 omega
theorem tx_name {d:Int}:TextP .txt true d (⟨#[110,97,109,101,40,46,41]⟩) (7):=by
 refine ⟨Po.tx_name,trivial,?_⟩
 have e0:(⟨#[110,97,109,101,40,46,41]⟩:ByteArray).size=7:=rfl
 omega
theorem tx_substr {dt:Bool} {d:Int} {x:ByteArray} {i:Nat} {j:Nat} (hx:Let x.data.toList) (lx:x.size<=6) (hi:i<20) (hj:j<20):TextP .txt dt d (⟨#[115,117,98,115,116,114,105,110,103,40,34]⟩ ++ x ++ ⟨#[34,44,32]⟩ ++ ⟨(Lib.decDigits i).toArray⟩ ++ ⟨#[44,32]⟩ ++ ⟨(Lib.decDigits j).toArray⟩ ++ ⟨#[41]⟩) (40):=by
 refine ⟨Po.tx_substr (hx:=hx) (hi:=hi) (hj:=hj) (lx:=lx),trivial,?_⟩
 rw [ByteArray.size_append,ByteArray.size_append,ByteArray.size_append,ByteArray.size_append,ByteArray.size_append,ByteArray.size_append]
 have e0:(⟨#[34,44,32]⟩:ByteArray).size=3:=rfl
 have e1:(⟨#[41]⟩:ByteArray).size=1:=rfl
 have e2:(⟨#[44,32]⟩:ByteArray).size=2:=rfl
 have e3:(⟨#[115,117,98,115,116,114,105,110,103,40,34]⟩:ByteArray).size=11:=rfl
 have ki:=dec_len hi
 have kj:=dec_len hj
 omega
theorem tx_string {dt:Bool} {d:Int} {s:ByteArray} {n:Nat} (hs:TextP .num dt (d - 1) s n) (hd:0<d:=by omega):TextP .txt dt d (⟨#[115,116,114,105,110,103,40]⟩ ++ s ++ ⟨#[41]⟩) (n + 8):=by
 refine ⟨Po.tx_string (hd:=hd) (hs:=hs.1),trivial,?_⟩
 rw [ByteArray.size_append,ByteArray.size_append]
 have e0:(⟨#[41]⟩:ByteArray).size=1:=rfl
 have e1:(⟨#[115,116,114,105,110,103,40]⟩:ByteArray).size=7:=rfl
 have ks:=hs.2.2
 omega
theorem nu_dec {dt:Bool} {d:Int} {i:Nat} (hi:i<20):TextP .num dt d (⟨(Lib.decDigits i).toArray⟩) (2):=by
 refine ⟨Po.nu_dec (hi:=hi),trivial,?_⟩
 have ki:=dec_len hi
 omega
theorem nu_count {dt:Bool} {d:Int} {s:ByteArray} {n:Nat} (hs:TextP .nod dt (d - 1) s n):TextP .num dt d (⟨#[99,111,117,110,116,40]⟩ ++ s ++ ⟨#[41]⟩) (n + 7):=by
 refine ⟨Po.nu_count (hs:=hs.1),trivial,?_⟩
 rw [ByteArray.size_append,ByteArray.size_append]
 have e0:(⟨#[41]⟩:ByteArray).size=1:=rfl
 have e1:(⟨#[99,111,117,110,116,40]⟩:ByteArray).size=6:=rfl
 have ks:=hs.2.2
 omega
theorem nu_pos {d:Int}:TextP .num true d (⟨#[112,111,115,105,116,105,111,110,40,41]⟩) (10):=by
 refine ⟨Po.nu_pos,trivial,?_⟩
 have e0:(⟨#[112,111,115,105,116,105,111,110,40,41]⟩:ByteArray).size=10:=rfl
 omega
theorem nu_last {d:Int}:TextP .num true d (⟨#[108,97,115,116,40,41]⟩) (6):=by
 refine ⟨Po.nu_last,trivial,?_⟩
 have e0:(⟨#[108,97,115,116,40,41]⟩:ByteArray).size=6:=rfl
 omega
theorem nu_len {dt:Bool} {d:Int} {x:ByteArray} (hx:Let x.data.toList) (lx:x.size<=6):TextP .num dt d (⟨#[115,116,114,105,110,103,45,108,101,110,103,116,104,40,34]⟩ ++ x ++ ⟨#[34,41]⟩) (40):=by
 refine ⟨Po.nu_len (hx:=hx) (lx:=lx),trivial,?_⟩
 rw [ByteArray.size_append,ByteArray.size_append]
 have e0:(⟨#[34,41]⟩:ByteArray).size=2:=rfl
 have e1:(⟨#[115,116,114,105,110,103,45,108,101,110,103,116,104,40,34]⟩:ByteArray).size=15:=rfl
 omega
theorem nu_op0 {dt:Bool} {d:Int} {s:ByteArray} {u:ByteArray} {n:Nat} (hs:TextP .num dt (d - 1) s n) (hu:TextP .num dt (d - 1) u n) (hd:0<d:=by omega):TextP .num dt d (⟨#[40]⟩ ++ s ++ ⟨#[32,43,32]⟩ ++ u ++ ⟨#[41]⟩) (n + n + 7):=by
 refine ⟨Po.nu_op0 (hd:=hd) (hs:=hs.1) (hu:=hu.1),trivial,?_⟩
 rw [ByteArray.size_append,ByteArray.size_append,ByteArray.size_append,ByteArray.size_append]
 have e0:(⟨#[32,43,32]⟩:ByteArray).size=3:=rfl
 have e1:(⟨#[40]⟩:ByteArray).size=1:=rfl
 have e2:(⟨#[41]⟩:ByteArray).size=1:=rfl
 have ks:=hs.2.2
 have ku:=hu.2.2
 omega
theorem nu_op1 {dt:Bool} {d:Int} {s:ByteArray} {u:ByteArray} {n:Nat} (hs:TextP .num dt (d - 1) s n) (hu:TextP .num dt (d - 1) u n) (hd:0<d:=by omega):TextP .num dt d (⟨#[40]⟩ ++ s ++ ⟨#[32,45,32]⟩ ++ u ++ ⟨#[41]⟩) (n + n + 7):=by
 refine ⟨Po.nu_op1 (hd:=hd) (hs:=hs.1) (hu:=hu.1),trivial,?_⟩
 rw [ByteArray.size_append,ByteArray.size_append,ByteArray.size_append,ByteArray.size_append]
 have e0:(⟨#[32,45,32]⟩:ByteArray).size=3:=rfl
 have e1:(⟨#[40]⟩:ByteArray).size=1:=rfl
 have e2:(⟨#[41]⟩:ByteArray).size=1:=rfl
 have ks:=hs.2.2
 have ku:=hu.2.2
 omega
theorem nu_op2 {dt:Bool} {d:Int} {s:ByteArray} {u:ByteArray} {n:Nat} (hs:TextP .num dt (d - 1) s n) (hu:TextP .num dt (d - 1) u n) (hd:0<d:=by omega):TextP .num dt d (⟨#[40]⟩ ++ s ++ ⟨#[32,42,32]⟩ ++ u ++ ⟨#[41]⟩) (n + n + 7):=by
 refine ⟨Po.nu_op2 (hd:=hd) (hs:=hs.1) (hu:=hu.1),trivial,?_⟩
 rw [ByteArray.size_append,ByteArray.size_append,ByteArray.size_append,ByteArray.size_append]
 have e0:(⟨#[32,42,32]⟩:ByteArray).size=3:=rfl
 have e1:(⟨#[40]⟩:ByteArray).size=1:=rfl
 have e2:(⟨#[41]⟩:ByteArray).size=1:=rfl
 have ks:=hs.2.2
 have ku:=hu.2.2
 omega
theorem nu_op3 {dt:Bool} {d:Int} {s:ByteArray} {u:ByteArray} {n:Nat} (hs:TextP .num dt (d - 1) s n) (hu:TextP .num dt (d - 1) u n) (hd:0<d:=by omega):TextP .num dt d (⟨#[40]⟩ ++ s ++ ⟨#[32,100,105,118,32]⟩ ++ u ++ ⟨#[41]⟩) (n + n + 7):=by
 refine ⟨Po.nu_op3 (hd:=hd) (hs:=hs.1) (hu:=hu.1),trivial,?_⟩
 rw [ByteArray.size_append,ByteArray.size_append,ByteArray.size_append,ByteArray.size_append]
 have e0:(⟨#[32,100,105,118,32]⟩:ByteArray).size=5:=rfl
 have e1:(⟨#[40]⟩:ByteArray).size=1:=rfl
 have e2:(⟨#[41]⟩:ByteArray).size=1:=rfl
 have ks:=hs.2.2
 have ku:=hu.2.2
 omega
theorem nu_op4 {dt:Bool} {d:Int} {s:ByteArray} {u:ByteArray} {n:Nat} (hs:TextP .num dt (d - 1) s n) (hu:TextP .num dt (d - 1) u n) (hd:0<d:=by omega):TextP .num dt d (⟨#[40]⟩ ++ s ++ ⟨#[32,109,111,100,32]⟩ ++ u ++ ⟨#[41]⟩) (n + n + 7):=by
 refine ⟨Po.nu_op4 (hd:=hd) (hs:=hs.1) (hu:=hu.1),trivial,?_⟩
 rw [ByteArray.size_append,ByteArray.size_append,ByteArray.size_append,ByteArray.size_append]
 have e0:(⟨#[32,109,111,100,32]⟩:ByteArray).size=5:=rfl
 have e1:(⟨#[40]⟩:ByteArray).size=1:=rfl
 have e2:(⟨#[41]⟩:ByteArray).size=1:=rfl
 have ks:=hs.2.2
 have ku:=hu.2.2
 omega
theorem nu_m3 {dt:Bool} {d:Int}:TextP .num dt d (⟨#[45,51]⟩) (2):=by
 refine ⟨Po.nu_m3,trivial,?_⟩
 have e0:(⟨#[45,51]⟩:ByteArray).size=2:=rfl
 omega
theorem nu_sum {dt:Bool} {d:Int} {i:Nat} {j:Nat} (hi:i<20) (hj:j<20):TextP .num dt d (⟨#[115,117,109,40,40]⟩ ++ ⟨(Lib.decDigits i).toArray⟩ ++ ⟨#[44,32]⟩ ++ ⟨(Lib.decDigits j).toArray⟩ ++ ⟨#[41,41]⟩) (40):=by
 refine ⟨Po.nu_sum (hi:=hi) (hj:=hj),trivial,?_⟩
 rw [ByteArray.size_append,ByteArray.size_append,ByteArray.size_append,ByteArray.size_append]
 have e0:(⟨#[41,41]⟩:ByteArray).size=2:=rfl
 have e1:(⟨#[44,32]⟩:ByteArray).size=2:=rfl
 have e2:(⟨#[115,117,109,40,40]⟩:ByteArray).size=5:=rfl
 have ki:=dec_len hi
 have kj:=dec_len hj
 omega
theorem nu_slen {dt:Bool} {d:Int} {s:ByteArray} {n:Nat} (hs:TextP .txt dt (d - 1) s n):TextP .num dt d (⟨#[115,116,114,105,110,103,45,108,101,110,103,116,104,40]⟩ ++ s ++ ⟨#[41]⟩) (n + 15):=by
 refine ⟨Po.nu_slen (hs:=hs.1),trivial,?_⟩
 rw [ByteArray.size_append,ByteArray.size_append]
 have e0:(⟨#[41]⟩:ByteArray).size=1:=rfl
 have e1:(⟨#[115,116,114,105,110,103,45,108,101,110,103,116,104,40]⟩:ByteArray).size=14:=rfl
 have ks:=hs.2.2
 omega
theorem tr_true {dt:Bool} {d:Int}:TextP .tru dt d (⟨#[116,114,117,101,40,41]⟩) (6):=by
 refine ⟨Po.tr_true,trivial,?_⟩
 have e0:(⟨#[116,114,117,101,40,41]⟩:ByteArray).size=6:=rfl
 omega
theorem tr_false {dt:Bool} {d:Int}:TextP .tru dt d (⟨#[102,97,108,115,101,40,41]⟩) (7):=by
 refine ⟨Po.tr_false,trivial,?_⟩
 have e0:(⟨#[102,97,108,115,101,40,41]⟩:ByteArray).size=7:=rfl
 omega
theorem tr_ex {dt:Bool} {d:Int}:TextP .tru dt d (⟨#[101,120,105,115,116,115,40,47,47,97,41]⟩) (11):=by
 refine ⟨Po.tr_ex,trivial,?_⟩
 have e0:(⟨#[101,120,105,115,116,115,40,47,47,97,41]⟩:ByteArray).size=11:=rfl
 omega
theorem tr_lt {dt:Bool} {d:Int}:TextP .tru dt d (⟨#[49,32,60,32,50]⟩) (5):=by
 refine ⟨Po.tr_lt,trivial,?_⟩
 have e0:(⟨#[49,32,60,32,50]⟩:ByteArray).size=5:=rfl
 omega
theorem tr_eq {dt:Bool} {d:Int} {s:ByteArray} {u:ByteArray} {n:Nat} (hs:TextP .nod dt (d - 1) s n) (hu:TextP .txt dt (d - 1) u n) (hd:0<d:=by omega):TextP .tru dt d (s ++ ⟨#[32,61,32]⟩ ++ u) (n + n + 3):=by
 refine ⟨Po.tr_eq (hd:=hd) (hs:=hs.1) (hu:=hu.1),trivial,?_⟩
 rw [ByteArray.size_append,ByteArray.size_append]
 have e0:(⟨#[32,61,32]⟩:ByteArray).size=3:=rfl
 have ks:=hs.2.2
 have ku:=hu.2.2
 omega
theorem tr_op0 {dt:Bool} {d:Int} {s:ByteArray} {u:ByteArray} {n:Nat} (hs:TextP .num dt (d - 1) s n) (hu:TextP .num dt (d - 1) u n) (hd:0<d:=by omega):TextP .tru dt d (s ++ ⟨#[32,60,32]⟩ ++ u) (n + n + 3):=by
 refine ⟨Po.tr_op0 (hd:=hd) (hs:=hs.1) (hu:=hu.1),trivial,?_⟩
 rw [ByteArray.size_append,ByteArray.size_append]
 have e0:(⟨#[32,60,32]⟩:ByteArray).size=3:=rfl
 have ks:=hs.2.2
 have ku:=hu.2.2
 omega
theorem tr_op1 {dt:Bool} {d:Int} {s:ByteArray} {u:ByteArray} {n:Nat} (hs:TextP .num dt (d - 1) s n) (hu:TextP .num dt (d - 1) u n) (hd:0<d:=by omega):TextP .tru dt d (s ++ ⟨#[32,60,61,32]⟩ ++ u) (n + n + 4):=by
 refine ⟨Po.tr_op1 (hd:=hd) (hs:=hs.1) (hu:=hu.1),trivial,?_⟩
 rw [ByteArray.size_append,ByteArray.size_append]
 have e0:(⟨#[32,60,61,32]⟩:ByteArray).size=4:=rfl
 have ks:=hs.2.2
 have ku:=hu.2.2
 omega
theorem tr_op2 {dt:Bool} {d:Int} {s:ByteArray} {u:ByteArray} {n:Nat} (hs:TextP .num dt (d - 1) s n) (hu:TextP .num dt (d - 1) u n) (hd:0<d:=by omega):TextP .tru dt d (s ++ ⟨#[32,62,32]⟩ ++ u) (n + n + 3):=by
 refine ⟨Po.tr_op2 (hd:=hd) (hs:=hs.1) (hu:=hu.1),trivial,?_⟩
 rw [ByteArray.size_append,ByteArray.size_append]
 have e0:(⟨#[32,62,32]⟩:ByteArray).size=3:=rfl
 have ks:=hs.2.2
 have ku:=hu.2.2
 omega
theorem tr_op3 {dt:Bool} {d:Int} {s:ByteArray} {u:ByteArray} {n:Nat} (hs:TextP .num dt (d - 1) s n) (hu:TextP .num dt (d - 1) u n) (hd:0<d:=by omega):TextP .tru dt d (s ++ ⟨#[32,62,61,32]⟩ ++ u) (n + n + 4):=by
 refine ⟨Po.tr_op3 (hd:=hd) (hs:=hs.1) (hu:=hu.1),trivial,?_⟩
 rw [ByteArray.size_append,ByteArray.size_append]
 have e0:(⟨#[32,62,61,32]⟩:ByteArray).size=4:=rfl
 have ks:=hs.2.2
 have ku:=hu.2.2
 omega
theorem tr_op4 {dt:Bool} {d:Int} {s:ByteArray} {u:ByteArray} {n:Nat} (hs:TextP .num dt (d - 1) s n) (hu:TextP .num dt (d - 1) u n) (hd:0<d:=by omega):TextP .tru dt d (s ++ ⟨#[32,33,61,32]⟩ ++ u) (n + n + 4):=by
 refine ⟨Po.tr_op4 (hd:=hd) (hs:=hs.1) (hu:=hu.1),trivial,?_⟩
 rw [ByteArray.size_append,ByteArray.size_append]
 have e0:(⟨#[32,33,61,32]⟩:ByteArray).size=4:=rfl
 have ks:=hs.2.2
 have ku:=hu.2.2
 omega
theorem tr_empty {dt:Bool} {d:Int} {s:ByteArray} {n:Nat} (hs:TextP .nod dt (d - 1) s n) (hd:0<d:=by omega):TextP .tru dt d (⟨#[101,109,112,116,121,40]⟩ ++ s ++ ⟨#[41]⟩) (n + 7):=by
 refine ⟨Po.tr_empty (hd:=hd) (hs:=hs.1),trivial,?_⟩
 rw [ByteArray.size_append,ByteArray.size_append]
 have e0:(⟨#[41]⟩:ByteArray).size=1:=rfl
 have e1:(⟨#[101,109,112,116,121,40]⟩:ByteArray).size=6:=rfl
 have ks:=hs.2.2
 omega
theorem tr_not {dt:Bool} {d:Int} {s:ByteArray} {u:ByteArray} {n:Nat} (hs:TextP .tru dt (d - 1) s n) (hu:TextP .tru dt (d - 1) u n) (hd:0<d:=by omega):TextP .tru dt d (⟨#[110,111,116,40]⟩ ++ s ++ ⟨#[41,32,97,110,100,32]⟩ ++ u) (n + n + 10):=by
 refine ⟨Po.tr_not (hd:=hd) (hs:=hs.1) (hu:=hu.1),trivial,?_⟩
 rw [ByteArray.size_append,ByteArray.size_append,ByteArray.size_append]
 have e0:(⟨#[41,32,97,110,100,32]⟩:ByteArray).size=6:=rfl
 have e1:(⟨#[110,111,116,40]⟩:ByteArray).size=4:=rfl
 have ks:=hs.2.2
 have ku:=hu.2.2
 omega
theorem tr_some {dt:Bool} {d:Int} {s:ByteArray} {i:Nat} {n:Nat} (hs:TextP .nod dt (d - 1) s n) (hi:i<20) (hd:0<d:=by omega):TextP .tru dt d (⟨#[40,115,111,109,101,32,36,113,32,105,110,32]⟩ ++ s ++ ⟨#[32,115,97,116,105,115,102,105,101,115,32,36,113,32,61,32]⟩ ++ ⟨(Lib.decDigits i).toArray⟩ ++ ⟨#[41]⟩) (n + 31):=by
 refine ⟨Po.tr_some (hd:=hd) (hs:=hs.1) (hi:=hi),trivial,?_⟩
 rw [ByteArray.size_append,ByteArray.size_append,ByteArray.size_append,ByteArray.size_append]
 have e0:(⟨#[32,115,97,116,105,115,102,105,101,115,32,36,113,32,61,32]⟩:ByteArray).size=16:=rfl
 have e1:(⟨#[40,115,111,109,101,32,36,113,32,105,110,32]⟩:ByteArray).size=12:=rfl
 have e2:(⟨#[41]⟩:ByteArray).size=1:=rfl
 have ks:=hs.2.2
 have ki:=dec_len hi
 omega
theorem tr_cont {dt:Bool} {d:Int} {s:ByteArray} {u:ByteArray} {x:ByteArray} {n:Nat} (hs:TextP .txt dt (d - 1) s n) (hu:TextP .tru dt (d - 1) u n) (hx:Let x.data.toList) (lx:x.size<=6) (hd:0<d:=by omega):TextP .tru dt d (⟨#[99,111,110,116,97,105,110,115,40]⟩ ++ s ++ ⟨#[44,32,34]⟩ ++ x ++ ⟨#[34,41,32,111,114,32]⟩ ++ u) (n + n + 24):=by
 refine ⟨Po.tr_cont (hd:=hd) (hs:=hs.1) (hx:=hx) (hu:=hu.1) (lx:=lx),trivial,?_⟩
 rw [ByteArray.size_append,ByteArray.size_append,ByteArray.size_append,ByteArray.size_append,ByteArray.size_append]
 have e0:(⟨#[34,41,32,111,114,32]⟩:ByteArray).size=6:=rfl
 have e1:(⟨#[44,32,34]⟩:ByteArray).size=3:=rfl
 have e2:(⟨#[99,111,110,116,97,105,110,115,40]⟩:ByteArray).size=9:=rfl
 have ks:=hs.2.2
 have ku:=hu.2.2
 omega
theorem tr_every {dt:Bool} {d:Int} {s:ByteArray} {n:Nat} (hs:TextP .nod dt (d - 1) s n) (hd:0<d:=by omega):TextP .tru dt d (⟨#[40,101,118,101,114,121,32,36,113,32,105,110,32]⟩ ++ s ++ ⟨#[32,115,97,116,105,115,102,105,101,115,32,101,120,105,115,116,115,40,36,113,47,46,46,41,41]⟩) (n + 38):=by
 refine ⟨Po.tr_every (hd:=hd) (hs:=hs.1),trivial,?_⟩
 rw [ByteArray.size_append,ByteArray.size_append]
 have e0:(⟨#[32,115,97,116,105,115,102,105,101,115,32,101,120,105,115,116,115,40,36,113,47,46,46,41,41]⟩:ByteArray).size=25:=rfl
 have e1:(⟨#[40,101,118,101,114,121,32,36,113,32,105,110,32]⟩:ByteArray).size=13:=rfl
 have ks:=hs.2.2
 omega
theorem qu_seq {dt:Bool} {d:Int} {s:ByteArray} {u:ByteArray} {n:Nat} (hs:TextP .que dt (d - 1) s n) (hu:TextP .que dt (d - 1) u n) (hd:0<d:=by omega):TextP .que dt d (⟨#[40]⟩ ++ s ++ ⟨#[44,32]⟩ ++ u ++ ⟨#[41]⟩) (n + n + 4):=by
 refine ⟨Po.qu_seq (hd:=hd) (hs:=hs.1) (hu:=hu.1),trivial,?_⟩
 rw [ByteArray.size_append,ByteArray.size_append,ByteArray.size_append,ByteArray.size_append]
 have e0:(⟨#[40]⟩:ByteArray).size=1:=rfl
 have e1:(⟨#[41]⟩:ByteArray).size=1:=rfl
 have e2:(⟨#[44,32]⟩:ByteArray).size=2:=rfl
 have ks:=hs.2.2
 have ku:=hu.2.2
 omega
theorem qu_if {dt:Bool} {d:Int} {s:ByteArray} {u:ByteArray} {y:ByteArray} {n:Nat} (hs:TextP .tru dt (d - 1) s n) (hu:TextP .que dt (d - 1) u n) (hy:TextP .que dt (d - 1) y n) (hd:0<d:=by omega):TextP .que dt d (⟨#[40,105,102,32,40]⟩ ++ s ++ ⟨#[41,32,116,104,101,110,32]⟩ ++ u ++ ⟨#[32,101,108,115,101,32]⟩ ++ y ++ ⟨#[41]⟩) (n + n + n + 19):=by
 refine ⟨Po.qu_if (hd:=hd) (hs:=hs.1) (hu:=hu.1) (hy:=hy.1),trivial,?_⟩
 rw [ByteArray.size_append,ByteArray.size_append,ByteArray.size_append,ByteArray.size_append,ByteArray.size_append,ByteArray.size_append]
 have e0:(⟨#[32,101,108,115,101,32]⟩:ByteArray).size=6:=rfl
 have e1:(⟨#[40,105,102,32,40]⟩:ByteArray).size=5:=rfl
 have e2:(⟨#[41]⟩:ByteArray).size=1:=rfl
 have e3:(⟨#[41,32,116,104,101,110,32]⟩:ByteArray).size=7:=rfl
 have ks:=hs.2.2
 have ku:=hu.2.2
 have ky:=hy.2.2
 omega
theorem qu_for {dt:Bool} {d:Int} {s:ByteArray} {u:ByteArray} {n:Nat} (hs:TextP .nod dt (d - 1) s n) (hu:TextP .que dt (d - 1) u n) (hd:0<d:=by omega):TextP .que dt d (⟨#[40,102,111,114,32,36,118,32,105,110,32]⟩ ++ s ++ ⟨#[32,114,101,116,117,114,110,32,40,36,118,44,32]⟩ ++ u ++ ⟨#[41,41]⟩) (n + n + 26):=by
 refine ⟨Po.qu_for (hd:=hd) (hs:=hs.1) (hu:=hu.1),trivial,?_⟩
 rw [ByteArray.size_append,ByteArray.size_append,ByteArray.size_append,ByteArray.size_append]
 have e0:(⟨#[32,114,101,116,117,114,110,32,40,36,118,44,32]⟩:ByteArray).size=13:=rfl
 have e1:(⟨#[40,102,111,114,32,36,118,32,105,110,32]⟩:ByteArray).size=11:=rfl
 have e2:(⟨#[41,41]⟩:ByteArray).size=2:=rfl
 have ks:=hs.2.2
 have ku:=hu.2.2
 omega
theorem qu_ord0 {dt:Bool} {d:Int} {s:ByteArray} {n:Nat} (hs:TextP .que dt (d - 1) s n) (hd:0<d:=by omega):TextP .que dt d (⟨#[40,102,111,114,32,36,118,32,97,116,32,36,105,32,105,110,32]⟩ ++ s ++ ⟨#[32,119,104,101,114,101,32,36,105,32,60,32,51,32,111,114,100,101,114,32,98,121,32,36,105]⟩ ++ ⟨#[]⟩ ++ ⟨#[32,114,101,116,117,114,110,32,40,36,105,44,32,36,118,41,41]⟩) (n + 59):=by
 refine ⟨Po.qu_ord0 (hd:=hd) (hs:=hs.1),trivial,?_⟩
 rw [ByteArray.size_append,ByteArray.size_append,ByteArray.size_append,ByteArray.size_append]
 have e0:(⟨#[]⟩:ByteArray).size=0:=rfl
 have e1:(⟨#[32,114,101,116,117,114,110,32,40,36,105,44,32,36,118,41,41]⟩:ByteArray).size=17:=rfl
 have e2:(⟨#[32,119,104,101,114,101,32,36,105,32,60,32,51,32,111,114,100,101,114,32,98,121,32,36,105]⟩:ByteArray).size=25:=rfl
 have e3:(⟨#[40,102,111,114,32,36,118,32,97,116,32,36,105,32,105,110,32]⟩:ByteArray).size=17:=rfl
 have ks:=hs.2.2
 omega
theorem qu_ord1 {dt:Bool} {d:Int} {s:ByteArray} {n:Nat} (hs:TextP .que dt (d - 1) s n) (hd:0<d:=by omega):TextP .que dt d (⟨#[40,102,111,114,32,36,118,32,97,116,32,36,105,32,105,110,32]⟩ ++ s ++ ⟨#[32,119,104,101,114,101,32,36,105,32,60,32,51,32,111,114,100,101,114,32,98,121,32,36,105]⟩ ++ ⟨#[32,100,101,115,99,101,110,100,105,110,103]⟩ ++ ⟨#[32,114,101,116,117,114,110,32,40,36,105,44,32,36,118,41,41]⟩) (n + 70):=by
 refine ⟨Po.qu_ord1 (hd:=hd) (hs:=hs.1),trivial,?_⟩
 rw [ByteArray.size_append,ByteArray.size_append,ByteArray.size_append,ByteArray.size_append]
 have e0:(⟨#[32,100,101,115,99,101,110,100,105,110,103]⟩:ByteArray).size=11:=rfl
 have e1:(⟨#[32,114,101,116,117,114,110,32,40,36,105,44,32,36,118,41,41]⟩:ByteArray).size=17:=rfl
 have e2:(⟨#[32,119,104,101,114,101,32,36,105,32,60,32,51,32,111,114,100,101,114,32,98,121,32,36,105]⟩:ByteArray).size=25:=rfl
 have e3:(⟨#[40,102,111,114,32,36,118,32,97,116,32,36,105,32,105,110,32]⟩:ByteArray).size=17:=rfl
 have ks:=hs.2.2
 omega
theorem qu_let {dt:Bool} {d:Int} {s:ByteArray} {n:Nat} (hs:TextP .que dt (d - 1) s n) (hd:0<d:=by omega):TextP .que dt d (⟨#[40,108,101,116,32,36,119,32,58,61,32]⟩ ++ s ++ ⟨#[32,114,101,116,117,114,110,32,40,99,111,117,110,116,40,36,119,41,44,32,36,119,41,41]⟩) (n + 35):=by
 refine ⟨Po.qu_let (hd:=hd) (hs:=hs.1),trivial,?_⟩
 rw [ByteArray.size_append,ByteArray.size_append]
 have e0:(⟨#[32,114,101,116,117,114,110,32,40,99,111,117,110,116,40,36,119,41,44,32,36,119,41,41]⟩:ByteArray).size=24:=rfl
 have e1:(⟨#[40,108,101,116,32,36,119,32,58,61,32]⟩:ByteArray).size=11:=rfl
 have ks:=hs.2.2
 omega
theorem qu_elem {dt:Bool} {d:Int} {s:ByteArray} {u:ByteArray} {n:Nat} (hs:TextP .txt dt (d - 1) s n) (hu:TextP .que dt (d - 1) u n) (hd:0<d:=by omega):TextP .que dt d (⟨#[101,108,101,109,101,110,116,32,101,32,123,32,97,116,116,114,105,98,117,116,101,32,107,32,123,32]⟩ ++ s ++ ⟨#[32,125,44,32]⟩ ++ u ++ ⟨#[32,125]⟩) (n + n + 32):=by
 refine ⟨Po.qu_elem (hd:=hd) (hs:=hs.1) (hu:=hu.1),trivial,?_⟩
 rw [ByteArray.size_append,ByteArray.size_append,ByteArray.size_append,ByteArray.size_append]
 have e0:(⟨#[32,125]⟩:ByteArray).size=2:=rfl
 have e1:(⟨#[32,125,44,32]⟩:ByteArray).size=4:=rfl
 have e2:(⟨#[101,108,101,109,101,110,116,32,101,32,123,32,97,116,116,114,105,98,117,116,101,32,107,32,123,32]⟩:ByteArray).size=26:=rfl
 have ks:=hs.2.2
 have ku:=hu.2.2
 omega
theorem qu_fn0 {dt:Bool} {d:Int} {s:ByteArray} {i:Nat} {n:Nat} (hs:TextP .que dt (d - 1) s n) (hi:i<20) (hd:0<d:=by omega):TextP .que dt d (⟨#[114,101,118,101,114,115,101]⟩ ++ ⟨#[40,40]⟩ ++ s ++ ⟨#[44,32,49,32,116,111,32]⟩ ++ ⟨(Lib.decDigits i).toArray⟩ ++ ⟨#[41,41]⟩) (n + 20):=by
 refine ⟨Po.qu_fn0 (hd:=hd) (hs:=hs.1) (hi:=hi),trivial,?_⟩
 rw [ByteArray.size_append,ByteArray.size_append,ByteArray.size_append,ByteArray.size_append,ByteArray.size_append]
 have e0:(⟨#[40,40]⟩:ByteArray).size=2:=rfl
 have e1:(⟨#[41,41]⟩:ByteArray).size=2:=rfl
 have e2:(⟨#[44,32,49,32,116,111,32]⟩:ByteArray).size=7:=rfl
 have e3:(⟨#[114,101,118,101,114,115,101]⟩:ByteArray).size=7:=rfl
 have ks:=hs.2.2
 have ki:=dec_len hi
 omega
theorem qu_fn1 {dt:Bool} {d:Int} {s:ByteArray} {i:Nat} {n:Nat} (hs:TextP .que dt (d - 1) s n) (hi:i<20) (hd:0<d:=by omega):TextP .que dt d (⟨#[100,105,115,116,105,110,99,116,45,118,97,108,117,101,115]⟩ ++ ⟨#[40,40]⟩ ++ s ++ ⟨#[44,32,49,32,116,111,32]⟩ ++ ⟨(Lib.decDigits i).toArray⟩ ++ ⟨#[41,41]⟩) (n + 28):=by
 refine ⟨Po.qu_fn1 (hd:=hd) (hs:=hs.1) (hi:=hi),trivial,?_⟩
 rw [ByteArray.size_append,ByteArray.size_append,ByteArray.size_append,ByteArray.size_append,ByteArray.size_append]
 have e0:(⟨#[40,40]⟩:ByteArray).size=2:=rfl
 have e1:(⟨#[41,41]⟩:ByteArray).size=2:=rfl
 have e2:(⟨#[44,32,49,32,116,111,32]⟩:ByteArray).size=7:=rfl
 have e3:(⟨#[100,105,115,116,105,110,99,116,45,118,97,108,117,101,115]⟩:ByteArray).size=15:=rfl
 have ks:=hs.2.2
 have ki:=dec_len hi
 omega
theorem qu_fn2 {dt:Bool} {d:Int} {s:ByteArray} {i:Nat} {n:Nat} (hs:TextP .que dt (d - 1) s n) (hi:i<20) (hd:0<d:=by omega):TextP .que dt d (⟨#[100,97,116,97]⟩ ++ ⟨#[40,40]⟩ ++ s ++ ⟨#[44,32,49,32,116,111,32]⟩ ++ ⟨(Lib.decDigits i).toArray⟩ ++ ⟨#[41,41]⟩) (n + 17):=by
 refine ⟨Po.qu_fn2 (hd:=hd) (hs:=hs.1) (hi:=hi),trivial,?_⟩
 rw [ByteArray.size_append,ByteArray.size_append,ByteArray.size_append,ByteArray.size_append,ByteArray.size_append]
 have e0:(⟨#[40,40]⟩:ByteArray).size=2:=rfl
 have e1:(⟨#[41,41]⟩:ByteArray).size=2:=rfl
 have e2:(⟨#[44,32,49,32,116,111,32]⟩:ByteArray).size=7:=rfl
 have e3:(⟨#[100,97,116,97]⟩:ByteArray).size=4:=rfl
 have ks:=hs.2.2
 have ki:=dec_len hi
 omega
theorem qu_text {dt:Bool} {d:Int} {s:ByteArray} {n:Nat} (hs:TextP .que dt (d - 1) s n) (hd:0<d:=by omega):TextP .que dt d (⟨#[116,101,120,116,32,123,32]⟩ ++ s ++ ⟨#[32,125,47,46,46]⟩) (n + 12):=by
 refine ⟨Po.qu_text (hd:=hd) (hs:=hs.1),trivial,?_⟩
 rw [ByteArray.size_append,ByteArray.size_append]
 have e0:(⟨#[32,125,47,46,46]⟩:ByteArray).size=5:=rfl
 have e1:(⟨#[116,101,120,116,32,123,32]⟩:ByteArray).size=7:=rfl
 have ks:=hs.2.2
 omega
theorem no_filter2 {dt:Bool} {d:Int} {s:ByteArray} {u:ByteArray} {m n:Nat} (hs:TextP .pth dt d s m) (hu:TextP .que true (d - 1) u n) (hd:0<d:=by omega):TextP .flt dt d (⟨#[40]⟩ ++ s ++ ⟨#[41,91]⟩ ++ u ++ ⟨#[93]⟩) (m + n + 4):=by
 refine ⟨Po.no_filter (hd:=hd) (hs:=hs.1) (hu:=hu.1),trivial,?_⟩
 rw [ByteArray.size_append,ByteArray.size_append,ByteArray.size_append,ByteArray.size_append]
 have e0:(⟨#[40]⟩:ByteArray).size=1:=rfl
 have e1:(⟨#[41,91]⟩:ByteArray).size=2:=rfl
 have e2:(⟨#[93]⟩:ByteArray).size=1:=rfl
 have ks:=hs.2.2
 have ku:=hu.2.2
 omega
theorem no_op0 {dt:Bool} {d:Int} {s:ByteArray} {n:Nat} (hs:TextP .flt dt d s n):TextP .nod dt d (⟨#[40]⟩ ++ s ++ ⟨#[32,117,110,105,111,110,32]⟩ ++ ⟨#[47,47,42,41]⟩) (n + 12):=by
 refine ⟨Po.no_op0 (hs:=hs.1),trivial,?_⟩
 rw [ByteArray.size_append,ByteArray.size_append,ByteArray.size_append]
 have e0:(⟨#[32,117,110,105,111,110,32]⟩:ByteArray).size=7:=rfl
 have e1:(⟨#[40]⟩:ByteArray).size=1:=rfl
 have e2:(⟨#[47,47,42,41]⟩:ByteArray).size=4:=rfl
 have ks:=hs.2.2
 omega
theorem no_op1 {dt:Bool} {d:Int} {s:ByteArray} {n:Nat} (hs:TextP .flt dt d s n):TextP .nod dt d (⟨#[40]⟩ ++ s ++ ⟨#[32,105,110,116,101,114,115,101,99,116,32]⟩ ++ ⟨#[47,47,42,41]⟩) (n + 16):=by
 refine ⟨Po.no_op1 (hs:=hs.1),trivial,?_⟩
 rw [ByteArray.size_append,ByteArray.size_append,ByteArray.size_append]
 have e0:(⟨#[32,105,110,116,101,114,115,101,99,116,32]⟩:ByteArray).size=11:=rfl
 have e1:(⟨#[40]⟩:ByteArray).size=1:=rfl
 have e2:(⟨#[47,47,42,41]⟩:ByteArray).size=4:=rfl
 have ks:=hs.2.2
 omega
theorem no_op2 {dt:Bool} {d:Int} {s:ByteArray} {n:Nat} (hs:TextP .flt dt d s n):TextP .nod dt d (⟨#[40]⟩ ++ s ++ ⟨#[32,101,120,99,101,112,116,32]⟩ ++ ⟨#[47,47,42,41]⟩) (n + 13):=by
 refine ⟨Po.no_op2 (hs:=hs.1),trivial,?_⟩
 rw [ByteArray.size_append,ByteArray.size_append,ByteArray.size_append]
 have e0:(⟨#[32,101,120,99,101,112,116,32]⟩:ByteArray).size=8:=rfl
 have e1:(⟨#[40]⟩:ByteArray).size=1:=rfl
 have e2:(⟨#[47,47,42,41]⟩:ByteArray).size=4:=rfl
 have ks:=hs.2.2
 omega
theorem no_dot {d:Int}:TextP .pth true d (⟨#[46]⟩) (1):=by
 refine ⟨Po.no_dot,trivial,?_⟩
 have e0:(⟨#[46]⟩:ByteArray).size=1:=rfl
 omega
theorem qu_nod {dt:Bool} {d:Int} {s:ByteArray} {n:Nat} (h:TextP .nod dt (d - 1) s n) (hd:0<d:=by omega):TextP .que dt d s n:=⟨Po.qu_nod hd h.1,trivial,h.2.2⟩
theorem qu_num {dt:Bool} {d:Int} {s:ByteArray} {n:Nat} (h:TextP .num dt (d - 1) s n) (hd:0<d:=by omega):TextP .que dt d s n:=⟨Po.qu_num hd h.1,trivial,h.2.2⟩
theorem qu_txt {dt:Bool} {d:Int} {s:ByteArray} {n:Nat} (h:TextP .txt dt (d - 1) s n) (hd:0<d:=by omega):TextP .que dt d s n:=⟨Po.qu_txt hd h.1,trivial,h.2.2⟩
theorem qu_tru {dt:Bool} {d:Int} {s:ByteArray} {n:Nat} (h:TextP .tru dt (d - 1) s n) (hd:0<d:=by omega):TextP .que dt d s n:=⟨Po.qu_tru hd h.1,trivial,h.2.2⟩
theorem no_flt {dt:Bool} {d:Int} {s:ByteArray} {n:Nat} (h:TextP .pth dt d s n):TextP .flt dt d s n:=⟨Po.no_flt h.1,h.2⟩
theorem no_nod {dt:Bool} {d:Int} {s:ByteArray} {n:Nat} (h:TextP .flt dt d s n):TextP .nod dt d s n:=⟨Po.no_nod h.1,h.2⟩
theorem no_base {dt:Bool} {d:Int} {i:Nat} (hi:i<6):TextP .pth dt d ⟨(baseL.getD i []).toArray⟩ 8 :=
 ⟨Po.no_base hi,trivial,by
  have:∀ i:Fin 6,(baseL.getD i []).length<=8:=by decide
  exact this ⟨i,hi⟩⟩
theorem qu_q0 {dt:Bool} {d:Int} {i:Nat} (hi:i<5):TextP .que dt d ⟨(q0L.getD i []).toArray⟩ 6 :=
 ⟨Po.qu_q0 hi,trivial,by
  have:∀ i:Fin 5,(q0L.getD i []).length<=6:=by decide
  exact this ⟨i,hi⟩⟩
theorem no_step {dt:Bool} {d:Int} {s:ByteArray} {n i j:Nat} (h:TextP .pth dt d s n) (hj:j<2) (hi:i<18):TextP .pth dt d (s ++ (⟨(sepL.getD j []).toArray⟩ ++ ⟨(stepL.getD i []).toArray⟩)) (n + 32):=by
 refine ⟨Po.no_step h.1 hj hi,trivial,?_⟩
 rw [ByteArray.size_append,ByteArray.size_append]
 have h1:(⟨(sepL.getD j []).toArray⟩:ByteArray).size<=2:=sepL_len hj
 have h2:(⟨(stepL.getD i []).toArray⟩:ByteArray).size<=30:=stepL_len hi
 have h3:=h.2.2
 omega
theorem PoS.allocI {w0 w:World} {pb:Nat} {d:Bool} (h:PoS w0 w pb d) (o:Obj):PoS w0 (w.alloc o) pb d:=h.below ((Below.refl _ _).alloc (Nat.le_refl _) o)
def NumOk (d:Int) (n:Nat):Prop:=∀ {w0 w:World} {pb:Nat} {dt:Bool},PoS w0 w pb dt->Calls Tryz.prog 27 #[vP pb 0,vI d] w fun e w'=>∃ s,TextP .num dt d s n/\e=.returned (vS s)/\GrowQ pb w w'/\PoS w0 w' pb dt
def TextOk (d:Int) (n:Nat):Prop:=∀ {w0 w:World} {pb:Nat} {dt:Bool},PoS w0 w pb dt->Calls Tryz.prog 28 #[vP pb 0,vI d] w fun e w'=>∃ s,TextP .txt dt d s n/\e=.returned (vS s)/\GrowQ pb w w'/\PoS w0 w' pb dt
def NodOk (d:Int) (n:Nat):Prop:=∀ {w0 w:World} {pb:Nat} {dt:Bool},PoS w0 w pb dt->Calls Tryz.prog 16 #[vP pb 0,vI d] w fun e w'=>∃ s,TextP .nod dt d s n/\e=.returned (vS s)/\GrowQ pb w w'/\PoS w0 w' pb dt
def TruOk (d:Int) (n:Nat):Prop:=∀ {w0 w:World} {pb:Nat} {dt:Bool},PoS w0 w pb dt->Calls Tryz.prog 29 #[vP pb 0,vI d] w fun e w'=>∃ s,TextP .tru dt d s n/\e=.returned (vS s)/\GrowQ pb w w'/\PoS w0 w' pb dt
def QueOk (d:Int) (n:Nat):Prop:=∀ {w0 w:World} {pb:Nat} {dt:Bool},PoS w0 w pb dt->Calls Tryz.prog 13 #[vP pb 0,vI d] w fun e w'=>∃ s,TextP .que dt d s n/\e=.returned (vS s)/\GrowQ pb w w'/\PoS w0 w' pb dt
theorem query0_ok:QueOk 0 6:=fun h=>(query0_is h).mono fun e w' ⟨i,k1,k2,k3,k4⟩=>⟨_,qu_q0 k1,k2,k3,k4⟩
end Go.Proofs.YtmcmbdkpfcibkaaGreatDoor
