import Derived.WalkKit
import Derived.Lib.ValidU
import Derived.Lib.IndexMore
import Derived.Lib.IndexBytes
import Derived.Lib.SlTrimSet
import Derived.Lib.Strings
import Derived.ProofKit
import Derived.OwnWalk
import Derived.RegionTactic
import Derived.Tactics
import Derived.Deep.RegionLaw
import Derived.KernelRfl
import Derived.OrdersIn
import Derived.RangeFuncCalls
namespace Go.Proofs.YtmcmbdkpfcibkaaGreatDoor
open Go.RowKit
abbrev vI (n:Int):Value:=.int .i64 n
abbrev vS (s:ByteArray):Value:=.string s
abbrev vE:Value:=.string ⟨#[]⟩
abbrev vN:Value:=.slice none 0 0
abbrev vP (b o:Nat):Value:=.pointer (some ⟨b,o,none⟩)
abbrev vL (b o n c:Nat):Value:=.slice (some ⟨b,o,none⟩) n c
abbrev eL (a b c:Int) (d e f:ByteArray) (g h i:Int) (j:ByteArray) (k:Option Addr) (l m:Nat):List Value:=[vI a,vI b,vI c,vS d,vS e,vS f,vI g,vI h,vI i,vS j,.slice k l m]
abbrev eA (a b c:Int) (d e f:ByteArray) (g h i:Int) (j:ByteArray) (k:Option Addr) (l m:Nat):Array Value:=#[vI a,vI b,vI c,vS d,vS e,vS f,vI g,vI h,vI i,vS j,.slice k l m]
abbrev pL (a b c:Int) (d e:ByteArray) (f g h:Int) (i:ByteArray) (j:Option Addr) (k l:Nat) (m:Option Addr) (n o:Nat):List Value:=[vI a,vI b,vI c,vS d,vS e,vI f,vI g,vI h,vS i,.slice j k l,.slice m n o]
abbrev pA (a b c:Int) (d e:ByteArray) (f g h:Int) (i:ByteArray) (j:Option Addr) (k l:Nat) (m:Option Addr) (n o:Nat):Array Value:=#[vI a,vI b,vI c,vS d,vS e,vI f,vI g,vI h,vS i,.slice j k l,.slice m n o]
abbrev tL (p:Int) (q r:ByteArray) (s:Bool) (a b c:Int) (d e:ByteArray) (f g h:Int) (i:ByteArray) (j:Option Addr) (k l:Nat) (m:Option Addr) (n o:Nat):List Value:=[vI p,vS q,vS r,.bool s,vI a,vI b,vI c,vS d,vS e,vI f,vI g,vI h,vS i,.slice j k l,.slice m n o]
abbrev tA (p:Int) (q r:ByteArray) (s:Bool) (a b c:Int) (d e:ByteArray) (f g h:Int) (i:ByteArray) (j:Option Addr) (k l:Nat) (m:Option Addr) (n o:Nat):Array Value:=#[vI p,vS q,vS r,.bool s,vI a,vI b,vI c,vS d,vS e,vI f,vI g,vI h,vS i,.slice j k l,.slice m n o]
abbrev pZ (a:Int):List Value:=[vI a,vI 0,vI 0,vE,vE,vI 0,vI 0,vI 0,vE,vN,vN]
abbrev pZA (a:Int):Array Value:=#[vI a,vI 0,vI 0,vE,vE,vI 0,vI 0,vI 0,vE,vN,vN]
abbrev zL:List Value:=[vI 0,vI 0,vI 0,vE,vE,vE,vI 0,vI 0,vI 0,vE,vN]
abbrev zA:Array Value:=#[vI 0,vI 0,vI 0,vE,vE,vE,vI 0,vI 0,vI 0,vE,vN]
theorem gI {α:Type _} {x:Array α} {i:Nat} {b:α} (h:x[i]?=some b):∃ h:i<x.size,x[i]=b:=Array.getElem?_eq_some_iff.1 h
def nb (c:Int) (f:Bool):Bool :=
 decide ((97<=c/\c<=122)\/(65<=c/\c<=90)\/c=95\/(f=false/\((48<=c/\c<=57)\/c=45\/c=46)))
theorem ret_bool {a b:Bool} (h:a=b):Ending.returned (.bool a)=.returned (.bool b):=by rw [h]
theorem ret_int {k:IntKind} {a b:Int} (h:a=b):Ending.returned (.int k a)=.returned (.int k b):=by rw [h]
theorem bcell {W w1:World} (hb:Below W.heap.size W w1):(∀ b o,b<W.heap.size->w1.cell? ⟨b,o,none⟩=W.cell? ⟨b,o,none⟩)/\(∀ b o,b<W.heap.size->w1.frozen? ⟨b,o,none⟩=W.frozen? ⟨b,o,none⟩) :=
 ⟨fun b o h=>hb.cell (p:=⟨b,o,none⟩) h,fun b o h=>hb.frozen (p:=⟨b,o,none⟩) h⟩
def inB (n l h:Int):Bool:=decide (l<=n/\n<=h)
def byteAt (s:ByteArray) (k:Nat):Int:=((s.data.toList.getD k 0).toNat:Int)
theorem byteAt_eq (s:ByteArray) (k:Nat) (h:k<s.size):(s[k].toNat:Int)=byteAt s k:=by
 unfold byteAt
 have h':k<s.data.size:=h
 rw [List.getD_eq_getElem?_getD,List.getElem?_eq_getElem (by simpa using h')]
 rfl
def ctl (c:Int):Bool:=decide (32<=c\/c=9\/c=10)
theorem ctl_yes {c:Int} (h:ctl c=true):(32<=c)\/((c<32)/\(c == 9)=true/\(c != 9)=false)\/((c<32)/\(c == 9)=false/\(c != 9)=true/\(c == 10)=true/\(c != 10)=false):=by
 have:=of_decide_eq_true h
 rcases this with h | rfl | rfl
 · exact .inl h
 · exact .inr (.inl (by decide))
 · exact .inr (.inr (by decide))
theorem ctl_no {c:Int} (h:ctl c=false):(c<32)/\(c == 9)=false/\(c != 9)=true/\(c == 10)=false/\(c != 10)=true:=by
 have:=of_decide_eq_false h
 refine ⟨by omega,?_,?_,?_,?_⟩ <;> simp <;> omega
def ctlTo (s:ByteArray) (k:Nat):Bool:=(List.range k).all fun j=>ctl (byteAt s j)
theorem ctlTo_succ (s:ByteArray) (k:Nat):ctlTo s (k + 1)=(ctlTo s k && ctl (byteAt s k)):=by
 simp [ctlTo,List.range_succ,List.all_append]
theorem ctlTo_no {s:ByteArray} {k n:Nat} (hk:k<n) (hb:ctl (byteAt s k)=false):ctlTo s n=false:=by
 rw [ctlTo,List.all_eq_false]
 exact ⟨k,List.mem_range.2 hk,by simp [hb]⟩
def textF (s:ByteArray):Int :=
 if 20000<s.size then 1 else if (Lib.validD s.data.toList && ctlTo s s.size)=true then 0 else 4
theorem textF_size {s:ByteArray} (h:20000<s.size):textF s=1:=by unfold textF;rw [if_pos h]
theorem textF_ok {s:ByteArray} (h:¬ 20000<s.size) (hv:Lib.validD s.data.toList=true) (ho:ctlTo s s.size=true):textF s=0:=by
 unfold textF;rw [if_neg h,hv,ho];rfl
theorem textF_no {s:ByteArray} (h:¬ 20000<s.size) (hv:(Lib.validD s.data.toList && ctlTo s s.size)=false):textF s=4:=by
 unfold textF;rw [if_neg h,hv];rfl
theorem textF_ctl {s:ByteArray} {k:Nat} (h:¬ 20000<s.size) (hk:k<s.size) (hb:ctl (byteAt s k)=false):textF s=4 :=
 textF_no h (by rw [ctlTo_no hk hb,Bool.and_false])
open Go.RowKit
open Go.RowKit
def lett (c:Int):Bool:=decide ((97<=c/\c<=122)\/(65<=c/\c<=90)\/c=95)
def dgt (c:Int):Bool:=decide (48<=c/\c<=57)
def wb (c:Int) (f:Bool):Bool:=lett c || (!f && (dgt c || decide (c=45)))
def bAt (l:List UInt8) (k:Nat):Int:=((l.getD k 0).toNat:Int)
theorem byteAt_bAt (s:ByteArray) (k:Nat):byteAt s k=bAt s.data.toList k:=rfl
theorem bAt_cons (c:UInt8) (l:List UInt8) (k:Nat):bAt (c :: l) (k + 1)=bAt l k:=by simp [bAt]
theorem bAt_zero (c:UInt8) (l:List UInt8):bAt (c :: l) 0=(c.toNat:Int):=by simp [bAt]
theorem bAt_drop (l:List UInt8) (a k:Nat):bAt (l.drop a) k=bAt l (a + k):=by
 unfold bAt;rw [List.getD_eq_getElem?_getD,List.getD_eq_getElem?_getD,List.getElem?_drop]
def wl:List UInt8->Bool->Nat
 | [],_=>0
 | c :: r,f=>if wb (c.toNat:Int) f=true then wl r false + 1 else 0
theorem wl_le:∀ (l:List UInt8) (f:Bool),wl l f<=l.length
 | [],_=>by simp [wl]
 | c :: r,f=>by
  have:=wl_le r false
  unfold wl;split <;> simp <;> omega
theorem wl_lt:∀ (l:List UInt8) (f:Bool) (k:Nat),k<wl l f->wb (bAt l k) (f && decide (k=0))=true
 | [],_,k,h=>by simp [wl] at h
 | c :: r,f,k,h=>by
  unfold wl at h
  split at h
  · rename_i hc
    cases k with
    | zero=>rw [bAt_zero];simpa using hc
    | succ k =>
     have:=wl_lt r false k (by omega)
     rw [bAt_cons];simpa using this
  · omega
theorem wl_eq:∀ (l:List UInt8) (f:Bool),wl l f<l.length->wb (bAt l (wl l f)) (f && decide (wl l f=0))=false
 | [],_,h=>by simp at h
 | c :: r,f,h=>by
  unfold wl at h ⊢
  split
  · rename_i hc
    rw [if_pos hc] at h
    have:=wl_eq r false (by simpa using h)
    rw [bAt_cons];simpa using this
  · rename_i hc
    rw [bAt_zero];simpa using hc
def nmB (s:ByteArray):Bool:=decide (1<=s.size/\s.size<=20) && decide (wl s.data.toList true=s.size)
def marksL:List (List UInt8):=[[58,58],[47,47],[46,46],[58,61],[33,61],[60,61],[62,61],[60,60],[62,62],[47],[40],[41],[91],[93],[123],[125],[44],[46],[64],[42],[61],[60],[62],[43],[45],[124]]
def mkAt (k:Nat):List UInt8:=marksL.getD k []
def fm (l:List UInt8):List UInt8:=(marksL.find? fun m=>m.isPrefixOf l).getD []
def fmFrom (l:List UInt8) (k:Nat):List UInt8:=((marksL.drop k).find? fun m=>m.isPrefixOf l).getD []
theorem mark_drop {k:Nat} (h:k<26):marksL.drop k=mkAt k :: marksL.drop (k + 1):=by
 have h':k<marksL.length:=h
 rw [List.drop_eq_getElem_cons h']
 congr 1
 unfold mkAt
 rw [List.getD_eq_getElem?_getD,List.getElem?_eq_getElem h']
 rfl
theorem fmFrom_hit {l:List UInt8} {k:Nat} (h:k<26) (hp:(mkAt k).isPrefixOf l=true):fmFrom l k=mkAt k:=by
 unfold fmFrom;rw [mark_drop h,List.find?_cons,hp];rfl
theorem fmFrom_miss {l:List UInt8} {k:Nat} (h:k<26) (hp:(mkAt k).isPrefixOf l=false):fmFrom l k=fmFrom l (k + 1):=by
 unfold fmFrom;rw [mark_drop h,List.find?_cons,hp]
theorem fmFrom_end (l:List UInt8):fmFrom l 26=[]:=rfl
def isMk (l:List UInt8):Bool:=marksL.contains l
theorem fm_mem {l:List UInt8} (h:fm l≠[]):fm l∈marksL/\(fm l).isPrefixOf l=true:=by
 unfold fm at h ⊢
 cases hf:marksL.find? (fun m=>m.isPrefixOf l) with
 | none=>rw [hf] at h;simp at h
 | some m=>exact ⟨List.mem_of_find?_eq_some hf,List.find?_some (p:=fun m:List UInt8=>m.isPrefixOf l) hf⟩
theorem fm_self:∀ m∈marksL,fm m=m:=by decide
theorem fm_isMk (l:List UInt8):isMk l=(decide (l≠[]) && decide (fm l=l)):=by
 rw [Bool.eq_iff_iff]
 unfold isMk
 simp only [List.contains_iff_mem,Bool.and_eq_true,decide_eq_true_eq]
 constructor
 · intro h
   exact ⟨by rintro rfl;revert h;decide,fm_self l h⟩
 · rintro ⟨h1,h2⟩
   have:=fm_mem (l:=l) (by rw [h2];exact h1)
   rw [h2] at this
   exact this.1
def hasQ (l:List UInt8):Bool:=l.contains 34
def tokF (k:Int) (s:ByteArray) (n:Int):Int :=
 if ¬ (1<=k/\k<=5) then 3
 else if k=2 then (if n<0\/1099511627776<n then 2 else if s.size≠0 then 4 else 0)
 else if n≠0 then 4
 else if k=3 then (if hasQ s.data.toList=true then 4 else textF s)
 else if k=5 then (if isMk s.data.toList=true then 0 else 6)
 else if nmB s=true then 0 else 10
open Go.RowKit
structure Tok where
 kind:Int
 s:ByteArray
 n:Int
def tokV (t:Tok):Value:=.agg #[vI t.kind,vS t.s,vI t.n]
def tokC (t:Tok):List Value:=[vI t.kind,vS t.s,vI t.n]
def tokCells (L:List Tok):List Value:=L.flatMap tokC
def tok0:Tok:=⟨0,⟨#[]⟩,0⟩
def bs (l:List UInt8):ByteArray:=⟨l.toArray⟩
theorem bs_list (l:List UInt8):(bs l).data.toList=l:=by simp [bs]
theorem bs_size (l:List UInt8):(bs l).size=l.length:=by show l.toArray.size=l.length;simp
theorem bs_of (s:ByteArray):bs s.data.toList=s:=by simp [bs]
theorem tokCells_snoc (L:List Tok) (t:Tok):tokCells (L ++ [t])=tokCells L ++ tokC t:=by simp [tokCells]
theorem bAt_lt (l:List UInt8) (k:Nat) (h:k<l.length):bAt l k=(l[k].toNat:Int):=by
 unfold bAt;rw [List.getD_eq_getElem?_getD,List.getElem?_eq_getElem h];rfl
def dl:List UInt8->Nat
 | []=>0
 | c :: r=>if dgt (c.toNat:Int)=true then dl r + 1 else 0
theorem dl_le:∀ l:List UInt8,dl l<=l.length
 | []=>by simp [dl]
 | c :: r=>by
  have:=dl_le r
  unfold dl;split <;> simp <;> omega
theorem dl_lt:∀ (l:List UInt8) (k:Nat),k<dl l->dgt (bAt l k)=true
 | [],k,h=>by simp [dl] at h
 | c :: r,k,h=>by
  unfold dl at h
  split at h
  · rename_i hc
    cases k with
    | zero=>rw [bAt_zero];exact hc
    | succ k=>rw [bAt_cons];exact dl_lt r k (by omega)
  · omega
theorem dl_eq:∀ l:List UInt8,dl l<l.length->dgt (bAt l (dl l))=false
 | [],h=>by simp at h
 | c :: r,h=>by
  unfold dl at h ⊢
  split
  · rename_i hc
    rw [if_pos hc] at h
    rw [bAt_cons];exact dl_eq r (by simpa using h)
  · rename_i hc
    rw [bAt_zero];simpa using hc
theorem dgt_iff {c:Int}:dgt c=true↔48<=c/\c<=57:=by simp [dgt]
def numV (l:List UInt8):Nat->Int
 | 0=>0
 | k + 1=>10 * numV l k + (bAt l k - 48)
theorem numV_succ (l:List UInt8) (k:Nat):numV l (k + 1)=10 * numV l k + (bAt l k - 48):=rfl
theorem numV_nonneg (l:List UInt8):∀ k,k<=dl l->0<=numV l k
 | 0,_=>Int.le_refl _
 | k + 1,h=>by
  have h1:=numV_nonneg l k (by omega)
  have h2:=dgt_iff.1 (dl_lt l k (by omega))
  rw [numV_succ];omega
theorem dl_pos {l:List UInt8} (h:dgt (bAt l 0)=true) (hl:0<l.length):1<=dl l:=by
 cases l with
 | nil=>simp at hl
 | cons c r=>rw [bAt_zero] at h;unfold dl;rw [if_pos h];omega
theorem wl_pos {l:List UInt8} (h:lett (bAt l 0)=true) (hl:0<l.length):1<=wl l true:=by
 cases l with
 | nil=>simp at hl
 | cons c r=>rw [bAt_zero] at h;unfold wl;rw [if_pos (by simp [wb,h])];omega
theorem wl_take:∀ (l:List UInt8) (f:Bool),wl (l.take (wl l f)) f=wl l f
 | [],f=>by simp [wl]
 | c :: r,f=>by
  have ih:=wl_take r false
  by_cases h:wb (c.toNat:Int) f=true
  · have e:wl (c :: r) f=wl r false + 1:=by rw [wl,if_pos h]
    rw [e,List.take_succ_cons,wl,if_pos h,ih]
  · have e:wl (c :: r) f=0:=by rw [wl,if_neg h]
    rw [e];rfl
def ql:List UInt8->Nat
 | []=>0
 | c :: r=>if c=34 then 0 else ql r + 1
theorem ql_lt:∀ (l:List UInt8) (k:Nat),k<ql l->bAt l k≠34
 | [],k,h=>by simp [ql] at h
 | c :: r,k,h=>by
  unfold ql at h
  split at h
  · omega
  · rename_i hc
    cases k with
    | zero =>
     rw [bAt_zero]
     intro e
     exact hc (UInt8.toNat_inj.1 (show c.toNat=34 by omega))
    | succ k=>rw [bAt_cons];exact ql_lt r k (by omega)
theorem ql_index:∀ l:List UInt8,Lib.indexByte l 34=if ql l<l.length then (ql l:Int) else -1
 | []=>by simp [Lib.indexByte]
 | c :: r=>by
  have ih:=ql_index r
  have e1:Lib.indexByte (c :: r) 34=if (c == 34)=true then 0 else if (Lib.indexByte r 34 == -1)=true then -1 else Lib.indexByte r 34 + 1:=rfl
  by_cases hc:c=34
  · have e2:ql (c :: r)=0:=by rw [ql,if_pos hc]
    rw [e1,e2,hc];simp
  · have hb:(c == 34)=false:=by simpa using hc
    have e2:ql (c :: r)=ql r + 1:=by rw [ql,if_neg hc]
    rw [e1,e2,hb,ih,if_neg (by decide)]
    by_cases h:ql r<r.length
    · have h3:((ql r:Int) == -1)=false:=by rw [beq_eq_false_iff_ne];omega
      rw [if_pos h,h3,if_neg (by decide),if_pos (by rw [List.length_cons];omega)]
      omega
    · rw [if_neg h,if_pos (by decide),if_neg (by rw [List.length_cons];omega)]
theorem ql_cut (l:List UInt8):Lib.cut l [34]=if ql l<l.length then (l.take (ql l),l.drop (ql l + 1),true) else (l,[],false):=by
 unfold Lib.cut
 rw [Lib.index_one,ql_index]
 by_cases h:ql l<l.length
 · rw [if_pos h,if_pos h,if_pos (by omega)]
   simp
 · rw [if_neg h,if_neg h,if_neg (by decide)]
def bk (c:Int):Bool:=decide (c=32\/c=10\/c=9)
def bl:List UInt8->Nat
 | []=>0
 | c :: r=>if bk (c.toNat:Int)=true then bl r + 1 else 0
theorem bl_le:∀ l:List UInt8,bl l<=l.length
 | []=>by simp [bl]
 | c :: r=>by
  have:=bl_le r
  unfold bl;split <;> simp <;> omega
theorem bl_lt:∀ (l:List UInt8) (k:Nat),k<bl l->bk (bAt l k)=true
 | [],k,h=>by simp [bl] at h
 | c :: r,k,h=>by
  unfold bl at h
  split at h
  · rename_i hc
    cases k with
    | zero=>rw [bAt_zero];exact hc
    | succ k=>rw [bAt_cons];exact bl_lt r k (by omega)
  · omega
theorem bl_eq:∀ l:List UInt8,bl l<l.length->bk (bAt l (bl l))=false
 | [],h=>by simp at h
 | c :: r,h=>by
  unfold bl at h ⊢
  split
  · rename_i hc
    rw [if_pos hc] at h
    rw [bAt_cons];exact bl_eq r (by simpa using h)
  · rename_i hc
    rw [bAt_zero];simpa using hc
theorem bk_in (c:UInt8):([32,10,9]:List UInt8).contains c=bk (c.toNat:Int):=by
 rw [Bool.eq_iff_iff]
 simp only [List.contains_iff_mem,List.mem_cons,List.not_mem_nil,or_false,bk,decide_eq_true_eq]
 constructor
 · rintro (rfl | rfl | rfl) <;> decide
 · rintro (h | h | h)
   · exact .inl (UInt8.toNat_inj.1 (show c.toNat=32 by omega))
   · exact .inr (.inl (UInt8.toNat_inj.1 (show c.toNat=10 by omega)))
   · exact .inr (.inr (UInt8.toNat_inj.1 (show c.toNat=9 by omega)))
theorem bl_trim:∀ l:List UInt8,Lib.trimLeftS l [32,10,9]=l.drop (bl l)
 | []=>by simp [Lib.trimLeftS,bl]
 | c :: r=>by
  have ih:=bl_trim r
  unfold Lib.trimLeftS at ih ⊢
  unfold bl
  rw [List.dropWhile_cons,bk_in c]
  split
  · rw [ih];rfl
  · rfl
def tk (l:List UInt8):Int × Tok × Nat :=
 if lett (bAt l 0)=true then (if wl l true<=20 then (0,⟨1,bs (l.take (wl l true)),0⟩,wl l true) else (10,tok0,0))
 else if bAt l 0=36 then (if 1<=wl (l.drop 1) true/\wl (l.drop 1) true<=20 then (0,⟨4,bs ((l.drop 1).take (wl (l.drop 1) true)),0⟩,1 + wl (l.drop 1) true) else (10,tok0,0))
 else if dgt (bAt l 0)=true then (if numV l (dl l)<=1099511627776 then (0,⟨2,⟨#[]⟩,numV l (dl l)⟩,dl l) else (2,tok0,0))
 else if bAt l 0=34 then (if ql (l.drop 1)<(l.drop 1).length then (if textF (bs ((l.drop 1).take (ql (l.drop 1))))=0 then (0,⟨3,bs ((l.drop 1).take (ql (l.drop 1))),0⟩,ql (l.drop 1) + 2) else (textF (bs ((l.drop 1).take (ql (l.drop 1)))),tok0,0)) else (5,tok0,0))
 else if fm l=[] then (4,tok0,0) else (0,⟨5,bs (fm l),0⟩,(fm l).length)
theorem fm_len {l:List UInt8} (h:fm l≠[]):1<=(fm l).length/\(fm l).length<=l.length:=by
 constructor
 · cases e:fm l with
   | nil=>exact absurd e h
   | cons c r=>simp
 · have:=(fm_mem h).2
   exact (List.isPrefixOf_iff_prefix.1 this).length_le
theorem tk_size {l:List UInt8} (hl:0<l.length) (h:(tk l).1=0):1<=(tk l).2.2/\(tk l).2.2<=l.length:=by
 have h1:=wl_le l true
 have h2:=wl_le (l.drop 1) true
 have h3:=dl_le l
 rw [List.length_drop] at h2
 unfold tk at h ⊢
 split
 · rename_i hc
   have:=wl_pos hc hl
   rw [if_pos hc] at h
   split
   · exact ⟨this,h1⟩
   · rename_i hn;rw [if_neg hn] at h;exact absurd h (by decide)
 rename_i c1
 rw [if_neg c1] at h
 split
 · rename_i hc
   rw [if_pos hc] at h
   split
   · rename_i hn;simp only;omega
   · rename_i hn;rw [if_neg hn] at h;exact absurd h (by decide)
 rename_i c2
 rw [if_neg c2] at h
 split
 · rename_i hc
   have:=dl_pos hc hl
   rw [if_pos hc] at h
   split
   · exact ⟨this,h3⟩
   · rename_i hn;rw [if_neg hn] at h;exact absurd h (by decide)
 rename_i c3
 rw [if_neg c3] at h
 split
 · rename_i hc
   rw [if_pos hc] at h
   split
   · rename_i hn
     rw [if_pos hn] at h
     rw [List.length_drop] at hn
     split
     · simp only;omega
     · rename_i ht;rw [if_neg ht] at h;exact absurd h ht
   · rename_i hn;rw [if_neg hn] at h;exact absurd h (by decide)
 rename_i c4
 rw [if_neg c4] at h
 split
 · rename_i hn;rw [if_pos hn] at h;exact absurd h (by decide)
 · rename_i hn;exact fm_len hn
def cutGo (l:List UInt8):Nat->Nat->Nat->List Tok × Nat × Int
 | 0,_,_=>([],0,0)
 | f + 1,a,n =>
  if l.length<=a then ([],0,0)
  else if bk (bAt l a)=true then cutGo l f (a + 1) n
  else if 200<=n then ([],a,1)
  else if (tk (l.drop a)).1=0 then ((tk (l.drop a)).2.1 :: (cutGo l f (a + (tk (l.drop a)).2.2) (n + 1)).1,(cutGo l f (a + (tk (l.drop a)).2.2) (n + 1)).2)
  else ([],a,(tk (l.drop a)).1)
theorem cutGo_stable (l:List UInt8):∀ f f' a n,l.length - a<=f->l.length - a<=f'->cutGo l f a n=cutGo l f' a n
 | 0,0,a,n,_,_=>rfl
 | 0,f' + 1,a,n,h,_=>by rw [cutGo,cutGo,if_pos (by omega)]
 | f + 1,0,a,n,_,h=>by rw [cutGo,cutGo,if_pos (by omega)]
 | f + 1,f' + 1,a,n,h,h'=>by
  rw [cutGo,cutGo]
  by_cases h1:l.length<=a
  · rw [if_pos h1,if_pos h1]
  rw [if_neg h1,if_neg h1]
  by_cases h2:bk (bAt l a)=true
  · rw [if_pos h2,if_pos h2]
    exact cutGo_stable l f f' (a + 1) n (by omega) (by omega)
  rw [if_neg h2,if_neg h2]
  by_cases h3:200<=n
  · rw [if_pos h3,if_pos h3]
  rw [if_neg h3,if_neg h3]
  by_cases h4:(tk (l.drop a)).1=0
  · have hz:=tk_size (l:=l.drop a) (by rw [List.length_drop];omega) h4
    rw [if_pos h4,if_pos h4,cutGo_stable l f f' (a + (tk (l.drop a)).2.2) (n + 1) (by omega) (by omega)]
  · rw [if_neg h4,if_neg h4]
def cutAt (l:List UInt8) (a n:Nat):List Tok × Nat × Int:=cutGo l (l.length - a) a n
theorem cutAt_end {l:List UInt8} {a n:Nat} (h:l.length<=a):cutAt l a n=([],0,0):=by
 unfold cutAt;rw [show l.length - a=0 by omega];rfl
theorem cutAt_blank {l:List UInt8} {a n:Nat} (h:a<l.length) (hb:bk (bAt l a)=true):cutAt l a n=cutAt l (a + 1) n:=by
 unfold cutAt
 rw [show l.length - a=(l.length - (a + 1)) + 1 by omega,cutGo,if_neg (by omega),if_pos hb]
theorem cutAt_full {l:List UInt8} {a n:Nat} (h:a<l.length) (hb:bk (bAt l a)=false) (hn:200<=n):cutAt l a n=([],a,1):=by
 unfold cutAt
 rw [show l.length - a=(l.length - (a + 1)) + 1 by omega,cutGo,if_neg (by omega),if_neg (by rw [hb];decide),if_pos hn]
theorem cutAt_err {l:List UInt8} {a n:Nat} (h:a<l.length) (hb:bk (bAt l a)=false) (hn:¬ 200<=n) (ht:¬ (tk (l.drop a)).1=0):cutAt l a n=([],a,(tk (l.drop a)).1):=by
 unfold cutAt
 rw [show l.length - a=(l.length - (a + 1)) + 1 by omega,cutGo,if_neg (by omega),if_neg (by rw [hb];decide),if_neg hn,if_neg ht]
theorem cutAt_tok {l:List UInt8} {a n:Nat} (h:a<l.length) (hb:bk (bAt l a)=false) (hn:¬ 200<=n) (ht:(tk (l.drop a)).1=0) :
 cutAt l a n=((tk (l.drop a)).2.1 :: (cutAt l (a + (tk (l.drop a)).2.2) (n + 1)).1,(cutAt l (a + (tk (l.drop a)).2.2) (n + 1)).2):=by
 have hz:=tk_size (l:=l.drop a) (by rw [List.length_drop];omega) ht
 unfold cutAt
 rw [show l.length - a=(l.length - (a + 1)) + 1 by omega,cutGo,if_neg (by omega),if_neg (by rw [hb];decide),if_neg hn,if_pos ht,
  cutGo_stable l (l.length - (a + 1)) (l.length - (a + (tk (l.drop a)).2.2)) (a + (tk (l.drop a)).2.2) (n + 1) (by omega) (by omega)]
theorem cutAt_blanks {l:List UInt8} (n:Nat):∀ k a,k<=bl (l.drop a)->cutAt l a n=cutAt l (a + k) n
 | 0,a,_=>rfl
 | k + 1,a,h=>by
  have hle:=bl_le (l.drop a)
  rw [List.length_drop] at hle
  rw [cutAt_blanks n k a (by omega)]
  have:=bl_lt (l.drop a) k (by omega)
  rw [bAt_drop] at this
  rw [cutAt_blank (by omega) this]
  rfl
def CutTo (l:List UInt8) (L:List Tok) (a:Nat):Prop:=cutAt l 0 0=(L ++ (cutAt l a L.length).1,(cutAt l a L.length).2)
theorem CutTo.zero (l:List UInt8):CutTo l [] 0:=by unfold CutTo;simp
theorem CutTo.blanks {l:List UInt8} {L:List Tok} {a k:Nat} (h:CutTo l L a) (hk:k<=bl (l.drop a)):CutTo l L (a + k):=by
 unfold CutTo at h ⊢;rw [h,cutAt_blanks L.length k a hk]
theorem CutTo.tok {l:List UInt8} {L:List Tok} {a:Nat} (h:CutTo l L a) (ha:a<l.length) (hb:bk (bAt l a)=false) (hn:¬ 200<=L.length) (ht:(tk (l.drop a)).1=0):CutTo l (L ++ [(tk (l.drop a)).2.1]) (a + (tk (l.drop a)).2.2):=by
 unfold CutTo at h ⊢;rw [h,cutAt_tok ha hb hn ht];simp
def cutT (l:List UInt8):List Tok:=if 1000<l.length then [] else if (cutAt l 0 0).2.2=0 then (cutAt l 0 0).1 else []
def cutP (l:List UInt8):Nat:=if 1000<l.length then 0 else (cutAt l 0 0).2.1
def cutE (l:List UInt8):Int:=if 1000<l.length then 1 else (cutAt l 0 0).2.2
theorem cut_big {l:List UInt8} (h:1000<l.length):cutT l=[]/\cutP l=0/\cutE l=1:=by
 unfold cutT cutP cutE;rw [if_pos h,if_pos h,if_pos h];exact ⟨rfl,rfl,rfl⟩
theorem CutTo.done {l:List UInt8} {L:List Tok} {a:Nat} (h:CutTo l L a) (hs:¬ 1000<l.length) (ha:l.length<=a):cutT l=L/\cutP l=0/\cutE l=0:=by
 unfold CutTo at h
 rw [cutAt_end ha] at h
 unfold cutT cutP cutE
 rw [if_neg hs,if_neg hs,if_neg hs,h]
 exact ⟨by simp,rfl,rfl⟩
theorem CutTo.full {l:List UInt8} {L:List Tok} {a:Nat} (h:CutTo l L a) (hs:¬ 1000<l.length) (ha:a<l.length) (hb:bk (bAt l a)=false) (hn:200<=L.length):cutT l=[]/\cutP l=a/\cutE l=1:=by
 unfold CutTo at h
 rw [cutAt_full ha hb hn] at h
 unfold cutT cutP cutE
 rw [if_neg hs,if_neg hs,if_neg hs,h]
 exact ⟨rfl,rfl,rfl⟩
theorem CutTo.err {l:List UInt8} {L:List Tok} {a:Nat} (h:CutTo l L a) (hs:¬ 1000<l.length) (ha:a<l.length) (hb:bk (bAt l a)=false) (hn:¬ 200<=L.length) (ht:¬ (tk (l.drop a)).1=0):cutT l=[]/\cutP l=a/\cutE l=(tk (l.drop a)).1:=by
 unfold CutTo at h
 rw [cutAt_err ha hb hn ht] at h
 unfold cutT cutP cutE
 rw [if_neg hs,if_neg hs,if_neg hs,h]
 exact ⟨if_neg ht,rfl,rfl⟩
set_option linter.unusedVariables false
open Go.RowKit
structure It where
 kind:Int
 n:Int
 s:ByteArray
def mayI (x:It):Bool :=
 if x.kind=1 then decide (x.s.size=0/\0<=x.n/\x.n<100000)
 else if x.kind=2 then decide (x.s.size=0/\-1099511627776<=x.n/\x.n<=1099511627776)
 else if x.kind=3 then decide (x.n=0/\textF x.s=0)
 else if x.kind=4 then decide (x.s.size=0/\(x.n=0\/x.n=1)) else false
theorem isEmpty_yes {s:ByteArray} (h:s.size=0):s.toList.isEmpty=true:=by
 rw [ByteArray.toList_eq,List.isEmpty_iff,List.eq_nil_iff_length_eq_zero];exact h
theorem isEmpty_no {s:ByteArray} (h:¬ s.size=0):s.toList.isEmpty=false:=by
 rw [ByteArray.toList_eq,List.isEmpty_eq_false_iff,ne_eq,List.eq_nil_iff_length_eq_zero];exact h
def firstE (f:Nat->Int) (n:Nat):Int:=match (List.range n).find? (fun k=>f k != 0) with
 | some k=>f k
 | none=>0
theorem firstE_err {f:Nat->Int} {n k:Nat} (hk:k<n) (h0:∀ j,j<k->f j=0) (h1:f k≠0):firstE f n=f k:=by
 unfold firstE
 have:(List.range n).find? (fun k=>f k != 0)=some k:=by
  rw [List.find?_range_eq_some]
  refine ⟨by simpa using h1,by simpa using hk,fun j hj=>by simp [h0 j hj]⟩
 rw [this]
theorem firstE_ok {f:Nat->Int} {n:Nat} (h:∀ j,j<n->f j=0):firstE f n=0:=by
 unfold firstE
 have:(List.range n).find? (fun k=>f k != 0)=none:=by
  rw [List.find?_eq_none]
  intro j hj
  simp [h j (List.mem_range.1 hj)]
 rw [this]
theorem firstE_zero {f:Nat->Int} {n:Nat} (h:firstE f n=0):∀ j,j<n->f j=0:=by
 intro j
 induction j using Nat.strongRecOn with
 | ind j ih =>
  intro hj
  apply Classical.byContradiction
  intro hne
  have:=firstE_err hj (fun i hi=>ih i hi (by omega)) hne
  rw [this] at h
  exact hne h
structure Row where
 len:Nat
 at_:Nat->It
set_option maxRecDepth 100000
open Go.RowKit
def GrowA (pb:Nat) (w wr:World):Prop:=w.heap.size<=wr.heap.size/\wr.os=w.os/\wr.tape=w.tape/\wr.output=w.output/\∀ b,b<w.heap.size->b≠pb->wr.heap[b]?=w.heap[b]?
theorem GrowA.refl (pb:Nat) (w:World):GrowA pb w w:=⟨Nat.le_refl _,rfl,rfl,rfl,fun _ _ _=>rfl⟩
theorem GrowA.below {pb:Nat} {w wr w':World} (h:GrowA pb w wr) (hb:Below wr.heap.size wr w'):GrowA pb w w':=⟨Nat.le_trans h.1 hb.size,hb.os.trans h.2.1,hb.tape.trans h.2.2.1,hb.output.trans h.2.2.2.1,fun b h1 h2=>(hb.block b (Nat.lt_of_lt_of_le h1 h.1)).trans (h.2.2.2.2 b h1 h2)⟩
theorem GrowA.trans {pb:Nat} {a b c:World} (h:GrowA pb a b) (h':GrowA pb b c):GrowA pb a c:=⟨Nat.le_trans h.1 h'.1,h'.2.1.trans h.2.1,h'.2.2.1.trans h.2.2.1,h'.2.2.2.1.trans h.2.2.2.1,fun k h1 hk=>(h'.2.2.2.2 k (Nat.lt_of_lt_of_le h1 h.1) hk).trans (h.2.2.2.2 k h1 hk)⟩
theorem GrowA.alloc {pb:Nat} {w wr:World} (h:GrowA pb w wr) (o:Obj):GrowA pb w (wr.alloc o):=h.below ((Below.refl _ _).alloc (Nat.le_refl _) o)
theorem GrowA.drew {pb:Nat} {w wr:World} (h:GrowA pb w wr):GrowA pb w wr.drew:=h
theorem GrowA.set {pb:Nat} {w wr:World} (h:GrowA pb w wr) (t:Nat) (u:Value):GrowA pb w (wr.setCell ⟨pb,t,none⟩ u):=⟨by simpa using h.1,h.2.1,h.2.2.1,h.2.2.2.1,fun b h1 h2=>(Below.heap_setCell _ _ _ _ (by simpa using h2)).trans (h.2.2.2.2 b h1 h2)⟩
theorem GrowA.low {pb:Nat} {w w':World} (h:GrowA pb w w') (hp:pb<=w.heap.size):Below pb w w':=⟨h.2.1,h.2.2.1,h.2.2.2.1,h.1,fun b hb=>h.2.2.2.2 b (by omega) (by omega)⟩
theorem GrowA.cell {pb:Nat} {w w':World} (h:GrowA pb w w') {b k:Nat} (hb:b<w.heap.size) (hn:b≠pb):w'.cell? ⟨b,k,none⟩=w.cell? ⟨b,k,none⟩:=World.cell?_of_block (h.2.2.2.2 b hb hn)
def ToksL (w:World) (b:Nat) (L:List Tok):Prop:=∀ k (hk:k<L.length),w.cell? ⟨b,k * 3,none⟩=some (vI L[k].kind)/\w.cell? ⟨b,k * 3 + 1,none⟩=some (vS L[k].s)/\w.cell? ⟨b,k * 3 + 2,none⟩=some (vI L[k].n)
theorem ToksL.grow {pb:Nat} {w w':World} {b:Nat} {L:List Tok} (h:ToksL w b L) (hg:GrowA pb w w') (hb:b<w.heap.size) (hn:b≠pb):ToksL w' b L:=fun k hk=>by
 obtain ⟨h1,h2,h3⟩:=h k hk
 exact ⟨(hg.cell hb hn).trans h1,(hg.cell hb hn).trans h2,(hg.cell hb hn).trans h3⟩
structure Pst where
 at':Nat
 opn:Nat
 wrong:Int
structure PaS (w:World) (pb b c:Nat) (T:List Tok) (st:Pst):Prop where
 l:w.cell? ⟨pb,0,none⟩=some (vL b 0 T.length c)
 a:w.cell? ⟨pb,1,none⟩=some (vI st.at')
 o:w.cell? ⟨pb,2,none⟩=some (vI st.opn)
 e:w.cell? ⟨pb,3,none⟩=some (vI st.wrong)
 fa:w.frozen? ⟨pb,1,none⟩=false
 fo:w.frozen? ⟨pb,2,none⟩=false
 fe:w.frozen? ⟨pb,3,none⟩=false
 pl:pb<w.heap.size
 bl:b<w.heap.size
 ne:b≠pb
 ts:ToksL w b T
theorem PaS.below {w w':World} {pb b c:Nat} {T:List Tok} {st:Pst} (h:PaS w pb b c T st) (hb:Below w.heap.size w w'):PaS w' pb b c T st :=
 ⟨(hb.cell (p:=⟨pb,0,none⟩) h.pl).trans h.l,(hb.cell (p:=⟨pb,1,none⟩) h.pl).trans h.a,(hb.cell (p:=⟨pb,2,none⟩) h.pl).trans h.o,(hb.cell (p:=⟨pb,3,none⟩) h.pl).trans h.e,(hb.frozen (p:=⟨pb,1,none⟩) h.pl).trans h.fa,(hb.frozen (p:=⟨pb,2,none⟩) h.pl).trans h.fo,(hb.frozen (p:=⟨pb,3,none⟩) h.pl).trans h.fe,Nat.lt_of_lt_of_le h.pl hb.size,Nat.lt_of_lt_of_le h.bl hb.size,h.ne,fun k hk=>by
  obtain ⟨h1,h2,h3⟩:=h.ts k hk
  exact ⟨(hb.cell (p:=⟨b,_,none⟩) h.bl).trans h1,(hb.cell (p:=⟨b,_,none⟩) h.bl).trans h2,(hb.cell (p:=⟨b,_,none⟩) h.bl).trans h3⟩⟩
theorem PaS.allocI {w:World} {pb b c:Nat} {T:List Tok} {st:Pst} (h:PaS w pb b c T st) (o:Obj):PaS (w.alloc o) pb b c T st:=h.below ((Below.refl _ _).alloc (Nat.le_refl _) o)
theorem PaS.toksSet {w:World} {pb b c:Nat} {T:List Tok} {st:Pst} (h:PaS w pb b c T st) (t:Nat) (u:Value):ToksL (w.setCell ⟨pb,t,none⟩ u) b T:=h.ts.grow ((GrowA.refl pb w).set t u) h.bl h.ne
theorem PaS.setA {w:World} {pb b c:Nat} {T:List Tok} {st:Pst} (h:PaS w pb b c T st) (n:Nat):PaS (w.setCell ⟨pb,1,none⟩ (vI n)) pb b c T { st with at':=n } :=
 ⟨by simp [go_sem,h.l],by simp [go_sem,h.a],by simp [go_sem,h.o],by simp [go_sem,h.e],by simp [go_sem,h.fa],by simp [go_sem,h.fo],by simp [go_sem,h.fe],by simpa using h.pl,by simpa using h.bl,h.ne,h.toksSet _ _⟩
theorem PaS.setO {w:World} {pb b c:Nat} {T:List Tok} {st:Pst} (h:PaS w pb b c T st) (n:Nat):PaS (w.setCell ⟨pb,2,none⟩ (vI n)) pb b c T { st with opn:=n } :=
 ⟨by simp [go_sem,h.l],by simp [go_sem,h.a],by simp [go_sem,h.o],by simp [go_sem,h.e],by simp [go_sem,h.fa],by simp [go_sem,h.fo],by simp [go_sem,h.fe],by simpa using h.pl,by simpa using h.bl,h.ne,h.toksSet _ _⟩
theorem PaS.setE {w:World} {pb b c:Nat} {T:List Tok} {st:Pst} (h:PaS w pb b c T st) (n:Int):PaS (w.setCell ⟨pb,3,none⟩ (vI n)) pb b c T { st with wrong:=n } :=
 ⟨by simp [go_sem,h.l],by simp [go_sem,h.a],by simp [go_sem,h.o],by simp [go_sem,h.e],by simp [go_sem,h.fa],by simp [go_sem,h.fo],by simp [go_sem,h.fe],by simpa using h.pl,by simpa using h.bl,h.ne,h.toksSet _ _⟩
def seeM (T:List Tok) (st:Pst) (a:Nat):Tok:=if st.wrong≠0\/T.length<=st.at' + a then tok0 else T.getD (st.at' + a) tok0
def eqT (t u:Tok):Bool:=decide (t.kind=u.kind) && decide (t.s=u.s) && decide (t.n=u.n)
def skipM (T:List Tok) (st:Pst) (t:Tok):Bool × Pst:=if eqT (seeM T st 0) t=true then (true,{ st with at':=st.at' + 1 }) else (false,st)
def failM (st:Pst) (e:Int):Pst:=if st.wrong=0 then { st with wrong:=e } else st
def missM (T:List Tok) (st:Pst):Pst:=if st.at'=T.length then failM st 5 else failM st 4
def wantM (T:List Tok) (st:Pst) (t:Tok):Pst:=if (skipM T st t).1=true then (skipM T st t).2 else missM T (skipM T st t).2
def enterM (T:List Tok) (st:Pst) (begins:Bool):Pst :=
 let st':=if 30<=st.opn then failM (if begins=true then st else missM T st) 8 else st
 { st' with opn:=st'.opn + 1 }
open Go
def topB (ops:Array Oper):Bool:=(List.range ops.size).all fun i=>((ops[i]?).map fun o=>o.after.all fun e=>!Region.binds .any e || decide (e.on<i)).getD true
theorem all_listed {ops:Array Oper} {listed:Array Bool} (hs:listed.size=ops.size) (ht:topB ops=true) (hr:Region.ready .any ops listed=[]):∀ i,i<ops.size->listed.getD i true=true:=by
 intro i
 induction i using Nat.strongRecOn with
 | ind i ih =>
  intro hi
  by_cases hl:listed.getD i true=true
  · exact hl
  · exfalso
    have hm:i∈Region.ready .any ops listed:=by
     unfold Region.ready
     refine List.mem_filter.2 ⟨List.mem_range.2 hi,?_⟩
     rw [Array.getElem?_eq_getElem hi]
     simp only [Option.map_some,Option.getD_some,Bool.and_eq_true,Bool.not_eq_true']
     refine ⟨by simpa using hl,?_⟩
     rw [Array.all_eq_true']
     intro e he
     unfold topB at ht
     rw [List.all_eq_true] at ht
     have h1:=ht i (List.mem_range.2 hi)
     rw [Array.getElem?_eq_getElem hi] at h1
     simp only [Option.map_some,Option.getD_some] at h1
     rw [Array.all_eq_true'] at h1
     have h2:=h1 e he
     cases hb:Region.binds .any e with
     | false=>rfl
     | true =>
      rw [hb] at h2
      simp only [Bool.not_true,Bool.false_or,decide_eq_true_eq] at h2
      have h3:=ih e.on h2 (by omega)
      simp only [Bool.not_true,Bool.false_or]
      have h4:e.on<listed.size:=by omega
      rw [Array.getD_eq_getD_getElem?,Array.getElem?_eq_getElem h4] at h3 ⊢
      exact h3
    rw [hr] at hm
    cases hm
theorem count_set {listed:Array Bool} {i:Nat} (h:listed.getD i true=false):(listed.setIfInBounds i true).toList.count false + 1=listed.toList.count false:=by
 have hi:i<listed.size:=by
  by_cases hi:i<listed.size
  · exact hi
  · rw [Array.getD_eq_getD_getElem?,Array.getElem?_eq_none (by omega)] at h
    cases h
 have hv:listed.toList[i]'(by simpa using hi)=false:=by
  rw [Array.getD_eq_getD_getElem?,Array.getElem?_eq_getElem hi] at h
  simpa using h
 rw [Array.toList_setIfInBounds]
 have:=List.count_set (a:=true) (b:=false) (l:=listed.toList) (i:=i) (h:=by simpa using hi)
 rw [this]
 have hp:0<listed.toList.count false:=List.count_pos_iff.2 (by rw [<- hv];exact List.getElem_mem _)
 have e1:(listed.toList[i]'(by simpa using hi) == false)=true:=by rw [hv];rfl
 rw [if_pos e1,if_neg (by decide)]
 omega
theorem wpAny_inv {P:Program} {ops:Array Oper} {Q:Exit->Act->World->Prop} (I:Array Bool->Act->World->Prop) (ht:topB ops=true)
 (step:∀ (listed:Array Bool) a w i o,listed.size=ops.size->I listed a w->ops[i]?=some o->listed.getD i true=false->(∀ e∈o.after,Region.binds .any e=true->listed.getD e.on false=true) ->
  if Region.wanted o (yielded ops a.tmps)=true then o.wp P a w (fun a' w'=>I (listed.setIfInBounds i true) a' w') Q else I (listed.setIfInBounds i true) (a.put o.dst undef) w)
 (fin:∀ (listed:Array Bool) a w,listed.size=ops.size->I listed a w->(∀ i,i<ops.size->listed.getD i true=true)->Q .normal a w) :
 ∀ (fuel:Nat) (listed:Array Bool) a w,listed.size=ops.size->listed.toList.count false<=fuel->I listed a w->wpAny P .any ops Q fuel listed a w:=by
 intro fuel
 induction fuel with
 | zero =>
  intro listed a w hs hc hI
  have hall:∀ i,i<ops.size->listed.getD i true=true:=fun i hi=>by
   cases h:listed.getD i true with
   | true=>rfl
   | false=>have:=count_set h;omega
  refine ⟨?_,fin listed a w hs hI hall⟩
  unfold Region.ready
  refine List.filter_eq_nil_iff.2 fun i hi=>?_
  rw [hall i (List.mem_range.1 hi)]
  simp
 | succ fuel ih =>
  intro listed a w hs hc hI
  refine ⟨fun hr=>fin listed a w hs hI (all_listed hs ht hr),fun i hi=>?_⟩
  unfold Region.ready at hi
  obtain ⟨h1,h2⟩:=List.mem_filter.1 hi
  have hlt:=List.mem_range.1 h1
  rw [Array.getElem?_eq_getElem hlt] at h2
  simp only [Option.map_some,Option.getD_some,Bool.and_eq_true,Bool.not_eq_true'] at h2
  obtain ⟨h3,h4⟩:=h2
  rw [Array.all_eq_true'] at h4
  have hst:=step listed a w i ops[i] hs hI (Array.getElem?_eq_getElem hlt) h3 (fun e he hb=>by have:=h4 e he;rw [hb] at this;simpa using this)
  have hnext:∀ a' w',I (listed.setIfInBounds i true) a' w'->wpAny P .any ops Q fuel (listed.setIfInBounds i true) a' w':=fun a' w' h=>ih _ a' w' (by simpa using hs) (by have:=count_set h3;omega) h
  unfold wpOp
  rw [Array.getElem?_eq_getElem hlt]
  show if Region.wanted ops[i] (yielded ops a.tmps)=true then _ else _
  split
  · rename_i hw
    rw [if_pos hw] at hst
    exact .inl (Oper.wp_mono hnext hst)
  · rename_i hw
    rw [if_neg hw] at hst
    exact hnext _ _ hst
def dstB (ops:Array Oper) (n:Nat):Bool:=(List.range ops.size).all fun i=>match (ops[i]?).bind (·.dst) with
 | none=>true
 | some s=>decide (s<n) && (List.range ops.size).all fun j=>decide (j=i) || decide ((ops[j]?).bind (·.dst)≠some s)
theorem dst_lt {ops:Array Oper} {n:Nat} (h:dstB ops n=true) {i:Nat} {o:Oper} {s:Nat} (ho:ops[i]?=some o) (hs:o.dst=some s):s<n:=by
 unfold dstB at h
 rw [List.all_eq_true] at h
 have hi:i<ops.size:=(gI ho).1
 have:=h i (List.mem_range.2 hi)
 rw [ho] at this
 simp only [Option.bind_some,hs,Bool.and_eq_true,decide_eq_true_eq] at this
 exact this.1
theorem dst_one {ops:Array Oper} {n:Nat} (h:dstB ops n=true) {i j:Nat} {o o':Oper} {s:Nat} (ho:ops[i]?=some o) (ho':ops[j]?=some o') (hs:o.dst=some s) (hs':o'.dst=some s):j=i:=by
 unfold dstB at h
 rw [List.all_eq_true] at h
 have hi:i<ops.size:=(gI ho).1
 have hj:j<ops.size:=(gI ho').1
 have:=h i (List.mem_range.2 hi)
 rw [ho] at this
 simp only [Option.bind_some,hs,Bool.and_eq_true,decide_eq_true_eq] at this
 have h2:=List.all_eq_true.1 this.2 j (List.mem_range.2 hj)
 rw [ho'] at h2
 simp only [Option.bind_some,hs',ne_eq,not_true_eq_false,decide_false,Bool.or_false,decide_eq_true_eq] at h2
 exact h2
structure SlotInv (ops:Array Oper) (a0:Act) (D:Nat->Value->World->Prop) (G:Array Bool->Act->World->Prop) (listed:Array Bool) (a:Act) (w:World):Prop where
 defers:a.defers=a0.defers
 size:a.tmps.size=a0.tmps.size
 old:∀ s,(∀ j o,ops[j]?=some o->o.dst=some s->listed.getD j false=false)->a.tmps[s]?=a0.tmps[s]?
 new:∀ j o s,ops[j]?=some o->o.dst=some s->listed.getD j false=true->∃ v,a.tmps[s]?=some v/\D j v w
 shut:∀ j o,ops[j]?=some o->listed.getD j false=true->∀ e∈o.after,Region.binds .any e=true->listed.getD e.on false=true
 more:G listed a w
theorem put_at {a:Act} {s t:Nat} {v:Value}:(a.put (some s) v).tmps[t]?=if s=t then (if s<a.tmps.size then some v else none) else a.tmps[t]?:=by
 show (a.tmps.setIfInBounds s v)[t]?=_
 rw [Array.getElem?_setIfInBounds]
theorem set_get {listed:Array Bool} {i j:Nat}:(listed.setIfInBounds i true).getD j false=(if i=j then (if i<listed.size then true else false) else listed.getD j false):=by
 rw [Array.getD_eq_getD_getElem?,Array.getD_eq_getD_getElem?,Array.getElem?_setIfInBounds]
 split
 · split <;> rfl
 · rfl
theorem SlotInv.did {ops:Array Oper} {a0:Act} {D:Nat->Value->World->Prop} {G:Array Bool->Act->World->Prop} {listed:Array Bool} {a:Act} {w w':World} {i:Nat} {o:Oper} {v:Value} (h:SlotInv ops a0 D G listed a w) (hd:dstB ops a0.tmps.size=true) (hsz:listed.size=ops.size) (ho:ops[i]?=some o)
 (haf:∀ e∈o.after,Region.binds .any e=true->listed.getD e.on false=true) (hD:D i v w') (hk:∀ j u,D j u w->D j u w') (hG:G (listed.setIfInBounds i true) (a.put o.dst v) w'):SlotInv ops a0 D G (listed.setIfInBounds i true) (a.put o.dst v) w':=by
 have hi:i<listed.size:=by rw [hsz];exact (gI ho).1
 have hkeep:∀ j,listed.getD j false=true->(listed.setIfInBounds i true).getD j false=true:=fun j hj=>by
  rw [set_get]
  by_cases e:i=j
  · rw [if_pos e,if_pos hi]
  · rw [if_neg e];exact hj
 refine ⟨?_,?_,?_,?_,?_,hG⟩
 · cases hs:o.dst <;> exact h.defers
 · cases hs:o.dst with
   | none=>exact h.size
   | some s=>show (a.tmps.setIfInBounds s v).size=_;rw [Array.size_setIfInBounds];exact h.size
 · intro s hn
   have h1:a.tmps[s]?=a0.tmps[s]?:=h.old s fun j o' ho' hs'=>by
    have:=hn j o' ho' hs'
    cases hl:listed.getD j false with
    | false=>rfl
    | true=>rw [hkeep j hl] at this;cases this
   cases hs:o.dst with
   | none=>exact h1
   | some t =>
    rw [put_at]
    split
    · rename_i e
      subst e
      have:=hn i o ho hs
      rw [set_get,if_pos rfl,if_pos hi] at this
      cases this
    · exact h1
 · intro j o' s ho' hs' hl
   by_cases hji:i=j
   · subst hji
     obtain rfl:o'=o:=Option.some.inj (ho'.symm.trans ho)
     rw [hs',put_at,if_pos rfl,if_pos (by rw [h.size];exact dst_lt hd ho hs')]
     exact ⟨v,rfl,hD⟩
   · rw [set_get,if_neg hji] at hl
     obtain ⟨u,hu,hDu⟩:=h.new j o' s ho' hs' hl
     refine ⟨u,?_,hk j u hDu⟩
     cases hs:o.dst with
     | none=>exact hu
     | some t =>
      rw [put_at,if_neg]
      · exact hu
      · intro e
        subst e
        exact hji (dst_one hd ho' ho hs' hs)
 · intro j o' ho' hl e he hb
   by_cases hji:i=j
   · subst hji
     obtain rfl:o'=o:=Option.some.inj (ho'.symm.trans ho)
     exact hkeep _ (haf e he hb)
   · rw [set_get,if_neg hji] at hl
     exact hkeep _ (h.shut j o' ho' hl e he hb)
def putAll (ops:List Oper) (v:Nat->Value) (k:Nat) (a:Act):Act:=match ops with
 | []=>a
 | o :: rest=>putAll rest v (k + 1) (a.put o.dst (v k))
theorem putAll_defers:∀ (ops:List Oper) (v:Nat->Value) (k:Nat) (a:Act),(putAll ops v k a).defers=a.defers
 | [],_,_,_=>rfl
 | o :: rest,v,k,a=>by rw [putAll,putAll_defers rest];cases o.dst <;> rfl
theorem putAll_old:∀ (ops:List Oper) (v:Nat->Value) (k:Nat) (a:Act) (s:Nat),(∀ o∈ops,o.dst≠some s)->(putAll ops v k a).tmps[s]?=a.tmps[s]?
 | [],_,_,_,_,_=>rfl
 | o :: rest,v,k,a,s,h=>by
  rw [putAll,putAll_old rest _ _ _ s (fun o' ho'=>h o' (List.mem_cons_of_mem _ ho'))]
  cases hs:o.dst with
  | none=>rfl
  | some t=>rw [put_at,if_neg (fun e=>h o (List.mem_cons_self ..) (by rw [hs,e]))]
theorem putAll_new:∀ (ops:List Oper) (v:Nat->Value) (k:Nat) (a:Act) (s:Nat) (j:Nat) (o:Oper),ops[j]?=some o->o.dst=some s->s<a.tmps.size->(∀ j' o',ops[j']?=some o'->o'.dst=some s->j'=j)->(putAll ops v k a).tmps[s]?=some (v (k + j))
 | [],_,_,_,_,j,o,h,_,_,_=>by simp at h
 | o0 :: rest,v,k,a,s,0,o,h,hs,hlt,hone=>by
  simp only [List.getElem?_cons_zero,Option.some.injEq] at h
  subst h
  rw [putAll,putAll_old rest _ _ _ s,hs,put_at,if_pos rfl,if_pos hlt]
  · rfl
  · intro o' ho' e
    obtain ⟨j',hj'⟩:=List.getElem?_of_mem ho'
    have:=hone (j' + 1) o' (by rw [List.getElem?_cons_succ];exact hj') e
    omega
 | o0 :: rest,v,k,a,s,j + 1,o,h,hs,hlt,hone=>by
  rw [List.getElem?_cons_succ] at h
  have hlt':s<(a.put o0.dst (v k)).tmps.size:=by
   cases hs':o0.dst with
   | none=>exact hlt
   | some t=>show s<(a.tmps.setIfInBounds t _).size;rw [Array.size_setIfInBounds];exact hlt
  rw [putAll,putAll_new rest v (k + 1) _ s j o h hs hlt' (fun j' o' h1 h2=>by have:=hone (j' + 1) o' (by rw [List.getElem?_cons_succ];exact h1) h2;omega)]
  rw [show k + 1 + j=k + (j + 1) by omega]
theorem slots_end {ops:Array Oper} {a0:Act} {D:Nat->Value->World->Prop} {G:Array Bool->Act->World->Prop} {listed:Array Bool} {a:Act} {w:World} (h:SlotInv ops a0 D G listed a w) (hd:dstB ops a0.tmps.size=true) (hsz:listed.size=ops.size) (hall:∀ i,i<ops.size->listed.getD i true=true) :
 ∃ v:Nat->Value,a=putAll ops.toList v 0 a0/\∀ j (o:Oper) s,ops[j]?=some o->o.dst=some s->D j (v j) w:=by
 have hl:∀ j,j<ops.size->listed.getD j false=true:=fun j hj=>by
  have:=hall j hj
  rw [Array.getD_eq_getD_getElem?,Array.getElem?_eq_getElem (by omega)] at this ⊢
  exact this
 refine ⟨fun j=>(Option.bind ops[j]? Oper.dst).elim undef fun s=>(a.tmps[s]?).getD undef,?_,?_⟩
 · have e1:a.tmps=(putAll ops.toList (fun j=>(Option.bind ops[j]? Oper.dst).elim undef fun s=>(a.tmps[s]?).getD undef) 0 a0).tmps:=by
    refine Array.ext_getElem? fun s=>?_
    by_cases hx:∃ (j:Nat) (o:Oper),ops[j]?=some o/\o.dst=some s
    · obtain ⟨j,o,ho,hs⟩:=hx
      obtain ⟨v,hv,_⟩:=h.new j o s ho hs (hl j (gI ho).1)
      rw [putAll_new _ _ _ _ s j o (by rw [Array.getElem?_toList];exact ho) hs (dst_lt hd ho hs) (fun j' o' h1 h2=>dst_one hd ho (by rw [Array.getElem?_toList] at h1;exact h1) hs h2)]
      simp only [Nat.zero_add,ho,Option.bind_some,hs,Option.elim_some,hv,Option.getD_some]
    · rw [putAll_old _ _ _ _ s (fun o ho e=>by
       obtain ⟨j,hj⟩:=List.getElem?_of_mem ho
       rw [Array.getElem?_toList] at hj
       exact hx ⟨j,o,hj,e⟩)]
      exact h.old s fun j o ho hs=>absurd ⟨j,o,ho,hs⟩ hx
   have e2:a.defers=(putAll ops.toList (fun j=>(Option.bind ops[j]? Oper.dst).elim undef fun s=>(a.tmps[s]?).getD undef) 0 a0).defers:=by rw [putAll_defers];exact h.defers
   cases a
   simp only at e1 e2
   rw [Act.mk.injEq]
   exact ⟨e1,e2⟩
 · intro j o s ho hs
   obtain ⟨v,hv,hD⟩:=h.new j o s ho hs (hl j (gI ho).1)
   simp only [ho,Option.bind_some,hs,Option.elim_some,hv,Option.getD_some]
   exact hD
theorem wp_region_slots {P:Program} {id:Nat} {ops:Array Oper} {Q:Exit->Act->World->Prop} {a0:Act} {w0:World} (hm:P.follows .mixedOrders=true) (D:Nat->Value->World->Prop) (G:Array Bool->Act->World->Prop) (ht:topB ops=true) (hd:dstB ops a0.tmps.size=true)
 (start:G (Array.replicate ops.size false) a0 w0.drew)
 (step:∀ (listed:Array Bool) a w i (o:Oper),listed.size=ops.size->SlotInv ops a0 D G listed a w->ops[i]?=some o->listed.getD i true=false->(∀ e∈o.after,Region.binds .any e=true->listed.getD e.on false=true) ->
  if Region.wanted o (yielded ops a.tmps)=true then o.wp P a w (fun a' w'=>∃ v,a'=a.put o.dst v/\D i v w'/\(∀ j u,D j u w->D j u w')/\G (listed.setIfInBounds i true) (a.put o.dst v) w') Q else D i undef w/\G (listed.setIfInBounds i true) (a.put o.dst undef) w)
 (fin:∀ (v:Nat->Value) w,(∀ j (o:Oper) s,ops[j]?=some o->o.dst=some s->D j (v j) w)->(∀ j (o:Oper) s,ops[j]?=some o->o.dst=some s->(putAll ops.toList v 0 a0).tmps[s]?=some (v j))->G (Array.replicate ops.size true) (putAll ops.toList v 0 a0) w->Q .normal (putAll ops.toList v 0 a0) w) :
 (Code.region id ops true).wp P Q a0 w0:=by
 refine wp_region_any hm ?_
 refine wpAny_inv (SlotInv ops a0 D G) ht ?_ ?_ _ _ _ _ (by simp) (Nat.le_trans (List.count_le_length) (by simp)) ⟨rfl,rfl,fun _ _=>rfl,fun j o s _ _ hl=>?_,fun j o _ hl=>?_,start⟩
 · intro listed a w i o hsz h ho hl haf
   have k:=step listed a w i o hsz h ho hl haf
   split
   · rename_i hw
     rw [if_pos hw] at k
     exact Oper.wp_mono (fun a' w' ⟨v,e,h1,h2,h3⟩=>by rw [e];exact h.did hd hsz ho haf h1 h2 h3) k
   · rename_i hw
     rw [if_neg hw] at k
     exact h.did hd hsz ho haf k.1 (fun _ _ h=>h) k.2
 · intro listed a w hsz h hall
   obtain ⟨v,e,hv⟩:=slots_end h hd hsz hall
   have hG:=h.more
   rw [e] at hG ⊢
   refine fin v w hv (fun j o s ho hs=>?_) ?_
   · have:=putAll_new ops.toList v 0 a0 s j o (by rw [Array.getElem?_toList];exact ho) hs (dst_lt hd ho hs) (fun j' o' h1 h2=>dst_one hd ho (by rw [Array.getElem?_toList] at h1;exact h1) hs h2)
     rw [Nat.zero_add] at this
     exact this
   have hl:listed=Array.replicate ops.size true:=by
    refine Array.ext (by simpa using hsz) fun i h1 h2=>?_
    have:=hall i (by omega)
    rw [Array.getD_eq_getD_getElem?,Array.getElem?_eq_getElem h1] at this
    simpa using this
   rw [<- hl]
   exact hG
 · rw [Array.getD_eq_getD_getElem?,Array.getElem?_replicate] at hl
   split at hl <;> cases hl
 · rw [Array.getD_eq_getD_getElem?,Array.getElem?_replicate] at hl
   split at hl <;> cases hl
theorem SlotInv.made {ops:Array Oper} {a0:Act} {D:Nat->Value->World->Prop} {G:Array Bool->Act->World->Prop} {listed:Array Bool} {a:Act} {w:World} (h:SlotInv ops a0 D G listed a w) (j:Nat) (o:Oper) (s:Nat) (ho:ops[j]?=some o) (hs:o.dst=some s) (hl:listed.getD j false=true):∃ v,a.eval (.tmp s)=v/\D j v w:=by
 obtain ⟨v,hv,hD⟩:=h.new j o s ho hs hl
 refine ⟨v,?_,hD⟩
 show a.tmps.getD s undef=v
 rw [Array.getD_eq_getD_getElem?,hv]
 rfl
theorem SlotInv.later {ops:Array Oper} {a0:Act} {D:Nat->Value->World->Prop} {G:Array Bool->Act->World->Prop} {listed:Array Bool} {a:Act} {w:World} (h:SlotInv ops a0 D G listed a w) (j i:Nat) (o:Oper) (e:Edge) (ho:ops[j]?=some o) (he:e∈o.after) (hb:Region.binds .any e=true) (hon:e.on=i) (hl:listed.getD i true=false):listed.getD j false=false:=by
 cases hx:listed.getD j false with
 | false=>rfl
 | true =>
  have:=h.shut j o ho hx e he hb
  rw [hon] at this
  rw [Array.getD_eq_getD_getElem?] at hl this
  cases hy:listed[i]? with
  | none=>rw [hy] at this;cases this
  | some b=>rw [hy] at hl this;simp at hl this;rw [hl] at this;cases this
open Go
theorem wp_val {P:Program} {o:Oper} {a:Act} {w w':World} {K:Act->World->Prop} {Q:Exit->Act->World->Prop} {v:Value} (h:(execOp a.eval o).run P w=.ok (.value v) w') (hK:K (a.put o.dst v) w'):o.wp P a w K Q:=by
 unfold Oper.wp
 rw [h]
 exact hK
theorem wp_skip {P:Program} {o:Oper} {a:Act} {w w':World} {K:Act->World->Prop} {Q:Exit->Act->World->Prop} (h:(execOp a.eval o).run P w=.ok .skip w') (hK:K (a.put o.dst undef) w'):o.wp P a w K Q:=by
 unfold Oper.wp
 rw [h]
 exact hK
theorem wp_enter {P:Program} {o:Oper} {a:Act} {w w':World} {K:Act->World->Prop} {Q:Exit->Act->World->Prop} {f:FuncId} {args:Array Value} (h:(execOp a.eval o).run P w=.ok (.enter f args) w') (hc:Calls P f args w' fun e w''=>∃ v,e=.returned v/\K (a.put o.dst v) w''):o.wp P a w K Q:=by
 unfold Oper.wp
 rw [h]
 show Calls P f args w' _
 refine hc.mono ?_
 rintro e w'' ⟨v,rfl,hv⟩
 exact hv
def noDst (ops:Array Oper) (s:Nat):Bool:=(List.range ops.size).all fun i=>decide ((ops[i]?).bind (·.dst)≠some s)
theorem SlotInv.given {ops:Array Oper} {a0:Act} {D:Nat->Value->World->Prop} {G:Array Bool->Act->World->Prop} {listed:Array Bool} {a:Act} {w:World} (h:SlotInv ops a0 D G listed a w) (s:Nat) (v:Value) (hv:a0.tmps[s]?=some v) (hn:noDst ops s=true):a.tmps[s]?=some v :=
 (h.old s fun j o ho hs=>by
  unfold noDst at hn
  have:=List.all_eq_true.1 hn j (List.mem_range.2 (gI ho).1)
  rw [ho] at this
  simp only [Option.bind_some,hs,ne_eq,not_true_eq_false,decide_false] at this
  cases this).trans hv
theorem set_other_get {listed:Array Bool} {i j:Nat} (h:i≠j):(listed.setIfInBounds i true).getD j false=listed.getD j false:=by rw [set_get,if_neg h]
theorem set_this_get {listed:Array Bool} {i n:Nat} (hs:listed.size=n) (hi:i<n):(listed.setIfInBounds i true).getD i false=true:=by rw [set_get,if_pos rfl,if_pos (by omega)]
theorem SlotInv.later2 {ops:Array Oper} {a0:Act} {D:Nat->Value->World->Prop} {G:Array Bool->Act->World->Prop} {listed:Array Bool} {a:Act} {w:World} (h:SlotInv ops a0 D G listed a w) (j i:Nat) (o:Oper) (e:Edge) (ho:ops[j]?=some o) (he:e∈o.after) (hb:Region.binds .any e=true) (hon:e.on=i) (hl:listed.getD i false=false):listed.getD j false=false:=by
 cases hx:listed.getD j false with
 | false=>rfl
 | true =>
  have:=h.shut j o ho hx e he hb
  rw [hon,hl] at this
  cases this
theorem put_other {a:Act} {s t:Nat} {v:Value} (h:s≠t):(a.put (some s) v).tmps[t]?=a.tmps[t]?:=by rw [put_at,if_neg h]
theorem put_this {a:Act} {s:Nat} {v:Value} (h:s<a.tmps.size):(a.put (some s) v).tmps[s]?=some v:=by rw [put_at,if_pos rfl,if_pos h]
theorem want_none {o:Oper} {y:Nat->Option Bool} (h:o.guard=none):Region.wanted o y=true:=by
 unfold Region.wanted
 rw [h]
open Go.RowKit
open Go.RowKit
def eats:Nat->Nat->List UInt8->Option Nat
 | _,0,_=>some 0
 | 0,_ + 1,_=>none
 | f + 1,k + 1,Y=>if bk (bAt Y 0)=true then eats f k (Y.drop 1) else if (tk Y).1=0 then (if (tk Y).2.2<=k + 1 then (eats f (k + 1 - (tk Y).2.2) (Y.drop (tk Y).2.2)).map (· + 1) else none) else none
theorem eats_cut {l:List UInt8}:∀ (f k:Nat) (Y:List UInt8) (m:Nat) (L:List Tok) (a:Nat),CutTo l L a->l.drop a=Y->a + k<=l.length->eats f k Y=some m->L.length + m<=200->∃ L',CutTo l L' (a + k)/\L'.length=L.length + m
 | f,0,Y,m,L,a,h,hd,hk,he,hm=>by
  have e:m=0:=by cases f <;> (simp [eats] at he;exact he.symm)
  exact ⟨L,h,by omega⟩
 | 0,k + 1,Y,m,L,a,h,hd,hk,he,hm=>by simp [eats] at he
 | f + 1,k + 1,Y,m,L,a,h,hd,hk,he,hm=>by
  have ha:a<l.length:=by omega
  have hb0:bAt Y 0=bAt l a:=by rw [<- hd,bAt_drop];rfl
  rw [eats] at he
  by_cases c1:bk (bAt Y 0)=true
  · rw [if_pos c1] at he
    have h1:1<=bl (l.drop a):=by
     rw [hd]
     cases Y with
     | nil =>
      have:=congrArg List.length hd
      rw [List.length_drop] at this
      simp at this
      omega
     | cons c r=>rw [bAt_zero] at c1;unfold bl;rw [if_pos c1];omega
    have h2:=h.blanks h1
    obtain ⟨L',i1,i2⟩:=eats_cut f k (Y.drop 1) m L (a + 1) h2 (by rw [<- hd,List.drop_drop]) (by omega) he hm
    exact ⟨L',by rw [show a + (k + 1)=a + 1 + k by omega];exact i1,i2⟩
  · rw [if_neg c1] at he
    by_cases c2:(tk Y).1=0
    · rw [if_pos c2] at he
      by_cases c3:(tk Y).2.2<=k + 1
      · rw [if_pos c3] at he
        cases hr:eats f (k + 1 - (tk Y).2.2) (Y.drop (tk Y).2.2) with
        | none=>rw [hr] at he;simp at he
        | some m' =>
         rw [hr] at he
         simp only [Option.map_some,Option.some.injEq] at he
         have c1':bk (bAt l a)=false:=by rw [<- hb0];simpa using c1
         have ht:(tk (l.drop a)).1=0:=by rw [hd];exact c2
         have h2:=h.tok ha c1' (by omega) ht
         rw [hd] at h2
         obtain ⟨L',i1,i2⟩:=eats_cut f _ (Y.drop (tk Y).2.2) m' _ _ h2 (by rw [<- hd,List.drop_drop,hd]) (by omega) hr (by rw [List.length_append];simp only [List.length_singleton];omega)
         refine ⟨L',by rw [show a + (k + 1)=a + (tk Y).2.2 + (k + 1 - (tk Y).2.2) by omega];exact i1,?_⟩
         rw [i2,List.length_append]
         simp only [List.length_singleton]
         omega
      · rw [if_neg c3] at he;cases he
    · rw [if_neg c2] at he;cases he
def Eat (X Y:List UInt8) (m:Nat):Prop:=∃ f,eats f X.length (X ++ Y)=some m
theorem eat_cut {l X Y:List UInt8} {m:Nat} {L:List Tok} {a:Nat} (h:Eat X Y m) (hc:CutTo l L a) (hd:l.drop a=X ++ Y) (hm:L.length + m<=200):∃ L',CutTo l L' (a + X.length)/\L'.length=L.length + m:=by
 obtain ⟨f,hf⟩:=h
 have hl:=congrArg List.length hd
 rw [List.length_drop,List.length_append] at hl
 rcases Nat.eq_zero_or_pos X.length with e | e
 · rw [e] at hf ⊢
   have e0:m=0:=by cases f <;> (simp [eats] at hf;exact hf.symm)
   exact ⟨L,hc,by omega⟩
 · exact eats_cut f _ _ m L a hc hd (by omega) hf hm
def Eats (X Y:List UInt8) (m:Nat):Prop:=∀ (l:List UInt8) (L:List Tok) (a:Nat),CutTo l L a->l.drop a=X ++ Y->L.length + m<=200->∃ L',CutTo l L' (a + X.length)/\L'.length<=L.length + m
theorem Eat.eats {X Y:List UInt8} {m n:Nat} (h:Eat X Y m) (hn:m<=n):Eats X Y n:=by
 intro l L a hc hd hm
 obtain ⟨L',i1,i2⟩:=eat_cut h hc hd (by omega)
 exact ⟨L',i1,by omega⟩
theorem Eats.append {X Z Y:List UInt8} {m n:Nat} (h1:Eats X (Z ++ Y) m) (h2:Eats Z Y n):Eats (X ++ Z) Y (m + n):=by
 intro l L a hc hd hm
 obtain ⟨L1,i1,i2⟩:=h1 l L a hc (by rw [hd];simp) (by omega)
 have hd2:l.drop (a + X.length)=Z ++ Y:=by rw [<- List.drop_drop,hd,List.append_assoc,List.drop_left]
 obtain ⟨L2,j1,j2⟩:=h2 l L1 (a + X.length) i1 hd2 (by omega)
 exact ⟨L2,by rw [List.length_append,<- Nat.add_assoc];exact j1,by omega⟩
theorem Eats.more {X Y:List UInt8} {m n:Nat} (h:Eats X Y m) (hn:m<=n):Eats X Y n:=by
 intro l L a hc hd hm
 obtain ⟨L',i1,i2⟩:=h l L a hc hd (by omega)
 exact ⟨L',i1,by omega⟩
def baseL:List (List UInt8):=[[47,114],[47,47,97],[47,47,42],[47,114,47,42],[47,47,64,107],[47,47,116,101,120,116,40,41]]
def stepL:List (List UInt8):=[[97],[98],[42],[64,107],[64,109],[46,46],[116,101,120,116,40,41],[110,111,100,101,40,41],[100,101,115,99,101,110,100,97,110,116,58,58,97],[97,110,99,101,115,116,111,114,58,58,42],[102,111,108,108,111,119,105,110,103,58,58,98],[112,114,101,99,101,100,105,110,103,58,58,42],[102,111,108,108,111,119,105,110,103,45,115,105,98,108,105,110,103,58,58,42],[112,114,101,99,101,100,105,110,103,45,115,105,98,108,105,110,103,58,58,110,111,100,101,40,41],[115,101,108,102,58,58,99],[100,101,115,99,101,110,100,97,110,116,45,111,114,45,115,101,108,102,58,58,110,111,100,101,40,41],[99,111,109,109,101,110,116,40,41],[99]]
def q0L:List (List UInt8):=[[49],[47,47,97],[34,120,34],[116,114,117,101,40,41],[40,41]]
def sepL:List (List UInt8):=[[47],[47,47]]
theorem base_eat (c:UInt8) (R:List UInt8) (hc:c=47\/c=41\/c=32):∀ i,i<6->∃ m,m<=6/\Eat (baseL.getD i []) (c :: R) m:=by
 intro i hi
 have h:i=0\/i=1\/i=2\/i=3\/i=4\/i=5:=by omega
 rcases hc with rfl | rfl | rfl
 all_goals
  rcases h with rfl | rfl | rfl | rfl | rfl | rfl
 · exact ⟨2,by decide,12,by kernel_rfl⟩
 · exact ⟨2,by decide,12,by kernel_rfl⟩
 · exact ⟨2,by decide,12,by kernel_rfl⟩
 · exact ⟨4,by decide,12,by kernel_rfl⟩
 · exact ⟨3,by decide,12,by kernel_rfl⟩
 · exact ⟨4,by decide,12,by kernel_rfl⟩
 · exact ⟨2,by decide,12,by kernel_rfl⟩
 · exact ⟨2,by decide,12,by kernel_rfl⟩
 · exact ⟨2,by decide,12,by kernel_rfl⟩
 · exact ⟨4,by decide,12,by kernel_rfl⟩
 · exact ⟨3,by decide,12,by kernel_rfl⟩
 · exact ⟨4,by decide,12,by kernel_rfl⟩
 · exact ⟨2,by decide,12,by kernel_rfl⟩
 · exact ⟨2,by decide,12,by kernel_rfl⟩
 · exact ⟨2,by decide,12,by kernel_rfl⟩
 · exact ⟨4,by decide,12,by kernel_rfl⟩
 · exact ⟨3,by decide,12,by kernel_rfl⟩
 · exact ⟨4,by decide,12,by kernel_rfl⟩
theorem step_eat (c:UInt8) (R:List UInt8) (hc:c=47\/c=41\/c=32):∀ i,i<18->∃ m,m<=6/\Eat (stepL.getD i []) (c :: R) m:=by
 intro i hi
 have h:i=0\/i=1\/i=2\/i=3\/i=4\/i=5\/i=6\/i=7\/i=8\/i=9\/i=10\/i=11\/i=12\/i=13\/i=14\/i=15\/i=16\/i=17:=by omega
 rcases hc with rfl | rfl | rfl
 all_goals
  rcases h with rfl | rfl | rfl | rfl | rfl | rfl | rfl | rfl | rfl | rfl | rfl | rfl | rfl | rfl | rfl | rfl | rfl | rfl
 · exact ⟨1,by decide,12,by kernel_rfl⟩
 · exact ⟨1,by decide,12,by kernel_rfl⟩
 · exact ⟨1,by decide,12,by kernel_rfl⟩
 · exact ⟨2,by decide,12,by kernel_rfl⟩
 · exact ⟨2,by decide,12,by kernel_rfl⟩
 · exact ⟨1,by decide,12,by kernel_rfl⟩
 · exact ⟨3,by decide,12,by kernel_rfl⟩
 · exact ⟨3,by decide,12,by kernel_rfl⟩
 · exact ⟨3,by decide,12,by kernel_rfl⟩
 · exact ⟨3,by decide,12,by kernel_rfl⟩
 · exact ⟨3,by decide,12,by kernel_rfl⟩
 · exact ⟨3,by decide,12,by kernel_rfl⟩
 · exact ⟨3,by decide,12,by kernel_rfl⟩
 · exact ⟨5,by decide,12,by kernel_rfl⟩
 · exact ⟨3,by decide,12,by kernel_rfl⟩
 · exact ⟨5,by decide,12,by kernel_rfl⟩
 · exact ⟨3,by decide,12,by kernel_rfl⟩
 · exact ⟨1,by decide,12,by kernel_rfl⟩
 · exact ⟨1,by decide,12,by kernel_rfl⟩
 · exact ⟨1,by decide,12,by kernel_rfl⟩
 · exact ⟨1,by decide,12,by kernel_rfl⟩
 · exact ⟨2,by decide,12,by kernel_rfl⟩
 · exact ⟨2,by decide,12,by kernel_rfl⟩
 · exact ⟨1,by decide,12,by kernel_rfl⟩
 · exact ⟨3,by decide,12,by kernel_rfl⟩
 · exact ⟨3,by decide,12,by kernel_rfl⟩
 · exact ⟨3,by decide,12,by kernel_rfl⟩
 · exact ⟨3,by decide,12,by kernel_rfl⟩
 · exact ⟨3,by decide,12,by kernel_rfl⟩
 · exact ⟨3,by decide,12,by kernel_rfl⟩
 · exact ⟨3,by decide,12,by kernel_rfl⟩
 · exact ⟨5,by decide,12,by kernel_rfl⟩
 · exact ⟨3,by decide,12,by kernel_rfl⟩
 · exact ⟨5,by decide,12,by kernel_rfl⟩
 · exact ⟨3,by decide,12,by kernel_rfl⟩
 · exact ⟨1,by decide,12,by kernel_rfl⟩
 · exact ⟨1,by decide,12,by kernel_rfl⟩
 · exact ⟨1,by decide,12,by kernel_rfl⟩
 · exact ⟨1,by decide,12,by kernel_rfl⟩
 · exact ⟨2,by decide,12,by kernel_rfl⟩
 · exact ⟨2,by decide,12,by kernel_rfl⟩
 · exact ⟨1,by decide,12,by kernel_rfl⟩
 · exact ⟨3,by decide,12,by kernel_rfl⟩
 · exact ⟨3,by decide,12,by kernel_rfl⟩
 · exact ⟨3,by decide,12,by kernel_rfl⟩
 · exact ⟨3,by decide,12,by kernel_rfl⟩
 · exact ⟨3,by decide,12,by kernel_rfl⟩
 · exact ⟨3,by decide,12,by kernel_rfl⟩
 · exact ⟨3,by decide,12,by kernel_rfl⟩
 · exact ⟨5,by decide,12,by kernel_rfl⟩
 · exact ⟨3,by decide,12,by kernel_rfl⟩
 · exact ⟨5,by decide,12,by kernel_rfl⟩
 · exact ⟨3,by decide,12,by kernel_rfl⟩
 · exact ⟨1,by decide,12,by kernel_rfl⟩
theorem sep_eat (R:List UInt8):∀ j,j<2->∀ i,i<18->∀ Z,stepL.getD i [] ++ R=Z->Eat (sepL.getD j []) Z 1:=by
 intro j hj i hi Z hZ
 have h:i=0\/i=1\/i=2\/i=3\/i=4\/i=5\/i=6\/i=7\/i=8\/i=9\/i=10\/i=11\/i=12\/i=13\/i=14\/i=15\/i=16\/i=17:=by omega
 have h2:j=0\/j=1:=by omega
 subst hZ
 rcases h2 with rfl | rfl
 all_goals
  rcases h with rfl | rfl | rfl | rfl | rfl | rfl | rfl | rfl | rfl | rfl | rfl | rfl | rfl | rfl | rfl | rfl | rfl | rfl
 all_goals exact ⟨3,by kernel_rfl⟩
def OkP (X:List UInt8) (m:Nat):Prop:=∀ c R,(c=47\/c=41\/c=32)->Eats X (c :: R) m
theorem okP_base {i:Nat} (hi:i<6):OkP (baseL.getD i []) 6:=by
 intro c R hc
 obtain ⟨m,h1,h2⟩:=base_eat c R hc i hi
 exact h2.eats h1
theorem sep_first {j:Nat} (hj:j<2):∃ S,sepL.getD j []=47 :: S:=by
 have h2:j=0\/j=1:=by omega
 rcases h2 with rfl | rfl
 · exact ⟨[],rfl⟩
 · exact ⟨[47],rfl⟩
theorem OkP.step {X:List UInt8} {m i j:Nat} (h:OkP X m) (hj:j<2) (hi:i<18):OkP (X ++ (sepL.getD j [] ++ stepL.getD i [])) (m + 7):=by
 intro c R hc
 obtain ⟨S,hS⟩:=sep_first hj
 obtain ⟨q,h1,h2⟩:=step_eat c R hc i hi
 have a2:Eats (sepL.getD j [] ++ stepL.getD i []) (c :: R) (1 + 6):=Eats.append ((sep_eat (c :: R) j hj i hi _ rfl).eats (Nat.le_refl _)) (h2.eats h1)
 have a1:=h 47 (S ++ stepL.getD i [] ++ c :: R) (.inl rfl)
 refine Eats.append (n:=7) ?_ a2
 rw [hS]
 simpa using a1
open Go.RowKit
def itoaL (n:Nat):List UInt8:=if n<10 then [UInt8.ofNat (48 + n)] else itoaL (n / 10) ++ [UInt8.ofNat (48 + n % 10)]
termination_by n
decreasing_by omega
theorem itoaL_lt {n:Nat} (h:n<10):itoaL n=[UInt8.ofNat (48 + n)]:=by rw [itoaL,if_pos h]
theorem itoaL_ge {n:Nat} (h:¬ n<10):itoaL n=itoaL (n / 10) ++ [UInt8.ofNat (48 + n % 10)]:=by rw [itoaL,if_neg h]
theorem dig_nat {d:Nat} (h:d<10):((UInt8.ofNat (48 + d)).toNat:Int)=48 + d:=by
 rw [UInt8.toNat_ofNat',Nat.mod_eq_of_lt (by omega)]
 omega
theorem dl_app:∀ (X Y:List UInt8),dl X=X.length->dl (X ++ Y)=X.length + dl Y
 | [],Y,_=>by simp
 | c :: r,Y,h=>by
  unfold dl at h
  by_cases hc:dgt (c.toNat:Int)=true
  · rw [if_pos hc] at h
    rw [List.cons_append,dl,if_pos hc,dl_app r Y (by simpa using h)]
    simp;omega
  · rw [if_neg hc] at h;simp at h
theorem bAt_app (X Y:List UInt8) (k:Nat) (h:k<X.length):bAt (X ++ Y) k=bAt X k:=by
 unfold bAt;rw [List.getD_eq_getElem?_getD,List.getD_eq_getElem?_getD,List.getElem?_append_left h]
theorem bAt_app_at (X:List UInt8) (c:UInt8) (Y:List UInt8):bAt (X ++ c :: Y) X.length=(c.toNat:Int):=by
 unfold bAt;rw [List.getD_eq_getElem?_getD,List.getElem?_append_right (Nat.le_refl _)];simp
theorem numV_app (X Y:List UInt8):∀ k,k<=X.length->numV (X ++ Y) k=numV X k
 | 0,_=>rfl
 | k + 1,h=>by rw [numV_succ,numV_succ,numV_app X Y k (by omega),bAt_app X Y k (by omega)]
theorem itoa_facts (n:Nat):dl (itoaL n)=(itoaL n).length/\numV (itoaL n) (itoaL n).length=n/\0<(itoaL n).length:=by
 induction n using Nat.strongRecOn with
 | ind n ih =>
  by_cases h:n<10
  · rw [itoaL_lt h]
    have e:=dig_nat h
    have hd:dgt ((UInt8.ofNat (48 + n)).toNat:Int)=true:=dgt_iff.2 (by omega)
    refine ⟨by rw [dl,if_pos hd];simp [dl],?_,by simp⟩
    show 10 * (0:Int) + (bAt [UInt8.ofNat (48 + n)] 0 - 48)=n
    rw [bAt_zero,e]
    omega
  · rw [itoaL_ge h]
    obtain ⟨i1,i2,i3⟩:=ih (n / 10) (by omega)
    have hm:n % 10<10:=Nat.mod_lt _ (by omega)
    have e:=dig_nat hm
    have hd:dgt ((UInt8.ofNat (48 + n % 10)).toNat:Int)=true:=dgt_iff.2 (by omega)
    refine ⟨?_,?_,by simp⟩
    · rw [dl_app _ _ i1,dl,if_pos hd];simp [dl]
    · rw [List.length_append,List.length_singleton,numV_succ,numV_app _ _ _ (Nat.le_refl _),i2,bAt_app_at,e]
      omega
theorem dl_blank (R:List UInt8):dl (32 :: R)=0:=by unfold dl;rw [if_neg (by decide)]
theorem good_num (n:Nat) (hn:(n:Int)<=1099511627776) (R:List UInt8):tk (itoaL n ++ 32 :: R)=(0,⟨2,⟨#[]⟩,n⟩,(itoaL n).length):=by
 obtain ⟨h1,h2,h3⟩:=itoa_facts n
 have hb:bAt (itoaL n ++ 32 :: R) 0=bAt (itoaL n) 0:=bAt_app _ _ 0 h3
 have hd:dgt (bAt (itoaL n) 0)=true:=dl_lt _ 0 (by omega)
 have hd':=dgt_iff.1 hd
 have e1:dl (itoaL n ++ 32 :: R)=(itoaL n).length:=by rw [dl_app _ _ h1,dl_blank];rfl
 have e2:numV (itoaL n ++ 32 :: R) (itoaL n).length=n:=by rw [numV_app _ _ _ (Nat.le_refl _),h2]
 unfold tk
 rw [hb,if_neg (by unfold lett;simp;omega),if_neg (by omega),if_pos hd,e1,e2,if_pos hn]
theorem wl_blank:∀ (X:List UInt8) (f:Bool) (R:List UInt8),wl X f=X.length->wl (X ++ 32 :: R) f=X.length
 | [],f,R,_=>by
  have:wb ((32:UInt8).toNat:Int) f=false:=by cases f <;> decide
  show (if wb ((32:UInt8).toNat:Int) f=true then _ else 0)=0
  rw [if_neg (by rw [this];decide)]
 | c :: r,f,R,h=>by
  unfold wl at h
  by_cases hc:wb (c.toNat:Int) f=true
  · rw [if_pos hc] at h
    rw [List.cons_append,wl,if_pos hc,wl_blank r false R (by simpa using h)]
    simp
  · rw [if_neg hc] at h;simp at h
theorem wl_first {c:UInt8} {r:List UInt8} (h:wl (c :: r) true=(c :: r).length):lett (c.toNat:Int)=true:=by
 unfold wl at h
 by_cases hc:wb (c.toNat:Int) true=true
 · simpa [wb] using hc
 · rw [if_neg hc] at h;simp at h
theorem good_word {X:List UInt8} (h1:1<=X.length) (h2:X.length<=20) (hw:wl X true=X.length) (R:List UInt8):tk (X ++ 32 :: R)=(0,⟨1,bs X,0⟩,X.length):=by
 have e:=wl_blank X true R hw
 have hl:lett (bAt (X ++ 32 :: R) 0)=true:=by
  cases X with
  | nil=>simp at h1
  | cons c r=>rw [List.cons_append,bAt_zero];exact wl_first hw
 unfold tk
 rw [if_pos hl,e,if_pos h2,List.take_left]
theorem good_dollar {X:List UInt8} (h1:1<=X.length) (h2:X.length<=20) (hw:wl X true=X.length) (R:List UInt8):tk (36 :: X ++ 32 :: R)=(0,⟨4,bs X,0⟩,(36 :: X).length):=by
 have e:=wl_blank X true R hw
 have ed:(36 :: X ++ 32 :: R:List UInt8).drop 1=X ++ 32 :: R:=rfl
 unfold tk
 rw [ed,show (36 :: X ++ 32 :: R:List UInt8)=36 :: (X ++ 32 :: R) from rfl,bAt_zero,if_neg (by decide),if_pos (by decide),e,if_pos ⟨h1,h2⟩,List.take_left,List.length_cons,Nat.add_comm]
theorem ql_noq:∀ (X R:List UInt8),hasQ X=false->ql (X ++ 34 :: R)=X.length
 | [],R,_=>by simp [ql]
 | c :: r,R,h=>by
  unfold hasQ at h
  rw [List.contains_cons,Bool.or_eq_false_iff] at h
  have hc:¬ c=34:=by
   rintro rfl
   simp at h
  rw [List.cons_append,ql,if_neg hc,ql_noq r R h.2]
  simp
theorem good_quoted {X:List UInt8} (hq:hasQ X=false) (ht:textF (bs X)=0) (R:List UInt8):tk (34 :: X ++ [34] ++ 32 :: R)=(0,⟨3,bs X,0⟩,(34 :: X ++ [34]).length):=by
 have e0:(34 :: X ++ [34] ++ 32 :: R:List UInt8)=34 :: (X ++ 34 :: (32 :: R)):=by simp
 have e1:=ql_noq X (32 :: R) hq
 have ed:(34 :: (X ++ 34 :: (32 :: R)):List UInt8).drop 1=X ++ 34 :: (32 :: R):=rfl
 rw [e0]
 unfold tk
 rw [ed,e1,bAt_zero,if_neg (by decide),if_neg (by decide),if_neg (by decide),if_pos (by decide),if_pos (by simp),List.take_left,if_pos ht]
 simp
theorem good_mark (R:List UInt8):∀ m∈marksL,tk (m ++ 32 :: R)=(0,⟨5,bs m,0⟩,m.length):=by
 intro m hm
 unfold marksL at hm
 simp only [List.mem_cons,List.not_mem_nil,or_false] at hm
 rcases hm with rfl | rfl | rfl | rfl | rfl | rfl | rfl | rfl | rfl | rfl | rfl | rfl | rfl | rfl | rfl | rfl | rfl | rfl | rfl | rfl | rfl | rfl | rfl | rfl | rfl | rfl
 all_goals kernel_rfl
def spk (t:Tok):List UInt8:=if t.kind=2 then itoaL t.n.toNat else if t.kind=3 then 34 :: t.s.data.toList ++ [34] else if t.kind=4 then 36 :: t.s.data.toList else t.s.data.toList
theorem mark_first:∀ m∈marksL,bk (bAt m 0)=false/\0<m.length:=by decide
theorem good_back {t:Tok} (h:tokF t.kind t.s t.n=0):(∀ R,tk (spk t ++ 32 :: R)=(0,t,(spk t).length))/\bk (bAt (spk t) 0)=false/\0<(spk t).length:=by
 obtain ⟨k,s,n⟩:=t
 simp only at h
 unfold tokF at h
 by_cases c0:¬ (1<=k/\k<=5)
 · rw [if_pos c0] at h;cases h
 rw [if_neg c0] at h
 by_cases c2:k=2
 · subst c2
   rw [if_pos rfl] at h
   by_cases c3:n<0\/1099511627776<n
   · rw [if_pos c3] at h;cases h
   rw [if_neg c3] at h
   by_cases c4:s.size≠0
   · rw [if_pos c4] at h;cases h
   have hs:s=⟨#[]⟩:=by
    have:s.data.toList=[]:=List.eq_nil_of_length_eq_zero (show s.data.toList.length=0 by rw [Array.length_toList];exact (by simpa using c4:s.size=0))
    rw [<- bs_of s,this];rfl
   have hn:(n.toNat:Int)=n:=by omega
   obtain ⟨f1,f2,f3⟩:=itoa_facts n.toNat
   have hd:=dgt_iff.1 (dl_lt (itoaL n.toNat) 0 (by omega))
   refine ⟨fun R=>?_,?_,?_⟩
   · show tk (itoaL n.toNat ++ 32 :: R)=_
     rw [good_num n.toNat (by omega) R,hn,hs];rfl
   · show bk (bAt (itoaL n.toNat) 0)=false
     unfold bk;simp;omega
   · exact f3
 rw [if_neg c2] at h
 by_cases c5:n≠0
 · rw [if_pos c5] at h;cases h
 rw [if_neg c5] at h
 have hn:n=0:=by simpa using c5
 subst hn
 by_cases c3:k=3
 · subst c3
   rw [if_pos rfl] at h
   by_cases cq:hasQ s.data.toList=true
   · rw [if_pos cq] at h;cases h
   rw [if_neg cq] at h
   have hq:hasQ s.data.toList=false:=by simpa using cq
   have e:spk ⟨3,s,0⟩=34 :: s.data.toList ++ [34]:=rfl
   rw [e]
   refine ⟨fun R=>?_,?_,by simp⟩
   · rw [good_quoted hq (by rw [bs_of];exact h) R,bs_of]
   · rw [List.cons_append,bAt_zero];decide
 rw [if_neg c3] at h
 by_cases c6:k=5
 · subst c6
   rw [if_pos rfl] at h
   by_cases cm:isMk s.data.toList=true
   · unfold isMk at cm
     rw [List.contains_iff_mem] at cm
     have e:spk ⟨5,s,0⟩=s.data.toList:=rfl
     rw [e]
     exact ⟨fun R=>by rw [good_mark R _ cm,bs_of],(mark_first _ cm).1,(mark_first _ cm).2⟩
   · rw [if_neg cm] at h;cases h
 rw [if_neg c6] at h
 by_cases cn:nmB s=true
 · unfold nmB at cn
   simp only [Bool.and_eq_true,decide_eq_true_eq] at cn
   obtain ⟨⟨n1,n2⟩,n3⟩:=cn
   have hl:s.data.toList.length=s.size:=rfl
   rw [<- hl] at n1 n2 n3
   have hk:k=1\/k=4:=by omega
   rcases hk with rfl | rfl
   · have e:spk ⟨1,s,0⟩=s.data.toList:=rfl
     rw [e]
     refine ⟨fun R=>by rw [good_word n1 n2 n3 R,bs_of],?_,by omega⟩
     cases hx:s.data.toList with
     | nil=>rw [hx] at n1;simp at n1
     | cons c r =>
      rw [hx] at n3
      have:=wl_first n3
      rw [bAt_zero]
      unfold lett at this
      unfold bk
      simp at this ⊢
      omega
   · have e:spk ⟨4,s,0⟩=36 :: s.data.toList:=rfl
     rw [e]
     refine ⟨fun R=>by rw [good_dollar n1 n2 n3 R,bs_of],?_,by simp⟩
     rw [bAt_zero];decide
 · rw [if_neg cn] at h;cases h
theorem tk_good {l:List UInt8} (hl:0<l.length) (h:(tk l).1=0):tokF (tk l).2.1.kind (tk l).2.1.s (tk l).2.1.n=0:=by
 unfold tk at h ⊢
 by_cases c1:lett (bAt l 0)=true
 · rw [if_pos c1] at h ⊢
   by_cases c2:wl l true<=20
   · rw [if_pos c2]
     have h1:=wl_pos c1 hl
     have h2:=wl_le l true
     have hs:(bs (l.take (wl l true))).size=wl l true:=by rw [bs_size,List.length_take];omega
     show tokF 1 (bs (l.take (wl l true))) 0=0
     unfold tokF
     rw [if_neg (by decide),if_neg (by decide),if_neg (by decide),if_neg (by decide),if_neg (by decide),if_pos]
     unfold nmB
     rw [hs,bs_list,wl_take]
     simp
     omega
   · rw [if_neg c2] at h;cases h
 rw [if_neg c1] at h ⊢
 by_cases c2:bAt l 0=36
 · rw [if_pos c2] at h ⊢
   by_cases c3:1<=wl (l.drop 1) true/\wl (l.drop 1) true<=20
   · rw [if_pos c3]
     have h2:=wl_le (l.drop 1) true
     have hs:(bs ((l.drop 1).take (wl (l.drop 1) true))).size=wl (l.drop 1) true:=by rw [bs_size,List.length_take];omega
     show tokF 4 (bs ((l.drop 1).take (wl (l.drop 1) true))) 0=0
     unfold tokF
     rw [if_neg (by decide),if_neg (by decide),if_neg (by decide),if_neg (by decide),if_neg (by decide),if_pos]
     unfold nmB
     rw [hs,bs_list,wl_take]
     simp only [Bool.and_eq_true,decide_eq_true_eq]
     exact ⟨c3,trivial⟩
   · rw [if_neg c3] at h;cases h
 rw [if_neg c2] at h ⊢
 by_cases c3:dgt (bAt l 0)=true
 · rw [if_pos c3] at h ⊢
   by_cases c4:numV l (dl l)<=1099511627776
   · rw [if_pos c4]
     have h1:=numV_nonneg l (dl l) (Nat.le_refl _)
     show tokF 2 ⟨#[]⟩ (numV l (dl l))=0
     unfold tokF
     rw [if_neg (by decide),if_pos rfl,if_neg (by omega),if_neg (by decide)]
   · rw [if_neg c4] at h;cases h
 rw [if_neg c3] at h ⊢
 by_cases c4:bAt l 0=34
 · rw [if_pos c4] at h ⊢
   by_cases c5:ql (l.drop 1)<(l.drop 1).length
   · rw [if_pos c5] at h ⊢
     by_cases c6:textF (bs ((l.drop 1).take (ql (l.drop 1))))=0
     · rw [if_pos c6]
       show tokF 3 (bs ((l.drop 1).take (ql (l.drop 1)))) 0=0
       unfold tokF
       rw [if_neg (by decide),if_neg (by decide),if_neg (by decide),if_pos rfl,if_neg,c6]
       rw [bs_list]
       unfold hasQ
       rw [List.contains_iff_mem]
       intro hm
       obtain ⟨k,hk,hk2⟩:=List.getElem_of_mem hm
       rw [List.length_take] at hk
       have hk3:k<ql (l.drop 1):=by omega
       refine ql_lt (l.drop 1) k hk3 ?_
       rw [bAt_lt _ _ (by omega),<- List.getElem_take (h:=by rw [List.length_take];exact hk),hk2]
       rfl
     · rw [if_neg c6] at h
       exact absurd h c6
   · rw [if_neg c5] at h;cases h
 rw [if_neg c4] at h ⊢
 by_cases c5:fm l=[]
 · rw [if_pos c5] at h;cases h
 rw [if_neg c5]
 show tokF 5 (bs (fm l)) 0=0
 unfold tokF
 rw [if_neg (by decide),if_neg (by decide),if_neg (by decide),if_neg (by decide),if_pos rfl,if_pos]
 rw [bs_list]
 unfold isMk
 rw [List.contains_iff_mem]
 exact (fm_mem c5).1
def spoke (L:List Tok):List UInt8:=L.flatMap fun t=>spk t ++ [32]
theorem spoke_cons (t:Tok) (L:List Tok):spoke (t :: L)=spk t ++ 32 :: spoke L:=by simp [spoke]
theorem spoke_cut {S:List UInt8}:∀ (M L:List Tok) (a:Nat),(∀ t∈M,tokF t.kind t.s t.n=0)->L.length + M.length<=200->S.drop a=spoke M->CutTo S L a->CutTo S (L ++ M) (a + (spoke M).length)
 | [],L,a,_,_,_,h=>by simpa [spoke] using h
 | t :: M,L,a,hg,hn,hd,h=>by
  obtain ⟨g1,g2,g3⟩:=good_back (hg t (by simp))
  rw [spoke_cons] at hd
  have ht:=g1 (spoke M)
  rw [<- hd] at ht
  have hlen:=congrArg List.length hd
  rw [List.length_drop,List.length_append,List.length_cons] at hlen
  simp only [List.length_cons] at hn
  have hb:bk (bAt S a)=false:=by
   rw [show a=a + 0 from rfl,<- bAt_drop,hd,bAt_app _ _ 0 g3]
   exact g2
  have k1:=h.tok (by omega) hb (by omega) (by rw [ht])
  rw [ht] at k1
  simp only at k1
  have hd2:S.drop (a + (spk t).length)=32 :: spoke M:=by rw [<- List.drop_drop,hd,List.drop_left]
  have k2:=k1.blanks (k:=1) (by rw [hd2];unfold bl;rw [if_pos (by decide)];omega)
  have hd3:S.drop (a + (spk t).length + 1)=spoke M:=by rw [<- List.drop_drop,hd2];rfl
  have k3:=spoke_cut M (L ++ [t]) _ (fun u hu=>hg u (by simp [hu])) (by rw [List.length_append,List.length_singleton];omega) hd3 k2
  rw [List.append_assoc] at k3
  rw [spoke_cons,List.length_append,List.length_cons,show a + ((spk t).length + ((spoke M).length + 1))=a + (spk t).length + 1 + (spoke M).length by omega]
  exact k3
theorem cutGo_good (l:List UInt8):∀ f a n,(∀ t∈(cutGo l f a n).1,tokF t.kind t.s t.n=0)/\(n<=200->(cutGo l f a n).1.length + n<=200)/\((cutGo l f a n).2.2=0->(cutGo l f a n).2.1=0)
 | 0,a,n=>⟨by simp [cutGo],by simp [cutGo],by simp [cutGo]⟩
 | f + 1,a,n=>by
  rw [cutGo]
  by_cases h1:l.length<=a
  · rw [if_pos h1];exact ⟨by simp,by simp,by simp⟩
  rw [if_neg h1]
  by_cases h2:bk (bAt l a)=true
  · rw [if_pos h2];exact cutGo_good l f (a + 1) n
  rw [if_neg h2]
  by_cases h3:200<=n
  · rw [if_pos h3];exact ⟨by simp,by simp,by simp⟩
  rw [if_neg h3]
  by_cases h4:(tk (l.drop a)).1=0
  · rw [if_pos h4]
    obtain ⟨i1,i2,i3⟩:=cutGo_good l f (a + (tk (l.drop a)).2.2) (n + 1)
    refine ⟨fun t ht=>?_,fun hn=>?_,i3⟩
    · rcases List.mem_cons.1 ht with rfl | ht
      · exact tk_good (by rw [List.length_drop];omega) h4
      · exact i1 t ht
    · have:=i2 (by omega)
      simp only [List.length_cons]
      omega
  · rw [if_neg h4];exact ⟨by simp,by simp,fun h=>absurd h h4⟩
theorem cut_spoken {q:List UInt8} (hq:¬ 1000<q.length) (hE:cutE q=0):cutP q=0/\(∀ t∈cutT q,tokF t.kind t.s t.n=0)/\(¬ 1000<(spoke (cutT q)).length->cutT (spoke (cutT q))=cutT q/\cutP (spoke (cutT q))=0/\cutE (spoke (cutT q))=0):=by
 obtain ⟨g1,g2,g3⟩:=cutGo_good q (q.length - 0) 0 0
 have hT:cutT q=(cutAt q 0 0).1:=by
  unfold cutT cutE at *
  rw [if_neg hq] at hE ⊢
  rw [if_pos hE]
 refine ⟨?_,?_,?_⟩
 · unfold cutP cutE at *
   rw [if_neg hq] at hE ⊢
   exact g3 hE
 · rw [hT];exact g1
 · intro hS
   rw [hT] at hS ⊢
   have k:=spoke_cut (S:=spoke (cutAt q 0 0).1) (cutAt q 0 0).1 [] 0 g1 (by have:=g2 (by omega);simp only [List.length_nil];exact by unfold cutAt;omega) (by rw [List.drop_zero]) (CutTo.zero _)
   rw [List.nil_append,Nat.zero_add] at k
   exact k.done hS (Nat.le_refl _)
open Go.RowKit
inductive Ex where
 | no
 | mk (kind:Int) (item:It) (name at_:ByteArray) (n axis tk:Int) (tn:ByteArray) (m:Nat) (A:Nat->Ex)
def fn1:List ByteArray:=[⟨#[99,111,117,110,116]⟩,⟨#[101,109,112,116,121]⟩,⟨#[101,120,105,115,116,115]⟩,⟨#[110,111,116]⟩,⟨#[98,111,111,108,101,97,110]⟩,⟨#[115,117,109]⟩,⟨#[109,105,110]⟩,⟨#[109,97,120]⟩,⟨#[100,105,115,116,105,110,99,116]⟩,⟨#[114,101,118,101,114,115,101]⟩,⟨#[115,116,114,105,110,103]⟩,⟨#[100,97,116,97]⟩,⟨#[105,110,116,101,103,101,114]⟩,⟨#[110,97,109,101]⟩,⟨#[108,101,110,103,116,104]⟩,⟨#[100,100,111]⟩,⟨#[110,101,103]⟩]
def fn2:List ByteArray:=[⟨#[99,111,110,99,97,116]⟩,⟨#[99,111,110,116,97,105,110,115]⟩,⟨#[115,116,97,114,116,115]⟩,⟨#[43]⟩,⟨#[45]⟩,⟨#[42]⟩,⟨#[100,105,118]⟩,⟨#[109,111,100]⟩,⟨#[61]⟩,⟨#[33,61]⟩,⟨#[60]⟩,⟨#[60,61]⟩,⟨#[62]⟩,⟨#[62,61]⟩,⟨#[105,115]⟩,⟨#[60,60]⟩,⟨#[62,62]⟩,⟨#[97,110,100]⟩,⟨#[111,114]⟩,⟨#[116,111]⟩,⟨#[117,110,105,111,110]⟩,⟨#[105,110,116,101,114,115,101,99,116]⟩,⟨#[101,120,99,101,112,116]⟩,⟨#[104,111,108,100,115]⟩]
def fn3:List ByteArray:=[⟨#[115,117,98,115,116,114,105,110,103]⟩]
def hasB (L:List ByteArray) (s:ByteArray):Bool:=L.any fun t=>s.toList == t.toList
def argsN (s:ByteArray):Int:=if hasB fn1 s=true then 1 else if hasB fn2 s=true then 2 else if hasB fn3 s=true then 3 else -1
theorem bytes_eq {x y:ByteArray} (h:x.toList=y.toList):x=y:=by
 have h':x.data.toList=y.data.toList:=by simpa [ByteArray.toList_eq] using h
 cases x;cases y
 simp only [ByteArray.mk.injEq]
 exact Array.toList_inj.1 h'
theorem same_iff {x y:ByteArray}:(x.toList == y.toList)=true↔x=y:=⟨fun h=>bytes_eq (by simpa using h),fun h=>by subst h;simp⟩
theorem same_no {x y:ByteArray} (h:x≠y):(x.toList == y.toList)=false:=by
 cases e:(x.toList == y.toList)
 · rfl
 · exact absurd (same_iff.1 e) h
def litF (x:It):Int:=if x.kind=1 then 12 else if mayI x=true then 0 else 12
def namesF (x a:ByteArray):Int:=if x.size<1\/20<x.size\/20<a.size then 10 else if (x.toList == a.toList)=true then 7 else 0
def stepF (ax tk:Int):Int:=if (1<=ax/\ax<=12)/\1<=tk/\tk<=5 then 0 else 3
def noB:ByteArray:=⟨#[]⟩
def atN (k:Int) (a:ByteArray):ByteArray:=if k=4 then noB else a
theorem firstE_succ (f:Nat->Int) (m:Nat):firstE f (m + 1)=if firstE f m=0 then f m else firstE f m:=by
 by_cases h:firstE f m=0
 · rw [if_pos h]
   have h0:=firstE_zero h
   by_cases hm:f m=0
   · rw [hm];exact firstE_ok (fun j hj=>by
      by_cases e:j=m
      · subst e;exact hm
      · exact h0 j (by omega))
   · exact firstE_err (Nat.lt_succ_self _) h0 hm
 · rw [if_neg h]
   have hex:∃ k,k<m/\f k≠0:=Classical.byContradiction fun hn=>h (firstE_ok fun j hj=>Classical.byContradiction fun hne=>hn ⟨j,hj,hne⟩)
   obtain ⟨k,hk,hk0,hmin⟩:∃ k,k<m/\f k≠0/\∀ j,j<k->f j=0:=by
    obtain ⟨k,hk,hk0⟩:=hex
    induction k using Nat.strongRecOn with
    | ind k ih =>
     by_cases e:∃ j,j<k/\f j≠0
     · obtain ⟨j,hj,hj0⟩:=e
       exact ih j hj (by omega) hj0
     · exact ⟨k,hk,hk0,fun j hj=>Classical.byContradiction fun hne=>e ⟨j,hj,hne⟩⟩
   rw [firstE_err (by omega:k<m + 1) hmin hk0,firstE_err hk hmin hk0]
theorem firstE_at {f:Nat->Int} {m i:Nat} (hi:i<m) (h0:firstE f i=0) (h1:f i≠0):firstE f m=f i:=firstE_err hi (firstE_zero h0) h1
open Go
def LoopN (P:Program) (c:Code) (Q:Exit->Act->World->Prop):Nat->Act->World->Prop
 | 0=>fun _ _=>False
 | n + 1=>fun a w=>c.wp P (Exit.then (LoopN P c Q n) Q) a w
theorem least_of {p:Nat->Prop} (h:∃ n,p n):∃ m,p m/\∀ k,k<m->¬ p k:=by
 obtain ⟨n,hn⟩:=h
 induction n using Nat.strongRecOn with
 | ind n ih =>
  by_cases hx:∃ k,k<n/\p k
  · obtain ⟨k,hk,hp⟩:=hx
    exact ih k hk hp
  · exact ⟨n,hn,fun k hk hp=>hx ⟨k,hk,hp⟩⟩
open Classical in
noncomputable def leastN (p:Nat->Prop):Nat:=if h:∃ n,p n then Classical.choose (least_of h) else 0
theorem leastN_is {p:Nat->Prop} (h:∃ n,p n):p (leastN p)/\∀ k,p k->leastN p<=k:=by
 have e:leastN p=Classical.choose (least_of h):=dif_pos h
 rw [e]
 have hs:=Classical.choose_spec (least_of h)
 exact ⟨hs.1,fun k hk=>Classical.byContradiction fun hn=>hs.2 k (by omega) hk⟩
theorem LoopN.next {P:Program} {c:Code} {Q:Exit->Act->World->Prop} {n:Nat} {a:Act} {w:World} (h:c.wp P (Exit.then (LoopN P c Q n) Q) a w):LoopN P c Q (n + 1) a w:=h
theorem LoopN.wp {P:Program} {c:Code} {Q:Exit->Act->World->Prop} (n:Nat) {a:Act} {w:World} (h:LoopN P c Q n a w):(Code.loop c).wp P Q a w:=by
 refine wp_loop (fun a w=>∃ n,LoopN P c Q n a w) (fun a w=>leastN fun n=>LoopN P c Q n a w) ⟨n,h⟩ ?_
 intro a w hI
 obtain ⟨h1,_⟩:=leastN_is hI
 generalize hm:leastN (fun n=>LoopN P c Q n a w)=m at h1 ⊢
 cases m with
 | zero=>exact h1.elim
 | succ m =>
  refine Code.wp_mono (fun e a' w' q=>?_) (show c.wp P (Exit.then (LoopN P c Q m) Q) a w from h1)
  cases e with
  | normal=>exact ⟨⟨m,q⟩,Nat.lt_succ_of_le ((leastN_is ⟨m,q⟩).2 m q)⟩
  | _=>exact q
open Go
def calmB (ops:Array Oper):Bool:=ops.all fun o=>match o.op with | .defer _=>false | _=>true
theorem calm_at {ops:Array Oper} (h:calmB ops=true) {i:Nat} {o:Oper} (ho:ops[i]?=some o):∀ c,o.op≠.defer c:=by
 intro c hc
 obtain ⟨hi,e⟩:=gI ho
 unfold calmB at h
 rw [Array.all_eq_true] at h
 have:=h i hi
 rw [e,hc] at this
 cases this
theorem rows_round {n l:Nat} {P:Program} {row:String} {args:Array Value} {w:World} {R:Value->World->Prop} (h:Rows P row args w R):RowsIn (Fence.wide.inRound l) n P row args w R :=
 fun c cs _=>let ⟨v,w',r,s⟩:=h c cs;⟨v,w',r,stepsIn_wide.2 s⟩
theorem oper_round {n l:Nat} {P:Program} {o:Oper} {a:Act} {w:World} {K:Act->World->Prop} {Q:Exit->Act->World->Prop} (hd:∀ c,o.op≠.defer c) (h:o.wp P a w K Q):o.wpIn (Fence.wide.inRound l) n P a w K Q:=by
 refine ⟨fun _ _=>trivial,?_⟩
 rw [Oper.semAt_eq _ _ _ hd]
 unfold Oper.wp at h
 generalize (execOp a.eval o).run P w=r at *
 cases r with
 | ok x w' =>
  cases x <;> simp only [Oper.uponIn,Oper.upon] at h ⊢ <;>
   first
    | exact h
    | exact ⟨(fun e=>absurd e (by simp [Fence.wide])),CallsIn.inRound l (callsIn_wide.2 h)⟩
    | exact ⟨(fun e=>absurd e (by simp [Fence.wide])),rows_round h⟩
 | halt x w'=>cases x <;> simp only [Oper.uponIn,Oper.upon] at h ⊢ <;> exact h
theorem wpAnyIn_inv {n l:Nat} {P:Program} {ops:Array Oper} {Q:Exit->Act->World->Prop} (I:Array Bool->Act->World->Prop) (ht:topB ops=true) (hcalm:calmB ops=true)
 (step:∀ (listed:Array Bool) a w i o,listed.size=ops.size->I listed a w->ops[i]?=some o->listed.getD i true=false->(∀ e∈o.after,Region.binds .any e=true->listed.getD e.on false=true) ->
  if Region.wanted o (yielded ops a.tmps)=true then o.wp P a w (fun a' w'=>I (listed.setIfInBounds i true) a' w') Q else I (listed.setIfInBounds i true) (a.put o.dst undef) w)
 (fin:∀ (listed:Array Bool) a w,listed.size=ops.size->I listed a w->(∀ i,i<ops.size->listed.getD i true=true)->Q .normal a w) :
 ∀ (fuel:Nat) (listed:Array Bool) a w,listed.size=ops.size->listed.toList.count false<=fuel->I listed a w->wpAnyIn (Fence.wide.inRound l) n P .any ops Q fuel listed a w:=by
 intro fuel
 induction fuel with
 | zero =>
  intro listed a w hs hc hI
  have hall:∀ i,i<ops.size->listed.getD i true=true:=fun i hi=>by
   cases h:listed.getD i true with
   | true=>rfl
   | false=>have:=count_set h;omega
  refine ⟨?_,fin listed a w hs hI hall⟩
  unfold Region.ready
  refine List.filter_eq_nil_iff.2 fun i hi=>?_
  rw [hall i (List.mem_range.1 hi)]
  simp
 | succ fuel ih =>
  intro listed a w hs hc hI
  refine ⟨fun hr=>fin listed a w hs hI (all_listed hs ht hr),fun i hi=>?_⟩
  unfold Region.ready at hi
  obtain ⟨h1,h2⟩:=List.mem_filter.1 hi
  have hlt:=List.mem_range.1 h1
  rw [Array.getElem?_eq_getElem hlt] at h2
  simp only [Option.map_some,Option.getD_some,Bool.and_eq_true,Bool.not_eq_true'] at h2
  obtain ⟨h3,h4⟩:=h2
  rw [Array.all_eq_true'] at h4
  have hst:=step listed a w i ops[i] hs hI (Array.getElem?_eq_getElem hlt) h3 (fun e he hb=>by have:=h4 e he;rw [hb] at this;simpa using this)
  have hnext:∀ a' w',I (listed.setIfInBounds i true) a' w'->wpAnyIn (Fence.wide.inRound l) n P .any ops Q fuel (listed.setIfInBounds i true) a' w':=fun a' w' h=>ih _ a' w' (by simpa using hs) (by have:=count_set h3;omega) h
  unfold wpOpIn
  rw [Array.getElem?_eq_getElem hlt]
  show if Region.wanted ops[i] (yielded ops a.tmps)=true then _ else _
  split
  · rename_i hw
    rw [if_pos hw] at hst
    exact Oper.wpIn_mono hnext (oper_round (calm_at hcalm (Array.getElem?_eq_getElem hlt)) hst)
  · rename_i hw
    rw [if_neg hw] at hst
    exact ⟨fun _ _=>trivial,hnext _ _ hst⟩
theorem wpIn_region_slots {n l:Nat} {P:Program} {id:Nat} {ops:Array Oper} {Q:Exit->Act->World->Prop} {a0:Act} {w0:World} (hm:P.follows .mixedOrders=true) (D:Nat->Value->World->Prop) (G:Array Bool->Act->World->Prop) (ht:topB ops=true) (hcalm:calmB ops=true) (hd:dstB ops a0.tmps.size=true)
 (start:G (Array.replicate ops.size false) a0 w0.drew)
 (step:∀ (listed:Array Bool) a w i (o:Oper),listed.size=ops.size->SlotInv ops a0 D G listed a w->ops[i]?=some o->listed.getD i true=false->(∀ e∈o.after,Region.binds .any e=true->listed.getD e.on false=true) ->
  if Region.wanted o (yielded ops a.tmps)=true then o.wp P a w (fun a' w'=>∃ v,a'=a.put o.dst v/\D i v w'/\(∀ j u,D j u w->D j u w')/\G (listed.setIfInBounds i true) (a.put o.dst v) w') Q else D i undef w/\G (listed.setIfInBounds i true) (a.put o.dst undef) w)
 (fin:∀ (v:Nat->Value) w,(∀ j (o:Oper) s,ops[j]?=some o->o.dst=some s->D j (v j) w)->(∀ j (o:Oper) s,ops[j]?=some o->o.dst=some s->(putAll ops.toList v 0 a0).tmps[s]?=some (v j))->G (Array.replicate ops.size true) (putAll ops.toList v 0 a0) w->Q .normal (putAll ops.toList v 0 a0) w) :
 (Code.region id ops true).wpIn (Fence.wide.inRound l) n P Q a0 w0:=by
 refine wpIn_region_any hm ?_
 refine wpAnyIn_inv (SlotInv ops a0 D G) ht hcalm ?_ ?_ _ _ _ _ (by simp) (Nat.le_trans (List.count_le_length) (by simp)) ⟨rfl,rfl,fun _ _=>rfl,fun j o s _ _ hl=>?_,fun j o _ hl=>?_,start⟩
 · intro listed a w i o hsz h ho hl haf
   have k:=step listed a w i o hsz h ho hl haf
   split
   · rename_i hw
     rw [if_pos hw] at k
     exact Oper.wp_mono (fun a' w' ⟨v,e,h1,h2,h3⟩=>by rw [e];exact h.did hd hsz ho haf h1 h2 h3) k
   · rename_i hw
     rw [if_neg hw] at k
     exact h.did hd hsz ho haf k.1 (fun _ _ h=>h) k.2
 · intro listed a w hsz h hall
   obtain ⟨v,e,hv⟩:=slots_end h hd hsz hall
   have hG:=h.more
   rw [e] at hG ⊢
   refine fin v w hv (fun j o s ho hs=>?_) ?_
   · have:=putAll_new ops.toList v 0 a0 s j o (by rw [Array.getElem?_toList];exact ho) hs (dst_lt hd ho hs) (fun j' o' h1 h2=>dst_one hd ho (by rw [Array.getElem?_toList] at h1;exact h1) hs h2)
     rw [Nat.zero_add] at this
     exact this
   have hl:listed=Array.replicate ops.size true:=by
    refine Array.ext (by simpa using hsz) fun i h1 h2=>?_
    have:=hall i (by omega)
    rw [Array.getD_eq_getD_getElem?,Array.getElem?_eq_getElem h1] at this
    simpa using this
   rw [<- hl]
   exact hG
 · rw [Array.getD_eq_getD_getElem?,Array.getElem?_replicate] at hl
   split at hl <;> cases hl
 · rw [Array.getD_eq_getD_getElem?,Array.getElem?_replicate] at hl
   split at hl <;> cases hl
end Go.Proofs.YtmcmbdkpfcibkaaGreatDoor
