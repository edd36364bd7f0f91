import Derived.Test.YtmcmbdkpfcibkaaGreatDoorPmClone
import Derived.Test.YtmcmbdkpfcibkaaGreatDoorCkSt
import Derived.Test.YtmcmbdkpfcibkaaGreatDoorPrFil
import Derived.Test.YtmcmbdkpfcibkaaGreatDoorPrPath
import Derived.Test.YtmcmbdkpfcibkaaGreatDoorPrBin1
import Derived.Test.YtmcmbdkpfcibkaaGreatDoorPrIf
import Derived.Test.YtmcmbdkpfcibkaaGreatDoorPrFlw
set_option linter.unusedVariables false
namespace Go.Proofs.YtmcmbdkpfcibkaaGreatDoor
set_option maxRecDepth 100000
open Go.RowKit
def hd (R:List Tok):Tok:=R.getD 0 tok0
structure Sp (T:List Tok) (a:Nat) (X R:List Tok):Prop where
 len:T.length<=200
 cut:T.drop a=X ++ R
theorem Sp.at {T:List Tok} {a:Nat} {X R:List Tok} (h:Sp T a X R) (i:Nat):tkA T (a + i)=(X ++ R).getD i tok0:=by
 rw [<- h.cut]
 unfold tkA
 rw [List.getD_eq_getElem?_getD,List.getD_eq_getElem?_getD,List.getElem?_drop]
theorem Sp.first {T:List Tok} {a:Nat} {X R:List Tok} (h:Sp T a X R):tkA T a=hd (X ++ R):=h.at 0
theorem hd_app {X R:List Tok} (h:X≠[]):hd (X ++ R)=hd X:=by
 cases X with
 | nil=>exact absurd rfl h
 | cons x X=>rfl
theorem Sp.fst {T:List Tok} {a:Nat} {X R:List Tok} (h:Sp T a X R) (hx:X≠[]):tkA T a=hd X:=h.first.trans (hd_app hx)
theorem Sp.next {T:List Tok} {a:Nat} {X R:List Tok} (h:Sp T a X R):tkA T (a + X.length)=hd R:=by
 rw [h.at]
 unfold hd
 rw [List.getD_eq_getElem?_getD,List.getD_eq_getElem?_getD,List.getElem?_append_right (Nat.le_refl _),Nat.sub_self]
theorem Sp.assoc {T:List Tok} {a:Nat} {X Y R:List Tok} (h:Sp T a (X ++ Y) R):Sp T a X (Y ++ R):=⟨h.len,by rw [h.cut,List.append_assoc]⟩
theorem Sp.tail {T:List Tok} {a:Nat} {X Y R:List Tok} (h:Sp T a (X ++ Y) R):Sp T (a + X.length) Y R:=⟨h.len,by
 rw [<- List.drop_drop,h.cut,List.append_assoc,List.drop_left]⟩
theorem Sp.rest {T:List Tok} {a:Nat} {X R:List Tok} (h:Sp T a X R):Sp T (a + X.length) [] R:=⟨h.len,by
 rw [<- List.drop_drop,h.cut,List.drop_left];rfl⟩
theorem Sp.size {T:List Tok} {a:Nat} {X R:List Tok} (h:Sp T a X R) (hx:X≠[]):a + X.length + R.length<=200/\1<=X.length:=by
 have h1:=congrArg List.length h.cut
 rw [List.length_drop,List.length_append] at h1
 have h2:=List.length_pos_iff.2 hx
 have:=h.len
 omega
theorem Sp.cons {T:List Tok} {a:Nat} {t:Tok} {X R:List Tok} (h:Sp T a (t :: X) R):tkA T a=t/\Sp T (a + 1) X R:=⟨h.first,(show Sp T a ([t] ++ X) R from h).tail⟩
def Dv (f:Nat) (ex:List Value) (fol:Tok->Bool) (X:List Tok) (p:Ph) (d:Nat):Prop:=∀ (T:List Tok) (a o:Nat) (R:List Tok) (pb b c:Nat),Sp T a X R->fol (hd R)=true->o + d<=30->RunT pb b c T f ((vP pb 0 :: ex:List Value)).toArray ⟨a,o,0⟩ ⟨a + X.length,o,0⟩ p
def mk (s:List UInt8):Tok:=⟨5,⟨s.toArray⟩,0⟩
def folP (u:Tok):Bool:=!(eqT u ⟨5,⟨#[40]⟩,0⟩) && !(eqT u ⟨5,⟨#[58,58]⟩,0⟩)
def folS (u:Tok):Bool:=folP u && !(eqT u ⟨5,⟨#[91]⟩,0⟩)
def folA (u:Tok):Bool:=folS u && (!(eqT u ⟨5,⟨#[47]⟩,0⟩) && !(eqT u ⟨5,⟨#[47,47]⟩,0⟩))
def opG (s:ByteArray):Int:=goG opN opB (-1) s 21 0
theorem opG_eq (s:ByteArray):opOf s=opG s:=goG_eq _ _
def folB (bd:Nat) (u:Tok):Bool:=folA u && !((u.kind == 1 || u.kind == 5) && decide ((bd:Int)<=opG u.s))
def folL (u:Tok):Bool:=folB 0 u && !(eqT u ⟨5,⟨#[44]⟩,0⟩)
def headE (u:Tok):Bool:=!(eqT u ⟨5,⟨#[41]⟩,0⟩) && !(eqT u ⟨5,⟨#[125]⟩,0⟩)
def headK (u:Tok):Bool:=headE u && (!(eqT u ⟨1,⟨#[102,111,114]⟩,0⟩) && (!(eqT u ⟨1,⟨#[108,101,116]⟩,0⟩) && (!(eqT u ⟨1,⟨#[115,111,109,101]⟩,0⟩) && (!(eqT u ⟨1,⟨#[101,118,101,114,121]⟩,0⟩) && !(eqT u ⟨1,⟨#[105,102]⟩,0⟩)))))
def headM (u:Tok):Bool:=headK u && !(eqT u ⟨5,⟨#[45]⟩,0⟩)
def headP (u:Tok):Bool:=headM u && (!(eqT u ⟨5,⟨#[47]⟩,0⟩) && (!(eqT u ⟨5,⟨#[47,47]⟩,0⟩) && stepB u))
theorem folS_P {u:Tok} (h:folS u=true):folP u=true/\eqT u ⟨5,⟨#[91]⟩,0⟩=false:=by
 unfold folS at h
 simpa using h
theorem folA_S {u:Tok} (h:folA u=true):folS u=true/\eqT u ⟨5,⟨#[47]⟩,0⟩=false/\eqT u ⟨5,⟨#[47,47]⟩,0⟩=false:=by
 unfold folA at h
 simpa using h
theorem folP_parts {u:Tok} (h:folP u=true):eqT u ⟨5,⟨#[40]⟩,0⟩=false/\eqT u ⟨5,⟨#[58,58]⟩,0⟩=false:=by
 unfold folP at h
 simpa using h
theorem folB_A {bd:Nat} {u:Tok} (h:folB bd u=true):folA u=true/\∀ b:Nat,bd<=b->opNext u (b:Int)=false:=by
 unfold folB at h
 simp only [Bool.and_eq_true,Bool.not_eq_true',Bool.and_eq_false_iff] at h
 refine ⟨h.1,fun b hb=>?_⟩
 unfold opNext
 rcases h.2 with h2 | h2
 · rw [h2];rfl
 · have h3:=of_decide_eq_false h2
   rw [opG_eq,show (opG u.s == (b:Int))=false from beq_eq_false_iff_ne.2 (by omega)]
   simp
theorem folB_up {bd be:Nat} {u:Tok} (h:folB bd u=true) (hb:bd<=be):folB be u=true:=by
 unfold folB at h ⊢
 simp only [Bool.and_eq_true,Bool.not_eq_true',Bool.and_eq_false_iff] at h ⊢
 refine ⟨h.1,?_⟩
 rcases h.2 with h2 | h2
 · exact .inl h2
 · exact .inr (decide_eq_false (by have:=of_decide_eq_false h2;omega))
theorem folL_B {u:Tok} (h:folL u=true):folB 0 u=true/\eqT u ⟨5,⟨#[44]⟩,0⟩=false:=by
 unfold folL at h
 simpa using h
structure IsPrim (X:List Tok) (p:Ph) (d:Nat):Prop where
 ne:X≠[]
 head:headP (hd X)=true
 run:Dv 172 [] folP X p d
structure IsStep (X:List Tok) (p:Ph) (d:Nat):Prop where
 ne:X≠[]
 head:headP (hd X)=true
 run:Dv 169 [] folS X p d
theorem Dv.more {f:Nat} {ex:List Value} {fol:Tok->Bool} {X:List Tok} {p:Ph} {d e:Nat} (h:Dv f ex fol X p d) (hd:d<=e):Dv f ex fol X p e:=fun T a o R pb b c hs hf ho=>h T a o R pb b c hs hf (by omega)
theorem IsPrim.more {X:List Tok} {p:Ph} {d e:Nat} (h:IsPrim X p d) (hd:d<=e):IsPrim X p e:=⟨h.ne,h.head,h.run.more hd⟩
theorem IsStep.more {X:List Tok} {p:Ph} {d e:Nat} (h:IsStep X p d) (hd:d<=e):IsStep X p e:=⟨h.ne,h.head,h.run.more hd⟩
theorem prim_other {X:List Tok} {p:Ph} {d:Nat} (ne:X≠[]) (head:headP (hd X)=true) (k1:((hd X).kind == 1)=false) (n1:eqT (hd X) ⟨5,⟨#[64]⟩,0⟩=false) (n2:eqT (hd X) ⟨5,⟨#[46,46]⟩,0⟩=false) (n3:eqT (hd X) ⟨5,⟨#[42]⟩,0⟩=false) (run:Dv 176 [] folP X p d):IsPrim X p d:=by
 refine ⟨ne,head,fun T a o R pb b c hs hf ho=>?_⟩
 have e:=hs.fst ne
 have hz:=hs.size ne
 refine bareStep_other (st:=⟨a,o,0⟩) (uk:=(tkA T a).kind) (us:=(tkA T a).s) (un:=(tkA T a).n) hs.len (by simp only;omega) see0 (by rw [e];exact k1) (by show eqT (tkA T a) _=false;rw [e];exact n1) (by show eqT (tkA T a) _=false;rw [e];exact n2) ?_ (run T a o R pb b c hs hf ho)
 rw [see0,see0,see0,Nat.add_zero,e]
 unfold childB
 rw [n3,k1]
 rfl
theorem prim_word {X:List Tok} {p:Ph} {d:Nat} {nm:ByteArray} (ne:X≠[]) (head:headP (hd X)=true) (hx:hd X=⟨1,nm,0⟩) (h1:∀ R,eqT ((X ++ R).getD 1 tok0) ⟨5,⟨#[58,58]⟩,0⟩=false) (h2:∀ R,childB (hd X) ((X ++ R).getD 1 tok0) ((X ++ R).getD 2 tok0)=false) (run:Dv 176 [] folP X p d):IsPrim X p d:=by
 refine ⟨ne,head,fun T a o R pb b c hs hf ho=>?_⟩
 have e:=hs.fst ne
 have hz:=hs.size ne
 refine bareStep_word (st:=⟨a,o,0⟩) (us:=nm) (un:=0) (u1k:=(tkA T (a + 1)).kind) (u1s:=(tkA T (a + 1)).s) (u1n:=(tkA T (a + 1)).n) hs.len (by simp only;omega) (see0.trans (e.trans hx)) see0 (by show eqT (tkA T (a + 1)) _=false;rw [hs.at];exact h1 R) (eqT_kind (by decide)) (eqT_kind (by decide)) ?_ (run T a o R pb b c hs hf ho)
 rw [see0,see0,see0,Nat.add_zero,e,hs.at,hs.at]
 exact h2 R
theorem prim_num (n:Int):IsPrim [⟨2,⟨#[]⟩,n⟩] (litN n) 0:=by
 refine prim_other (by simp) ?_ rfl (eqT_kind (by decide)) (eqT_kind (by decide)) (eqT_kind (by decide)) ?_
 · show headP ⟨2,⟨#[]⟩,n⟩=true
   unfold headP headM headK headE
   rw [eqT_kind (by decide),eqT_kind (by decide),eqT_kind (by decide),eqT_kind (by decide),eqT_kind (by decide),eqT_kind (by decide),eqT_kind (by decide),eqT_kind (by decide),eqT_kind (by decide),eqT_kind (by decide)]
   rfl
 · intro T a o R pb b c hs hf ho
   have hz:=hs.size (by simp)
   exact noStep_num (st:=⟨a,o,0⟩) (us:=⟨#[]⟩) (un:=n) hs.len (by simp only;omega) (see0.trans hs.first)
theorem head_lit {k:Int} {s:ByteArray} {n:Int} (h5:k≠5) (h1:k≠1) (hk:(k == 1 || k == 2 || k == 3 || k == 4)=true):headP ⟨k,s,n⟩=true:=by
 unfold headP headM headK headE
 rw [eqT_kind h5,eqT_kind h5,eqT_kind h1,eqT_kind h1,eqT_kind h1,eqT_kind h1,eqT_kind h1,eqT_kind h5,eqT_kind h5,eqT_kind h5]
 unfold stepB
 simp only
 rw [hk]
 rfl
theorem prim_quo {s:ByteArray} (hz':s.size<=4000):IsPrim [⟨3,s,0⟩] (ph0 1 ⟨3,0,s⟩ ⟨#[]⟩ 0 0 0 ⟨#[]⟩) 0:=by
 refine prim_other (by simp) (head_lit (by decide) (by decide) rfl) rfl (eqT_kind (by decide)) (eqT_kind (by decide)) (eqT_kind (by decide)) ?_
 intro T a o R pb b c hs hf ho
 have hz:=hs.size (by simp)
 exact noStep_quo (st:=⟨a,o,0⟩) (us:=s) (un:=0) hs.len (by simp only;omega) (see0.trans hs.first) hz'
theorem prim_dol {s:ByteArray} (hz':s.size<=4000):IsPrim [⟨4,s,0⟩] (ph0 2 ⟨0,0,⟨#[]⟩⟩ s 0 0 0 ⟨#[]⟩) 0:=by
 refine prim_other (by simp) (head_lit (by decide) (by decide) rfl) rfl (eqT_kind (by decide)) (eqT_kind (by decide)) (eqT_kind (by decide)) ?_
 intro T a o R pb b c hs hf ho
 have hz:=hs.size (by simp)
 exact noStep_dol (st:=⟨a,o,0⟩) (us:=s) (un:=0) hs.len (by simp only;omega) (see0.trans hs.first) hz'
theorem prim_dot:IsPrim [⟨5,⟨#[46]⟩,0⟩] (ph0 27 ⟨0,0,⟨#[]⟩⟩ ⟨#[]⟩ 0 0 0 ⟨#[]⟩) 0:=by
 refine prim_other (by simp) (by decide +kernel) rfl (by decide) (by decide) (by decide) ?_
 intro T a o R pb b c hs hf ho
 have hz:=hs.size (by simp)
 exact noStep_dot (st:=⟨a,o,0⟩) (uk:=5) (us:=⟨#[46]⟩) (un:=0) hs.len (by simp only;omega) (see0.trans hs.first) (by decide) (by decide) (by decide) (by decide)
structure IsLs (X:List Tok) (p:Ph) (d:Nat):Prop where
 ne:X≠[]
 head:headE (hd X)=true
 run:Dv 20 [] folL X p d
theorem IsLs.more {X:List Tok} {p:Ph} {d e:Nat} (h:IsLs X p d) (hd:d<=e):IsLs X p e:=⟨h.ne,h.head,h.run.more hd⟩
theorem headE_parts {u:Tok} (h:headE u=true):eqT u ⟨5,⟨#[41]⟩,0⟩=false/\eqT u ⟨5,⟨#[125]⟩,0⟩=false:=by
 unfold headE at h
 simpa using h
theorem up_ls {X:List Tok} {p:Ph} {d:Nat} {es:ByteArray} (h:IsLs X p d) (he:folL ⟨5,es,0⟩=true) (hn:eqT (hd X) ⟨5,es,0⟩=false):Dv 180 [.agg #[vI 5,vS es,vI 0]] (fun _=>true) (X ++ [⟨5,es,0⟩]) p d:=by
 intro T a o R pb b c hs hf ho
 have hz:=hs.size (by simp)
 have h1:=hs.assoc
 have h2:=hs.tail
 rw [List.length_append,List.length_singleton] at hz ⊢
 rw [<- Nat.add_assoc]
 have k:=h.run T a o (⟨5,es,0⟩ :: R) pb b c h1 he ho
 have w:wantM T ⟨a + X.length,o,0⟩ ⟨5,es,0⟩=⟨a + X.length + 1,o,0⟩:=want0 (by rw [h2.first];exact eqT_self)
 have n:eqT (seeM T ⟨a,o,0⟩ 0) ⟨5,es,0⟩=false:=by rw [see0,Nat.add_zero,h1.fst h.ne];exact hn
 have l1:a<=300:=by omega
 have l2:a + X.length<=300:=by omega
 exact listUpTo_more hs.len l1 l2 n w k
theorem up_none {es:ByteArray}:Dv 180 [.agg #[vI 5,vS es,vI 0]] (fun _=>true) [⟨5,es,0⟩] (ph0 3 ⟨0,0,⟨#[]⟩⟩ ⟨#[]⟩ 0 0 0 ⟨#[]⟩) 0:=by
 intro T a o R pb b c hs hf ho
 have hz:=hs.size (by simp)
 exact listUpTo_end (st:=⟨a,o,0⟩) hs.len (by simp only;omega) (by rw [see0,Nat.add_zero,hs.first];exact eqT_self)
theorem prim_up {Y:List Tok} {p:Ph} {d:Nat} (h:Dv 180 [.agg #[vI 5,vS ⟨#[41]⟩,vI 0]] (fun _=>true) Y p d):IsPrim (⟨5,⟨#[40]⟩,0⟩ :: Y) p d:=by
 refine prim_other (by simp) (show headP ⟨5,⟨#[40]⟩,0⟩=true by decide +kernel) rfl (show eqT ⟨5,⟨#[40]⟩,0⟩ ⟨5,⟨#[64]⟩,0⟩=false by decide) (show eqT ⟨5,⟨#[40]⟩,0⟩ ⟨5,⟨#[46,46]⟩,0⟩=false by decide) (show eqT ⟨5,⟨#[40]⟩,0⟩ ⟨5,⟨#[42]⟩,0⟩=false by decide) ?_
 intro T a o R pb b c hs hf ho
 have hz:=hs.size (by simp)
 have h1:=hs.cons
 have k:=h T (a + 1) o R pb b c h1.2 rfl ho
 rw [show a + 1 + Y.length=a + (⟨5,⟨#[40]⟩,0⟩ :: Y:List Tok).length by rw [List.length_cons];omega] at k
 have e:seeM T ⟨a,o,0⟩ 0=⟨5,⟨#[40]⟩,0⟩:=see0.trans h1.1
 exact noStep_par (st:=⟨a,o,0⟩) (uk:=5) (us:=⟨#[40]⟩) (un:=0) hs.len (by simp only;omega) e (by decide) (by decide) (by decide) (by decide) (by decide) k
theorem prim_par {X:List Tok} {p:Ph} {d:Nat} (h:IsLs X p d):IsPrim (⟨5,⟨#[40]⟩,0⟩ :: (X ++ [⟨5,⟨#[41]⟩,0⟩])) p d:=prim_up (up_ls h (by decide +kernel) (headE_parts h.head).1)
theorem prim_nil:IsPrim [⟨5,⟨#[40]⟩,0⟩,⟨5,⟨#[41]⟩,0⟩] (ph0 3 ⟨0,0,⟨#[]⟩⟩ ⟨#[]⟩ 0 0 0 ⟨#[]⟩) 0:=prim_up up_none
def IsTest (X:List Tok) (tk:Int) (tn:ByteArray):Prop:=X≠[]/\∀ (T:List Tok) (a o:Nat) (R:List Tok) (pb b c:Nat),Sp T a X R->folP (hd R)=true->RunK pb b c T ⟨a,o,0⟩ ⟨a + X.length,o,0⟩ tk tn
def stepPh (ax tk:Int) (tn:ByteArray):Ph:=ph0 9 ⟨0,0,⟨#[]⟩⟩ ⟨#[]⟩ 0 ax tk tn
def nameG (s:ByteArray):Bool:=callG s && (headP ⟨1,s,0⟩ && decide (s.size<=4000))
theorem nameG_parts {s:ByteArray} (h:nameG s=true):callN s=true/\headP ⟨1,s,0⟩=true/\s.size<=4000:=by
 unfold nameG at h
 simp only [Bool.and_eq_true,decide_eq_true_eq] at h
 exact ⟨by rw [callG_eq];exact h.1,h.2.1,h.2.2⟩
theorem callN_mk {s:ByteArray} (hn:callN s=true) (v w:Tok):mkBeg ⟨1,s,0⟩ v w=false/\(ktOf s == 0)=true:=by
 unfold callN at hn
 simp only [Bool.and_eq_true,Bool.not_eq_true'] at hn
 obtain ⟨n1,n2,n3,n4⟩:=hn
 refine ⟨?_,n4⟩
 unfold mkBeg
 rw [n1,n2,n3]
 rfl
theorem t_name {s:ByteArray} (h:nameG s=true):IsTest [⟨1,s,0⟩] 4 s:=by
 obtain ⟨h1,h2,h3⟩:=nameG_parts h
 refine ⟨by simp,fun T a o R pb b c hs hf=>?_⟩
 have hz:=hs.size (by simp)
 exact test_name (st:=⟨a,o,0⟩) (us:=s) (un:=0) hs.len (by simp only;omega) (see0.trans hs.first) h3 (eqT_kind (by decide)) (by simpa using (callN_mk h1 tok0 tok0).2)
theorem t_star:IsTest [⟨5,⟨#[42]⟩,0⟩] 5 ⟨#[]⟩:=by
 refine ⟨by simp,fun T a o R pb b c hs hf=>?_⟩
 have hz:=hs.size (by simp)
 exact test_star (st:=⟨a,o,0⟩) hs.len (by simp only;omega) (by rw [see0,Nat.add_zero,hs.first];exact eqT_self)
def ktG (s:ByteArray):Int:=goG ktN (fun k=>(k:Int)) 0 s 4 0
theorem ktG_eq (s:ByteArray):ktOf s=ktG s:=goG_eq _ _
def axG (s:ByteArray):Int:=goG axN (fun k=>(k:Int)) 0 s 13 0
theorem axG_eq (s:ByteArray):axOf s=axG s:=goG_eq _ _
theorem t_kind {s:ByteArray} {kt:Int} (hk:ktG s=kt) (k0:(kt == 0)=false) (hz':s.size<=4000):IsTest [⟨1,s,0⟩,⟨5,⟨#[40]⟩,0⟩,⟨5,⟨#[41]⟩,0⟩] kt ⟨#[]⟩:=by
 refine ⟨by simp,fun T a o R pb b c hs hf=>?_⟩
 have hz:=hs.size (by simp)
 simp only [List.length_cons,List.length_nil] at hz
 have e1:tkA T (a + 1)=⟨5,⟨#[40]⟩,0⟩:=hs.at 1
 have e2:tkA T (a + 2)=⟨5,⟨#[41]⟩,0⟩:=hs.at 2
 exact test_kind (st:=⟨a,o,0⟩) (us:=s) (un:=0) (s2:=⟨a + 3,o,0⟩) hs.len (by simp only;omega) (see0.trans hs.first) hz' (eqT_kind (by decide)) ((ktG_eq s).trans hk) k0 (by simp only;omega) (by simp only;omega) (by rw [see0,Nat.add_zero,e1];exact eqT_self) (want0 (by rw [e2];exact eqT_self))
theorem prim_name {s:ByteArray} (h:nameG s=true):IsPrim [⟨1,s,0⟩] (stepPh 1 4 s) 0:=by
 obtain ⟨h1,h2,h3⟩:=nameG_parts h
 refine ⟨by simp,h2,fun T a o R pb b c hs hf ho=>?_⟩
 have hz:=hs.size (by simp)
 have e1:tkA T (a + 1)=hd R:=hs.next
 obtain ⟨f1,f2⟩:=folP_parts hf
 refine bareStep_name (st:=⟨a,o,0⟩) (us:=s) (un:=0) (u1k:=(tkA T (a + 1)).kind) (u1s:=(tkA T (a + 1)).s) (u1n:=(tkA T (a + 1)).n) hs.len (by simp only;omega) (see0.trans hs.first) see0 (by show eqT (tkA T (a + 1)) _=false;rw [e1];exact f2) (eqT_kind (by decide)) (eqT_kind (by decide)) ?_ ((t_name h).2 T a o R pb b c hs hf)
 rw [see0,see0,see0,Nat.add_zero,e1,show tkA T a=⟨1,s,0⟩ from hs.first]
 unfold childB
 rw [(callN_mk h1 _ _).1,f1,eqT_kind (by decide)]
 rfl
theorem prim_star:IsPrim [⟨5,⟨#[42]⟩,0⟩] (stepPh 1 5 ⟨#[]⟩) 0:=by
 refine ⟨by simp,by decide +kernel,fun T a o R pb b c hs hf ho=>?_⟩
 have hz:=hs.size (by simp)
 refine bareStep_star (st:=⟨a,o,0⟩) (uk:=5) (us:=⟨#[42]⟩) (un:=0) hs.len (by simp only;omega) (see0.trans hs.first) (by decide) (by decide) (by decide) ?_ (t_star.2 T a o R pb b c hs hf)
 rw [see0,see0,see0,Nat.add_zero,show tkA T a=⟨5,⟨#[42]⟩,0⟩ from hs.first]
 unfold childB
 rw [eqT_self]
 rfl
theorem prim_kind {s:ByteArray} {kt:Int} (hk:ktG s=kt) (k0:(kt == 0)=false) (hz':s.size<=4000) (head:headP ⟨1,s,0⟩=true) (hm:mkBeg ⟨1,s,0⟩ ⟨5,⟨#[40]⟩,0⟩ ⟨5,⟨#[41]⟩,0⟩=false):IsPrim [⟨1,s,0⟩,⟨5,⟨#[40]⟩,0⟩,⟨5,⟨#[41]⟩,0⟩] (stepPh 1 kt ⟨#[]⟩) 0:=by
 refine ⟨by simp,head,fun T a o R pb b c hs hf ho=>?_⟩
 have hz:=hs.size (by simp)
 simp only [List.length_cons,List.length_nil] at hz
 have e0:tkA T a=⟨1,s,0⟩:=hs.first
 have e1:tkA T (a + 1)=⟨5,⟨#[40]⟩,0⟩:=hs.at 1
 have e2:tkA T (a + 2)=⟨5,⟨#[41]⟩,0⟩:=hs.at 2
 refine bareStep_name (st:=⟨a,o,0⟩) (us:=s) (un:=0) (u1k:=5) (u1s:=⟨#[40]⟩) (u1n:=0) hs.len (by simp only;omega) (see0.trans e0) (see0.trans e1) (by decide) (eqT_kind (by decide)) (eqT_kind (by decide)) ?_ ((t_kind hk k0 hz').2 T a o R pb b c hs hf)
 rw [see0,see0,see0,Nat.add_zero,e0,e1,e2]
 unfold childB
 rw [hm,ktG_eq,hk,k0,eqT_self,eqT_self]
 rfl
theorem prim_upx:IsPrim [⟨5,⟨#[46,46]⟩,0⟩] (stepPh 5 1 ⟨#[]⟩) 0:=by
 refine ⟨by simp,by decide +kernel,fun T a o R pb b c hs hf ho=>?_⟩
 have hz:=hs.size (by simp)
 exact bareStep_up (st:=⟨a,o,0⟩) (uk:=5) (us:=⟨#[46,46]⟩) (un:=0) hs.len (by simp only;omega) (see0.trans hs.first) (by decide) (by decide) (by decide)
theorem prim_at {Y:List Tok} {tk:Int} {tn:ByteArray} (h:IsTest Y tk tn):IsPrim (⟨5,⟨#[64]⟩,0⟩ :: Y) (stepPh 12 tk tn) 0:=by
 refine ⟨by simp,show headP ⟨5,⟨#[64]⟩,0⟩=true by decide +kernel,fun T a o R pb b c hs hf ho=>?_⟩
 have hz:=hs.size (by simp)
 have h1:=hs.cons
 have k:=h.2 T (a + 1) o R pb b c h1.2 hf
 rw [show a + 1 + Y.length=a + (⟨5,⟨#[64]⟩,0⟩ :: Y:List Tok).length by rw [List.length_cons];omega] at k
 exact bareStep_at (st:=⟨a,o,0⟩) (uk:=5) (us:=⟨#[64]⟩) (un:=0) hs.len (by simp only;omega) (see0.trans hs.first) (by decide) (by decide) k
theorem prim_axis {Y:List Tok} {s:ByteArray} {ax tk:Int} {tn:ByteArray} (head:headP ⟨1,s,0⟩=true) (hax:axG s=ax) (a0:(ax == 0)=false) (h:IsTest Y tk tn):IsPrim (⟨1,s,0⟩ :: ⟨5,⟨#[58,58]⟩,0⟩ :: Y) (stepPh ax tk tn) 0:=by
 refine ⟨by simp,head,fun T a o R pb b c hs hf ho=>?_⟩
 have hz:=hs.size (by simp)
 simp only [List.length_cons] at hz
 have h1:=hs.cons
 have h2:=h1.2.cons
 have k:=h.2 T (a + 1 + 1) o R pb b c h2.2 hf
 rw [show a + 1 + 1 + Y.length=a + (⟨1,s,0⟩ :: ⟨5,⟨#[58,58]⟩,0⟩ :: Y:List Tok).length by rw [List.length_cons,List.length_cons];omega] at k
 exact bareStep_axis (st:=⟨a,o,0⟩) (us:=s) (un:=0) (u1k:=5) (u1s:=⟨#[58,58]⟩) (u1n:=0) hs.len (by simp only;omega) (see0.trans h1.1) (see0.trans h2.1) (by decide) (namedAxis_ok (st:=⟨a,o,0⟩) (us:=s) (un:=0) hs.len (by simp only;omega) (see0.trans h1.1) ((axG_eq s).trans hax) a0 k)
theorem st_plain {X:List Tok} {p:Ph} {d:Nat} (h:IsPrim X p d):IsStep X p (d + 1):=by
 refine ⟨h.ne,h.head,fun T a o R pb b c hs hf ho=>?_⟩
 have hz:=hs.size h.ne
 obtain ⟨f1,f2⟩:=folS_P hf
 exact step_plain (st:=⟨a,o,0⟩) (s0:=⟨a,o + 1,0⟩) (s1:=⟨a + X.length,o + 1,0⟩) hs.len (by simp only;omega) (by simp only;omega) (by simp only;omega) (by simp only;omega) (ent0 (by omega)) (u1k:=(tkA T (a + X.length)).kind) (u1s:=(tkA T (a + X.length)).s) (u1n:=(tkA T (a + X.length)).n) see0 (by show eqT (tkA T (a + X.length)) _=false;rw [hs.next];exact f2) (h.run T a (o + 1) R pb b c hs f1 (by omega))
def filP (p q:Ph):Ph:=phN 22 ⟨0,0,⟨#[]⟩⟩ ⟨#[]⟩ 0 0 0 ⟨#[]⟩ 2 (fun i=>if i=0 then p else q)
theorem st_filter {X Y:List Tok} {p q:Ph} {d:Nat} (h:IsPrim X p d) (hy:IsLs Y q d):IsStep (X ++ (⟨5,⟨#[91]⟩,0⟩ :: (Y ++ [⟨5,⟨#[93]⟩,0⟩]))) (filP p q) (d + 1):=by
 refine ⟨by simp,by rw [hd_app h.ne];exact h.head,fun T a o R pb b c hs hf ho=>?_⟩
 have hz:=hs.size (by simp)
 simp only [List.length_append,List.length_cons,List.length_nil] at hz
 obtain ⟨f1,f2⟩:=folS_P hf
 have h1:=hs.assoc
 have h2:=hs.tail.cons
 have h3:=h2.2.assoc
 have h4:=h2.2.tail.cons
 have en:tkA T (a + X.length + 1 + Y.length + 1)=hd R:=h4.2.first
 have e:a + (X ++ (⟨5,⟨#[91]⟩,0⟩ :: (Y ++ [⟨5,⟨#[93]⟩,0⟩])):List Tok).length=a + X.length + 1 + Y.length + 1:=by
  simp only [List.length_append,List.length_cons,List.length_nil];omega
 rw [e]
 refine step_filter (st:=⟨a,o,0⟩) (s0:=⟨a,o + 1,0⟩) (n:=1) (ST:=fun k=>if k=0 then ⟨a + X.length,o + 1,0⟩ else ⟨a + X.length + 1 + Y.length + 1,o + 1,0⟩) (S3:=fun _=>⟨a + X.length + 1 + Y.length,o + 1,0⟩) (A:=fun i=>if i=0 then p else q) (p:=p) hs.len (by simp only;omega) (by simp only;omega) (by simp only [Nat.one_ne_zero,if_false];omega) (fun k hk=>by by_cases hk0:k=0 <;> simp [hk0] <;> omega) rfl (by decide) (ent0 (by omega)) (u1k:=5) (u1s:=⟨#[91]⟩) (u1n:=0) ?_ (by decide) (fun k hk=>?_) (fun k hk=>?_) ?_ (fun k hk=>?_) ?_
 · simp only [if_true]
   exact see0.trans h2.1
 · obtain rfl:k=0:=by omega
   simp only [if_true,Nat.zero_add,Nat.one_ne_zero,if_false]
   exact ⟨by rw [see0,Nat.add_zero,h2.1];decide,want0 (by rw [h4.1];exact eqT_self),by omega⟩
 · obtain rfl:k=0:=by omega
   simp only [if_true,Nat.zero_add,Nat.one_ne_zero,if_false]
   exact hy.run T (a + X.length + 1) (o + 1) _ pb b c h3 (by show folL ⟨5,⟨#[93]⟩,0⟩=true;decide +kernel) (by omega)
 · simp only [Nat.one_ne_zero,if_false]
   rw [see0,Nat.add_zero,en];exact f2
 · obtain rfl:k=0:=by omega
   simp only [if_true,Nat.zero_add,Nat.one_ne_zero,if_false]
   omega
 · simp only [if_true]
   exact h.run T a (o + 1) _ pb b c h1 (by show folP ⟨5,⟨#[91]⟩,0⟩=true;decide +kernel) (by omega)
end Go.Proofs.YtmcmbdkpfcibkaaGreatDoor
