import Derived.Test.YtmcmbdkpfcibkaaGreatDoorDvA
import Derived.Test.YtmcmbdkpfcibkaaGreatDoorQoTks
import Derived.Test.YtmcmbdkpfcibkaaGreatDoorQoAst
import Derived.Test.YtmcmbdkpfcibkaaGreatDoorLvA
import Derived.Test.YtmcmbdkpfcibkaaGreatDoorRgIn
import Derived.Test.YtmcmbdkpfcibkaaGreatDoorLxE
import Derived.Test.YtmcmbdkpfcibkaaGreatDoorPrPath
import Derived.Test.YtmcmbdkpfcibkaaGreatDoorLxP
import Derived.Test.YtmcmbdkpfcibkaaGreatDoorLuJ
set_option linter.unusedVariables false
set_option maxHeartbeats 6400000
namespace Go.Proofs.YtmcmbdkpfcibkaaGreatDoor
set_option maxRecDepth 100000
open Go.RowKit
abbrev J:=Tok × List Tok × Ph
def jt:List J->List Tok
 | []=>[]
 | e :: L=>e.1 :: (e.2.1 ++ jt L)
theorem jt_app (L M:List J):jt (L ++ M)=jt L ++ jt M:=by
 induction L with
 | nil=>rfl
 | cons e L ih=>simp [jt,ih]
def j0:J:=(tok0,[],rootP)
def jAt (a:Nat) (L:List J) (k:Nat):Nat:=a + (jt (L.take k)).length
theorem j_cut {L:List J} {k:Nat} (hk:k<L.length):L=L.take k ++ (L.getD k j0 :: L.drop (k + 1)):=by
 have e:L.getD k j0=L[k]:=by rw [List.getD_eq_getElem?_getD,List.getElem?_eq_getElem hk];rfl
 rw [e,<- List.drop_eq_getElem_cons hk,List.take_append_drop]
theorem jt_cut {L:List J} {k:Nat} (hk:k<L.length):jt L=jt (L.take k) ++ ((L.getD k j0).1 :: ((L.getD k j0).2.1 ++ jt (L.drop (k + 1)))):=by
 conv=>lhs;rw [j_cut hk]
 rw [jt_app]
 rfl
theorem j_mem {L:List J} {k:Nat} (hk:k<L.length):L.getD k j0∈L:=by
 have e:L.getD k j0=L[k]:=by rw [List.getD_eq_getElem?_getD,List.getElem?_eq_getElem hk];rfl
 rw [e]
 exact List.getElem_mem hk
theorem jAt_succ {a:Nat} {L:List J} {k:Nat} (hk:k<L.length):jAt a L (k + 1)=jAt a L k + 1 + (L.getD k j0).2.1.length:=by
 have e:L.getD k j0=L[k]:=by rw [List.getD_eq_getElem?_getD,List.getElem?_eq_getElem hk];rfl
 unfold jAt
 rw [List.take_add_one,List.getElem?_eq_getElem hk,jt_app,List.length_append,e]
 simp only [Option.toList_some,jt,List.length_cons,List.append_nil]
 omega
theorem jAt_zero {a:Nat} {L:List J}:jAt a L 0=a:=by simp [jAt,jt]
theorem jAt_len {a:Nat} {L:List J}:jAt a L L.length=a + (jt L).length:=by
 unfold jAt
 rw [List.take_length]
theorem jAt_le {a:Nat} {L:List J} {k:Nat}:jAt a L k<=a + (jt L).length:=by
 unfold jAt
 have h:jt L=jt (L.take k) ++ jt (L.drop k):=by rw [<- jt_app,List.take_append_drop]
 rw [h,List.length_append]
 omega
theorem Sp.jt {T:List Tok} {a:Nat} {L:List J} {R:List Tok} (h:Sp T a (jt L) R) {k:Nat} (hk:k<L.length):Sp T (jAt a L k) ((L.getD k j0).1 :: (L.getD k j0).2.1) (jt (L.drop (k + 1)) ++ R):=by
 have h1:Sp T a (Go.Proofs.YtmcmbdkpfcibkaaGreatDoor.jt (L.take k) ++ ((L.getD k j0).1 :: ((L.getD k j0).2.1 ++ Go.Proofs.YtmcmbdkpfcibkaaGreatDoor.jt (L.drop (k + 1))))) R:=by rw [<- jt_cut hk];exact h
 have h2:=h1.tail
 exact (show Sp T (jAt a L k) (((L.getD k j0).1 :: (L.getD k j0).2.1) ++ Go.Proofs.YtmcmbdkpfcibkaaGreatDoor.jt (L.drop (k + 1))) R from h2).assoc
theorem Sp.jn {T:List Tok} {a:Nat} {L:List J} {R:List Tok} (h:Sp T a (Go.Proofs.YtmcmbdkpfcibkaaGreatDoor.jt L) R) (k:Nat):tkA T (jAt a L k)=hd (Go.Proofs.YtmcmbdkpfcibkaaGreatDoor.jt (L.drop k) ++ R):=by
 have h1:Sp T a (Go.Proofs.YtmcmbdkpfcibkaaGreatDoor.jt (L.take k) ++ Go.Proofs.YtmcmbdkpfcibkaaGreatDoor.jt (L.drop k)) R:=by rw [<- jt_app,List.take_append_drop];exact h
 exact h1.tail.first
theorem Sp.je {T:List Tok} {a:Nat} {L:List J} {R:List Tok} (h:Sp T a (Go.Proofs.YtmcmbdkpfcibkaaGreatDoor.jt L) R):tkA T (jAt a L L.length)=hd R:=by
 rw [h.jn,List.drop_length]
 rfl
theorem jt_fol {P:Tok->Prop} {L:List J} {R:List Tok} (h1:∀ e∈L,P e.1) (h2:P (hd R)) (k:Nat):P (hd (jt (L.drop k) ++ R)):=by
 cases hl:L.drop k with
 | nil=>exact h2
 | cons e M=>exact h1 e (List.mem_of_mem_drop (show e∈L.drop k by rw [hl];simp))
def opOk (bd:Nat) (u:Tok):Bool:=(u.kind == 1 || u.kind == 5) && (opG u.s == (bd:Int) && (decide (u.s.size<=4000) && folA u))
theorem opOk_next {bd:Nat} {u:Tok} (h:opOk bd u=true):opNext u (bd:Int)=true/\u.s.size<=4000:=by
 unfold opOk at h
 simp only [Bool.and_eq_true,decide_eq_true_eq] at h
 refine ⟨?_,h.2.2.1⟩
 unfold opNext
 have h2:opG u.s=(bd:Int):=eq_of_beq h.2.1
 rw [h.1,opG_eq,h2]
 simp
theorem opOk_fol {bd:Nat} {u:Tok} (h:opOk bd u=true):folB (bd + 1) u=true:=by
 unfold opOk at h
 simp only [Bool.and_eq_true,decide_eq_true_eq] at h
 have h2:opG u.s=(bd:Int):=eq_of_beq h.2.1
 unfold folB
 rw [h.2.2.2,h2]
 simp only [Bool.true_and,Bool.not_eq_true',Bool.and_eq_false_iff]
 exact .inr (decide_eq_false (by omega))
structure IsBin (bd:Nat) (X:List Tok) (p:Ph) (d:Nat):Prop where
 ne:X≠[]
 head:headK (hd X)=true
 run:Dv 123 [vI (bd:Int)] (folB bd) X p d
theorem IsBin.more {bd:Nat} {X:List Tok} {p:Ph} {d e:Nat} (h:IsBin bd X p d) (hd:d<=e):IsBin bd X p e:=⟨h.ne,h.head,h.run.more hd⟩
theorem bin_up1 {bd:Nat} {X:List Tok} {p:Ph} {d:Nat} (hbd:bd<8) (h:IsBin (bd + 1) X p d):IsBin bd X p d:=by
 refine ⟨h.ne,h.head,fun T a o R pb b c hs hf ho=>?_⟩
 have hz:=hs.size h.ne
 have l1:a<=300:=by omega
 have l2:a + X.length<=300:=by omega
 have n:opNext (seeM T ⟨a + X.length,o,0⟩ 0) bd=false:=by
  rw [see0,Nat.add_zero,hs.next];exact (folB_A hf).2 bd (Nat.le_refl _)
 have k:=h.run T a o R pb b c hs (folB_up hf (by omega)) ho
 exact binary_none (st:=⟨a,o,0⟩) (s1:=⟨a + X.length,o,0⟩) hs.len l1 hbd l2 n k
theorem bin_down {X:List Tok} {p:Ph} {d:Nat}:∀ (m bd:Nat),bd + m<=8->IsBin (bd + m) X p d->IsBin bd X p d
 | 0,bd,_,h=>h
 | m + 1,bd,hb,h=>bin_up1 (by omega) (bin_down m (bd + 1) (by omega) (by rw [show bd + 1 + m=bd + (m + 1) by omega];exact h))
theorem IsBin.down {be:Nat} {X:List Tok} {p:Ph} {d:Nat} (h:IsBin be X p d) (bd:Nat) (h1:bd<=be:=by omega) (h2:be<=8:=by omega):IsBin bd X p d :=
 bin_down (be - bd) bd (by omega) (by rw [show bd + (be - bd)=be by omega];exact h)
def nmJ (L:List J) (k:Nat):ByteArray:=(L.getD k j0).1.s
def phJ (L:List J) (k:Nat):Ph:=(L.getD k j0).2.2
theorem bin_chain {bd:Nat} {X:List Tok} {p:Ph} {L:List J} {d:Nat} (hbd:bd<8) (h2:bd≠2) (h3:bd≠3) (h0:IsBin (bd + 1) X p d) (hL:∀ e∈L,opOk bd e.1=true/\IsBin (bd + 1) e.2.1 e.2.2 d):IsBin bd (X ++ jt L) (chB p (nmJ L) (phJ L) L.length) d:=by
 refine ⟨fun h=>h0.ne (List.append_eq_nil_iff.1 h).1,by rw [hd_app h0.ne];exact h0.head,fun T a o R pb b c hs hf ho=>?_⟩
 have hz:=hs.size (fun h=>h0.ne (List.append_eq_nil_iff.1 h).1)
 rw [List.length_append] at hz ⊢
 have s1:=hs.assoc
 have s2:=hs.tail
 have hfo:∀ k,folB (bd + 1) (hd (jt (L.drop k) ++ R))=true:=fun k=>jt_fol (P:=fun u=>folB (bd + 1) u=true) (fun e he=>opOk_fol (hL e he).1) (folB_up hf (by omega)) k
 have r0:=h0.run T a o _ pb b c s1 (hfo 0) ho
 rw [<- Nat.add_assoc,<- jAt_len]
 have e0:RunT pb b c T 123 #[vP pb 0,vI ((bd + 1:Nat):Int)] ⟨a,o,0⟩ ⟨jAt (a + X.length) L 0,o,0⟩ p:=by rw [jAt_zero];exact r0
 have hle:∀ k,jAt (a + X.length) L k<=200:=fun k=>by have:=jAt_le (a:=a + X.length) (L:=L) (k:=k);omega
 have hat:a<=300:=by omega
 exact binary_chain (st:=⟨a,o,0⟩) (ST:=fun k=>⟨jAt (a + X.length) L k,o,0⟩) (NM:=nmJ L) (A:=phJ L) hs.len hbd h2 h3 hat (fun k _=>by have:=hle k;simp only;omega) e0
  (fun k hk=>by
   obtain ⟨q1,q2⟩:=opOk_next (hL _ (j_mem hk)).1
   have e:seeM T ⟨jAt (a + X.length) L k,o,0⟩ 0=(L.getD k j0).1:=see0.trans (s2.jt hk).cons.1
   exact ⟨by rw [e];exact q1,⟨_,_,e⟩,q2⟩)
  (fun k hk=>by
   have r:=(hL _ (j_mem hk)).2.run T _ o _ pb b c (s2.jt hk).cons.2 (hfo (k + 1)) ho
   rw [<- jAt_succ hk] at r
   exact r)
  (by rw [see0,Nat.add_zero,s2.je];exact (folB_A hf).2 bd (Nat.le_refl _))
  (fun k hk=>by simp only;rw [jAt_succ hk];omega)
structure IsMin (X:List Tok) (p:Ph) (d:Nat):Prop where
 ne:X≠[]
 head:headK (hd X)=true
 run:Dv 146 [] folA X p d
theorem headM_parts {u:Tok} (h:headM u=true):headK u=true/\eqT u ⟨5,⟨#[45]⟩,0⟩=false:=by
 unfold headM at h
 simpa using h
theorem headP_parts {u:Tok} (h:headP u=true):headM u=true/\eqT u ⟨5,⟨#[47]⟩,0⟩=false/\eqT u ⟨5,⟨#[47,47]⟩,0⟩=false/\stepB u=true:=by
 unfold headP at h
 simpa using h
theorem min_bin {X:List Tok} {p:Ph} {d:Nat} (h:IsMin X p d):IsBin 8 X p d:=by
 refine ⟨h.ne,h.head,fun T a o R pb b c hs hf ho=>?_⟩
 have hz:=hs.size h.ne
 have l1:a<=300:=by omega
 have k:=h.run T a o R pb b c hs (folB_A hf).1 ho
 exact binary_top (st:=⟨a,o,0⟩) hs.len l1 k
def Stp (d:Nat) (L:List J):Prop:=∀ e∈L,(e.1=⟨5,⟨#[47]⟩,0⟩\/e.1=⟨5,⟨#[47,47]⟩,0⟩)/\IsStep e.2.1 e.2.2 d
def sepJ (L:List J) (k:Nat):Bool:=eqT (L.getD k j0).1 ⟨5,⟨#[47,47]⟩,0⟩
theorem steps_chain {T:List Tok} {a o d:Nat} {L:List J} {R:List Tok} {pb b c:Nat} {p0:Ph} (hL:Stp d L) (h:Sp T a (jt L) R) (hz:a + (jt L).length<=200) (hf:folA (hd R)=true) (ho:o + d<=30):RunS pb b c T ⟨a,o,0⟩ ⟨a + (jt L).length,o,0⟩ p0 (chP p0 (sepJ L) (phJ L) L.length):=by
 have hfo:∀ k,folS (hd (jt (L.drop k) ++ R))=true:=fun k=>jt_fol (P:=fun u=>folS u=true) (fun e he=>by rcases (hL e he).1 with h | h <;> rw [h] <;> decide +kernel) (folA_S hf).1 k
 rw [<- jAt_len]
 have hle:∀ k,jAt a L k<=200:=fun k=>by have:=jAt_le (a:=a) (L:=L) (k:=k);omega
 have see:∀ k,k<L.length->seeM T ⟨jAt a L k,o,0⟩ 0=(L.getD k j0).1:=fun k hk=>see0.trans (h.jt hk).cons.1
 have r:=steps_run (pb:=pb) (b:=b) (c:=c) (T:=T) (ST:=fun k=>⟨jAt a L k,o,0⟩) (n:=L.length) (SEP:=sepJ L) (A:=phJ L) (p0:=p0) h.len (fun k _=>by have:=hle k;simp only;omega)
  (fun k hk hs=>by
   rw [see k hk]
   unfold sepJ at hs
   rcases (hL _ (j_mem hk)).1 with h | h <;> rw [h] at hs ⊢
   · decide
   · exact absurd hs (by decide))
  (fun k hk hs=>by
   rw [see k hk]
   unfold sepJ at hs
   rcases (hL _ (j_mem hk)).1 with h | h <;> rw [h] at hs ⊢
   · exact absurd hs (by decide)
   · decide)
  (fun k hk=>by
   have r:=(hL _ (j_mem hk)).2.run T _ o _ pb b c (h.jt hk).cons.2 (hfo (k + 1)) ho
   rw [<- jAt_succ hk] at r
   exact r)
  (by rw [see0,Nat.add_zero,h.je];exact (folA_S hf).2)
  (fun k hk=>by simp only;rw [jAt_succ hk];omega)
 simpa only [jAt_zero] using r
inductive IsPth (d:Nat):List Tok->Prop
 | step {X:List Tok} {p:Ph} {L:List J} (h:IsStep X p d) (hL:Stp d L):IsPth d (X ++ jt L)
 | dos {Y:List Tok} {q:Ph} {L:List J} (hL:Stp d ((⟨5,⟨#[47,47]⟩,0⟩,Y,q) :: L)):IsPth d (jt ((⟨5,⟨#[47,47]⟩,0⟩,Y,q) :: L))
 | root {X:List Tok} {p:Ph} {L:List J} (h:IsStep X p d) (hL:Stp d L):IsPth d (⟨5,⟨#[47]⟩,0⟩ :: (X ++ jt L))
theorem Stp.snoc {d:Nat} {L:List J} {t:Tok} {Y:List Tok} {q:Ph} (h:Stp d L) (ht:t=⟨5,⟨#[47]⟩,0⟩\/t=⟨5,⟨#[47,47]⟩,0⟩) (hy:IsStep Y q d):Stp d (L ++ [(t,Y,q)]):=fun e he=>by
 rcases List.mem_append.1 he with he | he
 · exact h e he
 · rw [List.mem_singleton.1 he];exact ⟨ht,hy⟩
theorem jt_one (L:List J) (t:Tok) (Y:List Tok) (q:Ph):jt (L ++ [(t,Y,q)])=jt L ++ (t :: Y):=by
 rw [jt_app]
 simp [jt]
theorem IsPth.grow {d:Nat} {X:List Tok} (h:IsPth d X) {t:Tok} {Y:List Tok} {q:Ph} (ht:t=⟨5,⟨#[47]⟩,0⟩\/t=⟨5,⟨#[47,47]⟩,0⟩) (hy:IsStep Y q d):IsPth d (X ++ (t :: Y)):=by
 cases h with
 | step h hL =>
  have k:=IsPth.step h (hL.snoc ht hy)
  rw [jt_one,<- List.append_assoc] at k
  exact k
 | dos hL =>
  have k:=IsPth.dos (hL.snoc ht hy)
  rw [<- jt_one]
  exact k
 | root h hL =>
  have k:=IsPth.root h (hL.snoc ht hy)
  rw [jt_one,<- List.append_assoc] at k
  exact k
open Go.RowKit
structure IsSg (X:List Tok) (p:Ph) (d:Nat):Prop where
 ne:X≠[]
 head:headE (hd X)=true
 run:Dv 84 [] (folB 0) X p d
theorem IsSg.more {X:List Tok} {p:Ph} {d e:Nat} (h:IsSg X p d) (hd:d<=e):IsSg X p e:=⟨h.ne,h.head,h.run.more hd⟩
theorem headK_parts {u:Tok} (h:headK u=true):headE u=true/\eqT u ⟨1,⟨#[102,111,114]⟩,0⟩=false/\eqT u ⟨1,⟨#[108,101,116]⟩,0⟩=false/\eqT u ⟨1,⟨#[115,111,109,101]⟩,0⟩=false/\eqT u ⟨1,⟨#[101,118,101,114,121]⟩,0⟩=false/\eqT u ⟨1,⟨#[105,102]⟩,0⟩=false:=by
 unfold headK at h
 simpa using h
theorem sg_bin {X:List Tok} {p:Ph} {d:Nat} (h:IsBin 0 X p d):IsSg X p (d + 1):=by
 obtain ⟨e1,e2,e3,e4,e5,e6⟩:=headK_parts h.head
 refine ⟨h.ne,e1,fun T a o R pb b c hs hf ho=>?_⟩
 have hz:=hs.size h.ne
 have l1:a<=300:=by omega
 have l2:o<=100:=by omega
 have l3:o + 1<=200:=by omega
 have r:=h.run T a (o + 1) R pb b c hs hf (by omega)
 have e:seeM T ⟨a,o + 1,0⟩ 0=hd X:=see0.trans (hs.fst h.ne)
 by_cases k4:((tkA T (a + 1)).kind == 4)=true
 · exact single_bnd (st:=⟨a,o,0⟩) (s0:=⟨a,o + 1,0⟩) (s1:=⟨a + X.length,o + 1,0⟩) (vk:=(tkA T (a + 1)).kind) (vs:=(tkA T (a + 1)).s) (vn:=(tkA T (a + 1)).n) hs.len l1 l1 l2 ⟨by simp,l3⟩ (ent0 (by omega)) (e.trans rfl) see0 k4 e2 e3 e4 e5 e6 r
 · exact single_bin (st:=⟨a,o,0⟩) (s0:=⟨a,o + 1,0⟩) (s1:=⟨a + X.length,o + 1,0⟩) (vk:=(tkA T (a + 1)).kind) (vs:=(tkA T (a + 1)).s) (vn:=(tkA T (a + 1)).n) hs.len l1 l1 l2 ⟨by simp,l3⟩ (ent0 (by omega)) (e.trans rfl) see0 (by simpa using k4) e6 r
theorem sg_min {X:List Tok} {p:Ph} {d:Nat} (h:IsMin X p d):IsSg X p (d + 1):=sg_bin ((min_bin h).down 0)
def Sgs (d:Nat) (L:List J):Prop:=∀ e∈L,e.1=⟨5,⟨#[44]⟩,0⟩/\IsSg e.2.1 e.2.2 d
def phC (p:Ph) (L:List J) (k:Nat):Ph:=if k=0 then p else phJ L (k - 1)
theorem sgs_chain {T:List Tok} {a o d:Nat} {X:List Tok} {p:Ph} {L:List J} {R:List Tok} {pb b c:Nat} (h:IsSg X p d) (hL:Sgs d L) (hs:Sp T a (X ++ jt L) R) (hf:folL (hd R)=true) (ho:o + d<=30):RunL pb b c T 51 ⟨a,o,0⟩ ⟨a + (X ++ jt L).length,o,0⟩ (L.length + 1) (phC p L):=by
 have ne:X ++ jt L≠[]:=fun e=>h.ne (List.append_eq_nil_iff.1 e).1
 have hz:=hs.size ne
 rw [List.length_append] at hz ⊢
 have s1:=hs.assoc
 have s2:=hs.tail
 have hfo:∀ k,folB 0 (hd (jt (L.drop k) ++ R))=true:=fun k=>jt_fol (P:=fun u=>folB 0 u=true) (fun e he=>by rw [(hL e he).1];decide +kernel) (folL_B hf).1 k
 rw [<- Nat.add_assoc,<- jAt_len]
 have hle:∀ k,jAt (a + X.length) L k<=200:=fun k=>by have:=jAt_le (a:=a + X.length) (L:=L) (k:=k);omega
 have r0:=h.run T a o _ pb b c s1 (hfo 0) ho
 have hl:L.length<=(jt L).length:=by
  clear hL hs s1 s2 hfo hle r0 hz ne
  induction L with
  | nil=>exact Nat.zero_le _
  | cons e L ih=>simp only [jt,List.length_cons,List.length_append];omega
 have r:=singles_is (pb:=pb) (b:=b) (c:=c) (st:=⟨a,o,0⟩) (n:=L.length + 1) (A:=phC p L) (ST:=fun k=>⟨jAt (a + X.length) L (k - 1),o,0⟩) hs.len (by omega) (by omega) (fun k hk=>by have:=hle (k - 1);simp only;omega)
  (by simp only [Nat.sub_self,jAt_zero];exact r0)
  (fun k k1 k2=>by
   have e:seeM T ⟨jAt (a + X.length) L (k - 1),o,0⟩ 0=(L.getD (k - 1) j0).1:=see0.trans (s2.jt (by omega)).cons.1
   rw [e,(hL _ (j_mem (by omega))).1];exact eqT_self)
  (fun k k1 k2=>by
   obtain ⟨j,rfl⟩:∃ j,k=j + 1:=⟨k - 1,by omega⟩
   have hj:j<L.length:=by omega
   have r:=(hL _ (j_mem hj)).2.run T _ o _ pb b c (s2.jt hj).cons.2 (hfo (j + 1)) ho
   rw [<- jAt_succ hj] at r
   simp only [Nat.add_sub_cancel]
   unfold phC
   rw [if_neg (by omega)]
   exact r)
  (by
   simp only [Nat.add_sub_cancel]
   rw [see0,Nat.add_zero,s2.je];exact (folL_B hf).2)
 simpa only [Nat.add_sub_cancel] using r
theorem prim_call0 {s:ByteArray} (h:nameG s=true):IsPrim [⟨1,s,0⟩,⟨5,⟨#[40]⟩,0⟩,⟨5,⟨#[41]⟩,0⟩] (ph0 8 ⟨0,0,⟨#[]⟩⟩ s 0 0 0 ⟨#[]⟩) 0:=by
 obtain ⟨h1,h2,h3⟩:=nameG_parts h
 have hm:=fun v w=>callN_mk h1 v w
 refine prim_word (nm:=s) (by simp) h2 rfl (fun R=>by show eqT ⟨5,⟨#[40]⟩,0⟩ ⟨5,⟨#[58,58]⟩,0⟩=false;decide) (fun R=>?_) ?_
 · show childB ⟨1,s,0⟩ ⟨5,⟨#[40]⟩,0⟩ ⟨5,⟨#[41]⟩,0⟩=false
   unfold childB
   rw [(hm _ _).1,eqT_kind (by decide),(hm tok0 tok0).2,eqT_self]
   rfl
 · intro T a o R pb b c hs hf ho
   have hz:=hs.size (by simp)
   simp only [List.length_cons,List.length_nil] at hz
   have e0:seeM T ⟨a,o,0⟩ 0=⟨1,s,0⟩:=see0.trans hs.first
   have e1:tkA T (a + 1)=⟨5,⟨#[40]⟩,0⟩:=hs.at 1
   have e2:tkA T (a + 2)=⟨5,⟨#[41]⟩,0⟩:=hs.at 2
   have l1:a<=300:=by omega
   have l2:a + 1<=300:=by omega
   have l3:a + 2<=300:=by omega
   exact noStep_call (st:=⟨a,o,0⟩) (us:=s) (un:=0) (u1k:=5) (u1s:=⟨#[40]⟩) (u1n:=0) hs.len l1 e0 (see0.trans e1) (eqT_kind (by decide)) (eqT_kind (by decide)) (by decide) (by rw [e0];exact (hm _ _).1) (call_none (st:=⟨a,o,0⟩) (us:=s) (un:=0) (s2:=⟨a + 2,o,0⟩) hs.len l1 e0 h3 l2 (want0 (by rw [e1];exact eqT_self)) l3 (by rw [see0,Nat.add_zero,e2];exact eqT_self))
open Go.RowKit
def wSome:Tok:=⟨1,⟨#[115,111,109,101]⟩,0⟩
def wSat:Tok:=⟨1,⟨#[115,97,116,105,115,102,105,101,115]⟩,0⟩
def wIn:Tok:=⟨1,⟨#[105,110]⟩,0⟩
def wFor:Tok:=⟨1,⟨#[102,111,114]⟩,0⟩
def wLet:Tok:=⟨1,⟨#[108,101,116]⟩,0⟩
def wRet:Tok:=⟨1,⟨#[114,101,116,117,114,110]⟩,0⟩
def mBe:Tok:=⟨5,⟨#[58,61]⟩,0⟩
def mOp:Tok:=⟨5,⟨#[40]⟩,0⟩
def mCl:Tok:=⟨5,⟨#[41]⟩,0⟩
def mCo:Tok:=⟨5,⟨#[44]⟩,0⟩
open Go.RowKit
theorem IsMin.more {X:List Tok} {p:Ph} {d e:Nat} (h:IsMin X p d) (hd:d<=e):IsMin X p e:=⟨h.ne,h.head,h.run.more hd⟩
theorem Stp.more {d e:Nat} {L:List J} (h:Stp d L) (hd:d<=e):Stp e L:=fun x hx=>⟨(h x hx).1,(h x hx).2.more hd⟩
theorem IsPth.more {d e:Nat} {X:List Tok} (h:IsPth d X) (hd:d<=e):IsPth e X:=by
 cases h with
 | step h hL=>exact .step (h.more hd) (hL.more hd)
 | dos hL=>exact .dos (hL.more hd)
 | root h hL=>exact .root (h.more hd) (hL.more hd)
def Ands (d:Nat) (L:List J):Prop:=∀ e∈L,opOk 1 e.1=true/\IsBin 2 e.2.1 e.2.2 d
def Ors (d:Nat) (L:List J):Prop:=∀ e∈L,opOk 0 e.1=true/\IsBin 1 e.2.1 e.2.2 d
inductive IsTru (d:Nat):List Tok->Prop
 | mk {X:List Tok} {p:Ph} {L M:List J} (h:IsBin 2 X p d) (hL:Ands d L) (hM:Ors d M):IsTru d ((X ++ jt L) ++ jt M)
theorem IsTru.more {d e:Nat} {X:List Tok} (h:IsTru d X) (hd:d<=e):IsTru e X:=by
 cases h with
 | mk h hL hM=>exact .mk (h.more hd) (fun x hx=>⟨(hL x hx).1,(hL x hx).2.more hd⟩) (fun x hx=>⟨(hM x hx).1,(hM x hx).2.more hd⟩)
theorem pi_a:nameG ⟨#[97]⟩=true:=by decide +kernel
theorem pi_b:nameG ⟨#[98]⟩=true:=by decide +kernel
theorem pi_c:nameG ⟨#[99]⟩=true:=by decide +kernel
theorem pi_k:nameG ⟨#[107]⟩=true:=by decide +kernel
theorem pi_m:nameG ⟨#[109]⟩=true:=by decide +kernel
theorem pi_r:nameG ⟨#[114]⟩=true:=by decide +kernel
theorem t_node:IsTest [⟨1,⟨#[110,111,100,101]⟩,0⟩,mOp,mCl] (ktG ⟨#[110,111,100,101]⟩) ⟨#[]⟩:=t_kind rfl (by decide +kernel) (by decide)
theorem psep_is {j:Nat} (hj:j<2):∃ t:Tok,sepK.getD j []=[t]/\(t=⟨5,⟨#[47]⟩,0⟩\/t=⟨5,⟨#[47,47]⟩,0⟩):=by
 have h:j=0\/j=1:=by omega
 rcases h with rfl | rfl
 · exact ⟨_,rfl,.inl rfl⟩
 · exact ⟨_,rfl,.inr rfl⟩
open Go.RowKit
def StOk (p:Ph):Prop:=∃ (ax tk:Int) (tn:ByteArray),p=stepPh ax tk tn/\(1<=ax/\ax<=12)/\(1<=tk/\tk<=5)/\tn.size<=1/\(tk=4↔tn.size=1)
theorem st_okS {ax tk:Int} {tn:ByteArray} (h:decide (1<=ax/\ax<=12) && (decide (1<=tk/\tk<=5) && (decide (tn.size<=1) && (decide (tk=4) == decide (tn.size=1))))=true):StOk (stepPh ax tk tn):=by
 simp only [Bool.and_eq_true,decide_eq_true_eq,beq_iff_eq,decide_eq_decide] at h
 exact ⟨ax,tk,tn,rfl,h.1,h.2.1,h.2.2.1,h.2.2.2⟩
theorem dos_ok:StOk dosP:=st_okS (ax:=3) (tk:=1) (tn:=⟨#[]⟩) (by decide)
inductive PT:Ph->Nat->Prop
 | root:PT rootP 1
 | step {p q:Ph} {n:Nat} (h:PT p n) (hq:StOk q):PT (pathP p q) (n + 1)
theorem pt_ch {p0:Ph} {SEP:Nat->Bool} {A:Nat->Ph} {m:Nat} (h0:PT p0 m):∀ n,(∀ k,k<n->StOk (A k))->∃ k,k<=m + 2 * n/\PT (chP p0 SEP A n) k
 | 0,_=>⟨m,by omega,h0⟩
 | n + 1,hA=>by
  obtain ⟨k,hk,ih⟩:=pt_ch (SEP:=SEP) h0 n (fun k hk=>hA k (by omega))
  unfold chP
  by_cases hs:SEP n=true
  · rw [if_pos hs];exact ⟨k + 2,by omega,.step (.step ih dos_ok) (hA n (by omega))⟩
  · rw [if_neg hs];exact ⟨k + 1,by omega,.step ih (hA n (by omega))⟩
theorem jt_long {d:Nat}:∀ {L:List J},Stp d L->2 * L.length<=(jt L).length
 | [],_=>Nat.zero_le _
 | (t,Y,q) :: L,h=>by
  have h1:=jt_long (L:=L) (fun e he=>h e (List.mem_cons_of_mem _ he))
  have h2:=(h (t,Y,q) (List.mem_cons_self ..)).2.ne
  have h3:=List.length_pos_iff.2 h2
  simp only [jt,List.length_cons,List.length_append]
  simp only [] at h3
  omega
def StO (L:List J):Prop:=∀ e∈L,StOk e.2.2
theorem StO.at {L:List J} (h:StO L) {k:Nat} (hk:k<L.length):StOk (phJ L k):=h _ (j_mem hk)
inductive PthS:List Tok->Prop
 | dos {Y:List Tok} {q:Ph} {L:List J} (hL:Stp 1 ((⟨5,⟨#[47,47]⟩,0⟩,Y,q) :: L)) (hO:StO ((⟨5,⟨#[47,47]⟩,0⟩,Y,q) :: L)):PthS (jt ((⟨5,⟨#[47,47]⟩,0⟩,Y,q) :: L))
 | root {X:List Tok} {p:Ph} {L:List J} (h:IsStep X p 1) (hp:StOk p) (hL:Stp 1 L) (hO:StO L):PthS (⟨5,⟨#[47]⟩,0⟩ :: (X ++ jt L))
theorem StO.snoc {L:List J} {t:Tok} {Y:List Tok} {q:Ph} (h:StO L) (hq:StOk q):StO (L ++ [(t,Y,q)]):=fun e he=>by
 rcases List.mem_append.1 he with he | he
 · exact h e he
 · rw [List.mem_singleton.1 he];exact hq
theorem PthS.grow {X:List Tok} (h:PthS X) {t:Tok} {Y:List Tok} {q:Ph} (ht:t=⟨5,⟨#[47]⟩,0⟩\/t=⟨5,⟨#[47,47]⟩,0⟩) (hy:IsStep Y q 1) (hq:StOk q):PthS (X ++ (t :: Y)):=by
 cases h with
 | dos hL hO =>
  have k:=PthS.dos (hL.snoc ht hy) (hO.snoc hq)
  rw [<- jt_one]
  exact k
 | root h hp hL hO =>
  have k:=PthS.root h hp (hL.snoc ht hy) (hO.snoc hq)
  rw [jt_one,<- List.append_assoc] at k
  exact k
theorem pth_tree {X:List Tok} (h:PthS X):∃ p k,IsMin X p 1/\PT p k/\k<=X.length + 1:=by
 cases h with
 | @dos Y q L hL hO =>
  have ne:jt ((⟨5,⟨#[47,47]⟩,0⟩,Y,q) :: L)≠[]:=by simp [jt]
  obtain ⟨k0,hk0,hpt⟩:=pt_ch (SEP:=sepJ ((⟨5,⟨#[47,47]⟩,0⟩,Y,q) :: L)) (A:=phJ ((⟨5,⟨#[47,47]⟩,0⟩,Y,q) :: L)) .root ((⟨5,⟨#[47,47]⟩,0⟩,Y,q) :: L:List J).length (fun k hk=>hO.at hk)
  have hlong:=jt_long hL
  refine ⟨chP rootP (sepJ ((⟨5,⟨#[47,47]⟩,0⟩,Y,q) :: L)) (phJ ((⟨5,⟨#[47,47]⟩,0⟩,Y,q) :: L)) ((⟨5,⟨#[47,47]⟩,0⟩,Y,q) :: L:List J).length,k0,⟨ne,show headK ⟨5,⟨#[47,47]⟩,0⟩=true by decide +kernel,fun T a o R pb b c hs hf ho=>?_⟩,hpt,by omega⟩
  have hz:=hs.size ne
  have l1:a<=300:=by omega
  have e:seeM T ⟨a,o,0⟩ 0=⟨5,⟨#[47,47]⟩,0⟩:=see0.trans (hs.fst ne)
  have r1:=steps_chain (pb:=pb) (b:=b) (c:=c) (p0:=rootP) hL hs (by omega) hf ho
  exact minus_none (st:=⟨a,o,0⟩) hs.len l1 e (by decide) (path_dos (st:=⟨a,o,0⟩) hs.len l1 e (by decide) r1)
 | @root X p L h hp hL hO =>
  obtain ⟨p1,p2,p3,p4⟩:=headP_parts h.head
  obtain ⟨k0,hk0,hpt⟩:=pt_ch (SEP:=sepJ L) (A:=phJ L) (.step .root hp) L.length (fun k hk=>hO.at hk)
  have hlong:=jt_long hL
  have hx1:=List.length_pos_iff.2 h.ne
  refine ⟨chP (pathP rootP p) (sepJ L) (phJ L) L.length,k0,⟨by simp,show headK ⟨5,⟨#[47]⟩,0⟩=true by decide +kernel,fun T a o R pb b c hs hf ho=>?_⟩,hpt,by simp only [List.length_cons,List.length_append];omega⟩
  have hz:=hs.size (by simp)
  have s0:=hs.cons
  have s1:=s0.2.assoc
  have s2:=s0.2.tail
  rw [List.length_cons,List.length_append] at hz ⊢
  rw [show a + (X.length + (jt L).length + 1)=a + 1 + X.length + (jt L).length by omega]
  have l1:a<=300:=by omega
  have l3:a + 1<=300:=by omega
  have l2:a + 1 + X.length + (jt L).length<=200:=by omega
  have e:seeM T ⟨a,o,0⟩ 0=⟨5,⟨#[47]⟩,0⟩:=see0.trans s0.1
  have e1:seeM T ⟨a + 1,o,0⟩ 0=hd X:=see0.trans (s1.fst h.ne)
  have r0:=h.run T (a + 1) o _ pb b c s1 (jt_fol (P:=fun u=>folS u=true) (fun e he=>by rcases (hL e he).1 with h | h <;> rw [h] <;> decide +kernel) (folA_S hf).1 0) ho
  have r1:=steps_chain (pb:=pb) (b:=b) (c:=c) (p0:=pathP rootP p) hL s2 l2 hf ho
  exact minus_none (st:=⟨a,o,0⟩) hs.len l1 e (by decide) (path_root (st:=⟨a,o,0⟩) hs.len l1 e (by decide) (by decide) l3 (by rw [e1];exact p4) r0 r1)
theorem st_ofS {X:List Tok} {ax tk:Int} {tn:ByteArray} (h:IsPrim X (stepPh ax tk tn) 0) (hk:decide (1<=ax/\ax<=12) && (decide (1<=tk/\tk<=5) && (decide (tn.size<=1) && (decide (tk=4) == decide (tn.size=1))))=true):∃ q,IsStep X q 1/\StOk q:=⟨_,st_plain h,st_okS hk⟩
theorem pstep_isS {i:Nat} (hi:i<18):∃ q,IsStep (stepK.getD i []) q 1/\StOk q:=by
 have h:i=0\/i=1\/i=2\/i=3\/i=4\/i=5\/i=6\/i=7\/i=8\/i=9\/i=10\/i=11\/i=12\/i=13\/i=14\/i=15\/i=16\/i=17:=by omega
 rcases h with rfl | rfl | rfl | rfl | rfl | rfl | rfl | rfl | rfl | rfl | rfl | rfl | rfl | rfl | rfl | rfl | rfl | rfl
 · exact st_ofS (prim_name pi_a) (by decide)
 · exact st_ofS (prim_name pi_b) (by decide)
 · exact st_ofS prim_star (by decide)
 · exact st_ofS (prim_at (t_name pi_k)) (by decide)
 · exact st_ofS (prim_at (t_name pi_m)) (by decide)
 · exact st_ofS prim_upx (by decide)
 · exact st_ofS (prim_kind (s:=⟨#[116,101,120,116]⟩) rfl (by decide +kernel) (by decide) (by decide +kernel) (by decide +kernel)) (by decide +kernel)
 · exact st_ofS (prim_kind (s:=⟨#[110,111,100,101]⟩) rfl (by decide +kernel) (by decide) (by decide +kernel) (by decide +kernel)) (by decide +kernel)
 · exact st_ofS (prim_axis (s:=⟨#[100,101,115,99,101,110,100,97,110,116]⟩) (by decide +kernel) rfl (by decide +kernel) (t_name pi_a)) (by decide +kernel)
 · exact st_ofS (prim_axis (s:=⟨#[97,110,99,101,115,116,111,114]⟩) (by decide +kernel) rfl (by decide +kernel) t_star) (by decide +kernel)
 · exact st_ofS (prim_axis (s:=⟨#[102,111,108,108,111,119,105,110,103]⟩) (by decide +kernel) rfl (by decide +kernel) (t_name pi_b)) (by decide +kernel)
 · exact st_ofS (prim_axis (s:=⟨#[112,114,101,99,101,100,105,110,103]⟩) (by decide +kernel) rfl (by decide +kernel) t_star) (by decide +kernel)
 · exact st_ofS (prim_axis (s:=⟨#[102,111,108,108,111,119,105,110,103,45,115,105,98,108,105,110,103]⟩) (by decide +kernel) rfl (by decide +kernel) t_star) (by decide +kernel)
 · exact st_ofS (prim_axis (s:=⟨#[112,114,101,99,101,100,105,110,103,45,115,105,98,108,105,110,103]⟩) (by decide +kernel) rfl (by decide +kernel) t_node) (by decide +kernel)
 · exact st_ofS (prim_axis (s:=⟨#[115,101,108,102]⟩) (by decide +kernel) rfl (by decide +kernel) (t_name pi_c)) (by decide +kernel)
 · exact st_ofS (prim_axis (s:=⟨#[100,101,115,99,101,110,100,97,110,116,45,111,114,45,115,101,108,102]⟩) (by decide +kernel) rfl (by decide +kernel) t_node) (by decide +kernel)
 · exact st_ofS (prim_kind (s:=⟨#[99,111,109,109,101,110,116]⟩) rfl (by decide +kernel) (by decide) (by decide +kernel) (by decide +kernel)) (by decide +kernel)
 · exact st_ofS (prim_name pi_c) (by decide)
theorem s_dos {X:List Tok} {ax tk:Int} {tn:ByteArray} (h:IsPrim X (stepPh ax tk tn) 0) (hk:decide (1<=ax/\ax<=12) && (decide (1<=tk/\tk<=5) && (decide (tn.size<=1) && (decide (tk=4) == decide (tn.size=1))))=true):PthS (⟨5,⟨#[47,47]⟩,0⟩ :: X):=by
 have k:=PthS.dos (Y:=X) (q:=stepPh ax tk tn) (L:=[]) (fun e he=>by rw [List.mem_singleton.1 he];exact ⟨.inr rfl,st_plain h⟩) (fun e he=>by rw [List.mem_singleton.1 he];exact st_okS hk)
 simpa [jt] using k
theorem s_root {X:List Tok} {ax tk:Int} {tn:ByteArray} (h:IsPrim X (stepPh ax tk tn) 0) (hk:decide (1<=ax/\ax<=12) && (decide (1<=tk/\tk<=5) && (decide (tn.size<=1) && (decide (tk=4) == decide (tn.size=1))))=true):PthS (⟨5,⟨#[47]⟩,0⟩ :: X):=by
 have k:=PthS.root (L:=[]) (st_plain h) (st_okS hk) (fun e he=>absurd he (by simp)) (fun e he=>absurd he (by simp))
 simpa [jt] using k
theorem pbase_isS {i:Nat} (hi:i<6):PthS (baseK.getD i []):=by
 have h:i=0\/i=1\/i=2\/i=3\/i=4\/i=5:=by omega
 rcases h with rfl | rfl | rfl | rfl | rfl | rfl
 · exact s_root (prim_name pi_r) (by decide)
 · exact s_dos (prim_name pi_a) (by decide)
 · exact s_dos prim_star (by decide)
 · exact (s_root (prim_name pi_r) (by decide)).grow (.inl rfl) (st_plain prim_star) (st_okS (by decide))
 · exact s_dos (prim_at (t_name pi_k)) (by decide)
 · exact s_dos (prim_kind (s:=⟨#[116,101,120,116]⟩) rfl (by decide +kernel) (by decide) (by decide +kernel) (by decide +kernel)) (by decide +kernel)
open Go.RowKit Go.WideShapes
theorem VL.ex {n:Nat} {A:Nat->Ex} {w:World} {S:Nat->Prop} {aa:Option Addr} {am ac:Nat} (h:VL n A w S (.slice aa am ac)) (hn:n<=maxLen) {k:Int} {it:It} {nm a:ByteArray} {nn ax tk:Int} {tn:ByteArray} (s1:it.s.size<=maxLen) (s2:nm.size<=maxLen) (s3:a.size<=maxLen):(Ex.mk k it nm a nn ax tk tn n A).W w S (exL k it nm a nn ax tk tn (.slice aa am ac)):=by
 obtain ⟨g,e,hg,hx⟩:=h
 injection e with e1 e2 e3
 subst e1 e2 e3
 exact ⟨_,_,rfl,⟨s1,s2,s3⟩,Nat.le_refl _,hn,fun _=>⟨g,0,rfl,hg,fun i hi=>by rw [Nat.zero_add];exact hx i hi⟩⟩
theorem VO.ex {n:Nat} {A:Nat->Ex} {w:World} {S:Nat->Prop} {aa:Option Addr} {am ac:Nat} (h:VO n A w S (.slice aa am ac)) {k:Int} {it:It} {nm a:ByteArray} {nn ax tk:Int} {tn:ByteArray} (s1:it.s.size<=maxLen) (s2:nm.size<=maxLen) (s3:a.size<=maxLen):(Ex.mk k it nm a nn ax tk tn n A).W w S (exL k it nm a nn ax tk tn (.slice aa am ac)):=by
 obtain ⟨a',c',e,h1,h2,hx⟩:=h
 injection e with e1 e2 e3
 subst e1 e2 e3
 exact ⟨_,_,rfl,⟨s1,s2,s3⟩,h1,h2,hx⟩
theorem vl_one {g:GxP} {t:Nat} {l:Array Bool} {a:Act} {W:World} (h:Gx g t l a W) {X:Ex} {u:List Value} (hx:X.W W (SX g l t W) u):VL 1 (fun _=>X) (W.alloc (.cells u.toArray 29)) (SX g l t (W.alloc (.cells u.toArray 29))) (vL W.heap.size 0 1 1):=by
 have hz:=h.z
 have hr:=h.r
 have hzr:=h.zr
 have hl:=hx.len
 refine ⟨W.heap.size,rfl,⟨.inr ⟨by omega,by simp⟩,fun e=>by have:=(h.b e).2;omega⟩,fun i hi=>⟨u,fun j hj=>?_,hx.keep (fun b q=>q.grow (by simp)) (fun b q=>Below.heap_alloc _ _ b (h.lt q).1)⟩⟩
 obtain rfl:i=0:=by omega
 rw [World.cell?,heap_alloc_new]
 simp [hj]
theorem vl_two {g:GxP} {t:Nat} {l:Array Bool} {a:Act} {W:World} (h:Gx g t l a W) {X Y:Ex} {u v:List Value} (hx:X.W W (SX g l t W) u) (hy:Y.W W (SX g l t W) v):VL 2 (fun i=>if i=0 then X else Y) (W.alloc (.cells (u ++ v).toArray 29)) (SX g l t (W.alloc (.cells (u ++ v).toArray 29))) (vL W.heap.size 0 2 2):=by
 have hz:=h.z
 have hr:=h.r
 have hzr:=h.zr
 have hl:=hx.len
 have hl':=hy.len
 have hkk:∀ {Q:Ex} {q:List Value},Q.W W (SX g l t W) q->Q.W (W.alloc (.cells (u ++ v).toArray 29)) (SX g l t (W.alloc (.cells (u ++ v).toArray 29))) q:=fun hq=>hq.keep (fun b q=>q.grow (by simp)) (fun b q=>Below.heap_alloc _ _ b (h.lt q).1)
 refine ⟨W.heap.size,rfl,⟨.inr ⟨by omega,by simp⟩,fun e=>by have:=(h.b e).2;omega⟩,fun i hi=>?_⟩
 by_cases h0:i=0
 · subst h0
   refine ⟨u,fun j hj=>?_,hkk hx⟩
   rw [World.cell?,heap_alloc_new]
   simp [List.getElem?_append_left hj,hj]
 · obtain rfl:i=1:=by omega
   refine ⟨v,fun j hj=>?_,hkk hy⟩
   rw [World.cell?,heap_alloc_new]
   simp [<- hl,hj]
theorem made_X {w W:World} {lb tb ob sb:Nat} {N:ByteArray->Nat} {p:Nat} (hls:lb≠sb) (h:XS w lb tb ob sb N p W) (hp:p + 1<=700) (k:Int) (it:It) (nm at':ByteArray) (n ax tk:Int) (tn:ByteArray) (oa:Option Addr) (om oc:Nat) (aa:Option Addr) (am ac:Nat) (h1:it.s.size<=4000) (h2:nm.size<=4000) (h3:at'.size<=4000) (h4:tn.size<=4000) :
 Calls Tryz.prog 101 #[vP lb 0,.agg (eA k it.kind it.n it.s nm at' n ax tk tn oa om oc),.slice aa am ac] W fun e w'=>e=.returned (.agg (eA k it.kind it.n it.s nm at' n ax tk tn aa am ac))/\XS w lb tb ob sb N (p + 1) w'/\(∀ b,b<W.heap.size->b≠lb->b≠sb->w'.heap[b]?=W.heap[b]?)/\W.heap.size<=w'.heap.size :=
 (made_is lb _ _ _ p k it nm at' n ax tk tn oa om oc aa am ac W h.l hp h1 h2 h3 h4).mono fun e w' ⟨k1,k2,k3,k4⟩=>⟨k1,h.trans (h.here.ofKp hls ⟨k2,k3,k4⟩),fun b q1 q2 _=>k3 b q1 q2,k4.size⟩
def exS (ax tk:Int) (tn:ByteArray) (X:Ex):Ex:=.mk 9 ⟨0,0,⟨#[]⟩⟩ ⟨#[]⟩ ⟨#[]⟩ 0 ax tk tn 1 (fun _=>X)
theorem lstep_is {ax tk:Int} {tn:ByteArray} {X:Ex} {N:ByteArray->Nat} {p:Nat} (hp7:p + 0 + 1<=700) (htn:tn.size<=4000) {w U:World} {lb tb ob sb:Nat} {S:Nat->Prop} {pb po:Nat} {u:List Value} (hB:XB w lb tb ob sb) (hX:XS w lb tb ob sb N p U) (hP:PhIn w lb sb pb po (ph0 9 ⟨0,0,⟨#[]⟩⟩ ⟨#[]⟩ 0 ax tk tn) S u) {x0 x1 x2 x6 x7 x8:Int} {y3 y4 y5 y9:ByteArray} {b10:Option Addr} {l10 c10:Nat} {S0:Nat->Prop} (hS0:∀ b,S0 b->b<U.heap.size/\b≠lb/\b≠sb) (hx:X.W U S0 (eL x0 x1 x2 y3 y4 y5 x6 x7 x8 y9 b10 l10 c10)) :
 Calls Tryz.prog 90 #[vP lb 0,vP pb po,.agg (eA x0 x1 x2 y3 y4 y5 x6 x7 x8 y9 b10 l10 c10)] U fun e w'=>∃ v,(exS ax tk tn X).W w' (fun b=>S0 b\/(U.heap.size<=b/\b<w'.heap.size)) v/\e=.returned (.agg v.toArray)/\XS w lb tb ob sb N (p + 1) w'/\(∀ b,b<U.heap.size->b≠lb->b≠sb->w'.heap[b]?=U.heap[b]?)/\U.heap.size<=w'.heap.size:=by
 obtain ⟨a9,c9,a10,c10',hu,_⟩:=hP.v
 have HPX:Hid (∀ W,(∃ k,XS w lb tb ob sb N k W)->W.cell? ⟨pb,po + 6,none⟩=some (vI ax)/\W.cell? ⟨pb,po + 7,none⟩=some (vI tk)/\W.cell? ⟨pb,po + 8,none⟩=some (vS tn)):=fun W ⟨k,hW⟩=>by
  have e:=phAt_c (hu ▸ (hP.at hW).c)
  exact ⟨e.c6,e.c7,e.c8⟩
 have HX:=HidOf hX
 have HXW:=HidOf hx
 have HLS:=HidOf hB.ls
 have hlw:=hB.ll
 have hsw:=hB.sl
 have hwz:=hX.z
 have hpw:=(hP.h pb hP.s).1
 clear hB hX hP hx hu
 go_enter Tryz.func90,Tryz.ntmps90
 go_upto_region 1 with fail
 obtain ⟨wr,hwr⟩:∃ V,V=(U.alloc (.cells (eA x0 x1 x2 y3 y4 y5 x6 x7 x8 y9 b10 l10 c10) 29)).alloc (.cells zA 29):=⟨_,rfl⟩
 have HX1:Hid (XS w lb tb ob sb N (p + 0) wr):=by rw [hwr];exact (HX.out.alloc _).alloc _
 have HBX:Hid (wr.heap[U.heap.size]?=some (.cells (eA x0 x1 x2 y3 y4 y5 x6 x7 x8 y9 b10 l10 c10) 29)):=by rw [hwr];exact aOld (aNew rfl)
 have HR1:Hid (wr.heap[U.heap.size + 1]?=some (.cells zA 29)):=by rw [hwr];exact aNew (by simp)
 have hz1:wr.heap.size=U.heap.size + 2:=by rw [hwr];simp
 have HO1:Hid (∀ b,b<U.heap.size->wr.heap[b]?=U.heap[b]?):=by rw [hwr];exact fun b hb=>(Below.heap_alloc _ _ _ (by simp;omega)).trans (Below.heap_alloc _ _ _ hb)
 have HXW:=hidC (Ex.W.keep (w':=wr) (fun b q=>q) (fun b q=>HO1.out b (hS0 b q).1) HXW.out)
 rw [<- hwr]
 clear hwr
 refine wp_region_slots (by kernel_rfl) (fun j v W=>match j with | 0=>v=(vP lb 0) | 1=>v=(vP pb po) | 2=>v=(vP pb po) | 3=>v=(vP pb (po + 6)) | 4=>v=(vI ax) | 5=>v=(vP pb po) | 6=>v=(vP pb po) | 7=>v=(vP pb (po + 7)) | 8=>v=(.agg #[vI tk,vS tn]) | 9=>v=(.agg (eA 9 0 0 ⟨#[]⟩ ⟨#[]⟩ ⟨#[]⟩ 0 ax tk tn none 0 0)) | 10=>v=(.agg (eA x0 x1 x2 y3 y4 y5 x6 x7 x8 y9 b10 l10 c10)) | _=>True) (Gy (⟨w,wr,lb,sb,(U.heap.size + 1),S0,fun k=>XS w lb tb ob sb N (p + k),[12],14,1000,13,998,zA,29,VX (exS ax tk tn X),[false,false,false,false,false,false,false,false,false,false,false,true,true,false],[7,8,9,10,11,12,13,14,15,16,17,18,19,999],fun i=>match i with | 11=>VL 1 (fun _=>X) | 12=>VX (exS ax tk tn X) | _=>VZ⟩:GxP)) (by kernel_rfl) (by kernel_rfl) (Gx.startB HX1.out (fun k=>XS.clo hlw hsw) (fun i=>by dsimp only;split <;> first | exact VZ.kept | exact VV.kept _ | exact VX.kept _ | exact VL.kept _ _ | exact VO.kept _ _ | exact VT.kept _ _) (VX.kept _) hlw hsw (by have:=HX.out.z;simp only [];omega) (by simp only [];omega) (fun b q=>by have:=hS0 b q;show b<wr.heap.size/\b≠lb/\b≠sb/\b≠U.heap.size + 1;omega) HR1.out (by exact (by decide:(14:Nat)<=1000))) ?_ ?_
 · intro l a W i o hsz h ho hl haf
   obtain ⟨t,fx⟩:=h.more
   have hsn:l.size=14:=hsz
   have hts:a.tmps.size=20:=h.size.trans rfl
   have hi:i<14:=(gI ho).1
   obtain rfl | rfl | rfl | rfl | rfl | rfl | rfl | rfl | rfl | rfl | rfl | rfl | rfl | rfl:i=0\/i=1\/i=2\/i=3\/i=4\/i=5\/i=6\/i=7\/i=8\/i=9\/i=10\/i=11\/i=12\/i=13:=by omega
   all_goals (obtain rfl:=Option.some.inj ho;rw [if_pos (want_none rfl)])
   · have e0:=h.given 0 _ rfl (by kernel_rfl)
     refine wp_val ?_ ⟨_,rfl,rfl,fun _ _ h=>h,fx.pure rfl⟩
     unfold execOp
     simp [e0,go_sem]
   · have e1:=h.given 1 _ rfl (by kernel_rfl)
     refine wp_val ?_ ⟨_,rfl,rfl,fun _ _ h=>h,fx.pure rfl⟩
     unfold execOp
     simp [e1,go_sem]
   · obtain ⟨_,e8,rfl⟩:=h.new 1 _ 8 rfl rfl (haf ⟨1,.data⟩ (by simp) rfl)
     refine wp_val ?_ ⟨_,rfl,rfl,fun _ _ h=>h,fx.pure rfl⟩
     unfold execOp
     simp [e8,go_sem]
   · obtain ⟨_,e9,rfl⟩:=h.new 2 _ 9 rfl rfl (haf ⟨2,.data⟩ (by simp) rfl)
     refine wp_val ?_ ⟨_,rfl,rfl,fun _ _ h=>h,fx.pure rfl⟩
     unfold execOp
     simp [e9,go_sem]
   · obtain ⟨_,e10,rfl⟩:=h.new 3 _ 10 rfl rfl (haf ⟨3,.data⟩ (by simp) rfl)
     obtain ⟨k_,_,hp_⟩:=fx.q
     obtain ⟨c6,c7,c8⟩:=HPX.out W ⟨_,hp_⟩
     refine wp_val ?_ ⟨_,rfl,rfl,fun _ _ h=>h,fx.pure rfl⟩
     unfold execOp
     simp [e10,c6,go_sem]
   · have e1:=h.given 1 _ rfl (by kernel_rfl)
     refine wp_val ?_ ⟨_,rfl,rfl,fun _ _ h=>h,fx.pure rfl⟩
     unfold execOp
     simp [e1,go_sem]
   · obtain ⟨_,e12,rfl⟩:=h.new 5 _ 12 rfl rfl (haf ⟨5,.data⟩ (by simp) rfl)
     refine wp_val ?_ ⟨_,rfl,rfl,fun _ _ h=>h,fx.pure rfl⟩
     unfold execOp
     simp [e12,go_sem]
   · obtain ⟨_,e13,rfl⟩:=h.new 6 _ 13 rfl rfl (haf ⟨6,.data⟩ (by simp) rfl)
     refine wp_val ?_ ⟨_,rfl,rfl,fun _ _ h=>h,fx.pure rfl⟩
     unfold execOp
     simp [e13,go_sem]
   · obtain ⟨_,e14,rfl⟩:=h.new 7 _ 14 rfl rfl (haf ⟨7,.data⟩ (by simp) rfl)
     obtain ⟨k_,_,hp_⟩:=fx.q
     obtain ⟨c6,c7,c8⟩:=HPX.out W ⟨_,hp_⟩
     refine wp_val ?_ ⟨_,rfl,rfl,fun _ _ h=>h,fx.pure rfl⟩
     unfold execOp
     simp [e14,c7,c8,go_sem]
   · obtain ⟨_,e11,rfl⟩:=h.new 4 _ 11 rfl rfl (haf ⟨4,.data⟩ (by simp) rfl)
     obtain ⟨_,e15,rfl⟩:=h.new 8 _ 15 rfl rfl (haf ⟨8,.data⟩ (by simp) rfl)
     refine wp_val ?_ ⟨_,rfl,rfl,fun _ _ h=>h,fx.pure rfl⟩
     unfold execOp
     simp [e11,e15,go_sem]
   · have e5:=h.given 5 _ rfl (by kernel_rfl)
     have hbx:=(fx.k U.heap.size (by simp only [];omega) (by simp only [];omega) (by simp only [];omega) (fun e=>by have:=(fx.b e).1;simp only [] at this;omega)).trans HBX.out
     obtain ⟨z0,z1,z2,z3,z4,z5,z6,z7,z8,z9,z10,z11,z12⟩:=bk11 hbx
     refine wp_val ?_ ⟨_,rfl,rfl,fun _ _ h=>h,fx.pure rfl⟩
     unfold execOp
     simp [e5,z0,z1,z2,z3,z4,z5,z6,z7,z8,z9,z10,go_sem]
   · obtain ⟨_,e17,rfl⟩:=h.new 10 _ 17 rfl rfl (haf ⟨10,.data⟩ (by simp) rfl)
     refine wp_val (v:=vL W.heap.size 0 1 1) (w':=W.alloc (.cells (eA x0 x1 x2 y3 y4 y5 x6 x7 x8 y9 b10 l10 c10) 29)) ?_ ⟨_,rfl,trivial,fun _ _ h=>h,fx.list (i:=11) rfl rfl (by rw [hts];exact (by decide:(18:Nat)<20)) ?_⟩
     · unfold execOp
       simp [e17,go_sem]
     · exact vl_one fx (u:=(eL x0 x1 x2 y3 y4 y5 x6 x7 x8 y9 b10 l10 c10)) (Ex.W.keep (fun b q=>⟨.inl q,fun e=>by have:=(fx.b e).1;have:=hS0 b q;simp only [] at *;omega⟩) (fun b q=>fx.k b (by have:=hS0 b q;simp only [];omega) (hS0 b q).2.1 (hS0 b q).2.2 (fun e=>by have:=(fx.b e).1;have:=hS0 b q;simp only [] at *;omega)) HXW.out)
   · obtain ⟨_,e7,rfl⟩:=h.new 0 _ 7 rfl rfl (haf ⟨0,.data⟩ (by simp) rfl)
     obtain ⟨_,e16,rfl⟩:=h.new 9 _ 16 rfl rfl (haf ⟨9,.data⟩ (by simp) rfl)
     obtain ⟨u18,e18,y18⟩:=fx.x 11 (by exact (by decide:(11:Nat)<14)) rfl (haf ⟨11,.data⟩ (by simp) rfl)
     have e18':a.tmps[18]?=some u18:=e18
     have q18:=y18
     obtain ⟨g18,rfl,hg18⟩:=y18
     have f18:a.tmps[18]?=some (vL g18 0 1 1):=e18
     obtain ⟨k,hq,hp⟩:=fx.q
     have hn:l.getD 12 false=false:=getD_ofX hl
     obtain rfl:k=0:=hq.at_ (j:=0) (by exact (by decide:(0:Nat)<1)) hn (.inl rfl)
     refine wp_enter (f:=101) (args:=#[vP lb 0,.agg (eA 9 0 0 ⟨#[]⟩ ⟨#[]⟩ ⟨#[]⟩ 0 ax tk tn none 0 0),vL g18 0 1 1]) (w':=W) ?_ ((made_X HLS.out hp hp7 9 ⟨0,0,⟨#[]⟩⟩ ⟨#[]⟩ ⟨#[]⟩ 0 ax tk tn none 0 0 (some ⟨g18,0,none⟩) 1 1 (by decide) (by decide) (by decide) htn).mono ?_)
     · unfold execOp
       simp [e7,e16,f18,go_sem]
     · rintro e W' ⟨rfl,hs_,hk_,hz_⟩
       exact ⟨_,rfl,_,rfl,trivial,fun _ _ h=>h,fx.call 0 (i:=12) (s:=19) rfl rfl hsn hq hs_ hk_ hz_ (by rw [hts];exact (by decide:(19:Nat)<20)) (fun _=>⟨(eL 9 0 0 ⟨#[]⟩ ⟨#[]⟩ ⟨#[]⟩ 0 ax tk tn (some ⟨g18,0,none⟩) 1 1),rfl,VL.ex (fx.after hk_ hz_ (VL.kept _ _) q18) (by decide) (by decide) (by decide) (by decide)⟩)⟩
   · have e6:=h.given 6 _ rfl (by kernel_rfl)
     obtain ⟨u19,e19,y19⟩:=fx.x 12 (by exact (by decide:(12:Nat)<14)) rfl (haf ⟨12,.phase⟩ (by simp) rfl)
     have e19':a.tmps[19]?=some u19:=e19
     obtain ⟨l19,rfl,z19⟩:=y19
     obtain ⟨x0_19,x1_19,x2_19,x6_19,x7_19,x8_19,y3_19,y4_19,y5_19,y9_19,b10_19,l10_19,c10_19,rfl⟩:=z19.form
     have f19:a.tmps[19]?=some (.agg (eA x0_19 x1_19 x2_19 y3_19 y4_19 y5_19 x6_19 x7_19 x8_19 y9_19 b10_19 l10_19 c10_19)):=e19
     have hn:l.getD 13 false=false:=getD_ofX hl
     have ha:l.getD 1000 true=true:=by rw [Array.getD_eq_getD_getElem?,Array.getElem?_eq_none (by omega)];rfl
     have ht0:t=(U.heap.size + 1):=fx.t0 (by exact (by decide:(14:Nat)<=1000))
     subst ht0
     have c_:=fx.bz ha hn
     obtain ⟨z0,z1,z2,z3,z4,z5,z6,z7,z8,z9,z10,z11,z12⟩:=bk11 c_
     obtain ⟨W',hW'⟩:∃ V,V=(((((((((((W).setCell ⟨(U.heap.size + 1),0,none⟩ (vI x0_19)).setCell ⟨(U.heap.size + 1),1,none⟩ (vI x1_19)).setCell ⟨(U.heap.size + 1),2,none⟩ (vI x2_19)).setCell ⟨(U.heap.size + 1),3,none⟩ (vS y3_19)).setCell ⟨(U.heap.size + 1),4,none⟩ (vS y4_19)).setCell ⟨(U.heap.size + 1),5,none⟩ (vS y5_19)).setCell ⟨(U.heap.size + 1),6,none⟩ (vI x6_19)).setCell ⟨(U.heap.size + 1),7,none⟩ (vI x7_19)).setCell ⟨(U.heap.size + 1),8,none⟩ (vI x8_19)).setCell ⟨(U.heap.size + 1),9,none⟩ (vS y9_19)).setCell ⟨(U.heap.size + 1),10,none⟩ (.slice b10_19 l10_19 c10_19):=⟨_,rfl⟩
     have hPL:W'=putL W ((U.heap.size + 1)) 0 (eL x0_19 x1_19 x2_19 y3_19 y4_19 y5_19 x6_19 x7_19 x8_19 y9_19 b10_19 l10_19 c10_19):=hW'
     refine wp_skip (w':=W') ?_ ⟨undef,rfl,trivial,fun _ _ h=>h,by rw [hPL];exact fx.store rfl hsn ha hn rfl ⟨_,rfl,z19⟩⟩
     rw [hW']
     clear hPL hW'
     unfold execOp
     simp [e6,f19,z0,z1,z2,z3,z4,z5,z6,z7,z8,z9,z10,z11,go_sem]
 · intro v W1 hv hs hg
   obtain ⟨hXS,hzz,t,_,_,ht0,hk,hf,_⟩:=Gy.fin rfl hg
   obtain ht0:=ht0 (by exact (by decide:(14:Nat)<=1000))
   subst ht0
   obtain ⟨u',hu',l',el,hl'⟩:=hf (by exact (by decide:(13:Nat)<14))
   have el':u'=l':=by injection el with el;simpa using congrArg Array.toList el
   subst el'
   obtain ⟨X0,X1,X2,X6,X7,X8,Y3,Y4,Y5,Y9,B10,L10,C10,rfl⟩:=hl'.form
   have HU9:=hidC hu'
   have HW9:=hidC hl'
   have HS9:=hidC hXS
   have HK9:=hidC hk
   have hzz':wr.heap.size<=W1.heap.size:=hzz
   clear hv hs hg hf hl' hXS hk
   obtain ⟨y0',y1',y2',y3',y4',y5',y6',y7',y8',y9',y10',_,_⟩:=bk11 hu'
   simp only [putAll,Act.put,List.setIfInBounds_toArray,List.set_cons_succ,List.set_cons_zero]
   go_wp2
   exact bodyPost_ret (v:=.agg (eA X0 X1 X2 Y3 Y4 Y5 X6 X7 X8 Y9 B10 L10 C10)) (by simp [results,Tryz.results90,go_sem,y0',y1',y2',y3',y4',y5',y6',y7',y8',y9',y10']) rfl ⟨(eL X0 X1 X2 Y3 Y4 Y5 X6 X7 X8 Y9 B10 L10 C10),Ex.W.keep (fun b q=>q.1.imp id fun q=>⟨by have:wr.heap.size<=b:=q.1;omega,q.2⟩) (fun _ _=>rfl) HW9.out,rfl,HS9.out,fun b q1 q2 q3=>(HK9.out b (by show b<wr.heap.size;omega) q2 q3 (by show b≠U.heap.size + 1;omega)).trans (HO1.out b q1),by omega⟩
open Go.RowKit Go.WideShapes Go.Shelf
theorem getD_of {l:Array Bool} {i:Nat} (hl:l.getD i true=false):l.getD i false=false:=by
 rw [Array.getD_eq_getD_getElem?] at hl ⊢
 cases hx:l[i]? with
 | none=>rfl
 | some bb=>rw [hx] at hl;exact hl
theorem rep_false (n k:Nat):(Array.replicate n false).getD k false=false:=by
 rw [Array.getD_eq_getD_getElem?,Array.getElem?_replicate]
 split <;> rfl
theorem rep_true {n k:Nat} (h:k<n):(Array.replicate n true).getD k false=true:=by
 rw [Array.getD_eq_getD_getElem?,Array.getElem?_replicate,if_pos h]
 rfl
theorem cAt.behind {w:World} {g o:Nat} {a b c d:Value} {u:List Value} (h:cAt w g o ([a,b,c,d] ++ u)):cAt w g (o + 4) u:=fun j hj=>by
 have e:=h (4 + j) (by simp;omega)
 rw [show o + (4 + j)=o + 4 + j by omega] at e
 rw [e,List.getElem_append_right (by simp)]
 simp
theorem infoClU:(Tryz.prog.info? 135).map (fun i=>(i.zero,i.size,i.bytes))=some (some (.agg #[.pointer none,vI 0,vI 0,vI 0,vS ByteArray.empty,vS ByteArray.empty,vS ByteArray.empty,vI 0,vI 0,vI 0,vS ByteArray.empty,vN]),12,144):=by kernel_rfl
theorem own_shapeU {w:World} {base:Nat} {e:TypeId} {size:Nat} {v:Value} {n:Nat} {xs:List Value} (h:w.ownsRow base e size v n xs):∃ a c,v=.slice a n c:=by
 obtain ⟨_,⟨h1,h2⟩ | ⟨B,cap,cur,h1,_⟩⟩:=h
 · subst h1;subst h2;exact ⟨_,_,rfl⟩
 · exact ⟨_,_,h1⟩
theorem ownsRow_keptU {w w':World} {base:Nat} {e:TypeId} {size:Nat} {v:Value} {n:Nat} {xs:List Value} (h:w.ownsRow base e size v n xs) (hk:∀ b,base<=b->b<w.heap.size->w'.heap[b]?=w.heap[b]?):w'.ownsRow base e size v n xs:=by
 obtain ⟨h1,h2⟩:=h
 refine ⟨h1,?_⟩
 rcases h2 with h2 | ⟨g,cap,cur,k1,k2,k3,k4⟩
 · exact .inl h2
 · exact .inr ⟨g,cap,cur,k1,k2,(hk g k2 (gI k3).1).trans k3,k4⟩
theorem rowU_in {w:World} (L:List Value) {T:TypeId}:∀ i u,L[i]?=some u->(w.alloc (.cells L.toArray T)).cell? ((⟨w.heap.size,0,none⟩:Addr).add i)=some u:=by
 intro i u hi
 rw [show ((⟨w.heap.size,0,none⟩:Addr).add i)=⟨w.heap.size,i,none⟩ by simp [Addr.add];exact fun h=>h.symm,Lib.cell_of_heap (aNew rfl)]
 simpa using hi
theorem rowU_one {w:World} {S:Nat->Prop} {x:Ex} {v:List Value} {cb co:Nat} (h:x.W w S v):∀ u∈(vP cb co :: v:List Value),u.oneCell'=true:=by
 intro u hu
 rcases List.mem_cons.1 hu with rfl | hu
 · rfl
 · exact h.ones u hu
theorem namesOf_forU (b off:Nat) (nm a:ByteArray) (w:World) (h:ClAt w b off 1 nm a) :
 Calls Tryz.prog 97 #[vP b off] w fun e w'=>∃ n6,e=.returned (vL n6 0 2 2)/\Below w.heap.size w w'/\w.heap.size<=n6/\w'.heap[n6]?=some (.cells #[vS nm,vS a] 9) :=
 (namesOf_for b off nm a w h).mono (by
  rintro e w' ⟨n0,rfl,rfl⟩
  exact ⟨w.heap.size,rfl,(show Below w.heap.size w (w.drewN n0) from ⟨rfl,rfl,rfl,Nat.le_refl _,fun _ _=>rfl⟩).alloc (Nat.le_refl _) _,Nat.le_refl _,aNew (by simp)⟩)
theorem bk12f {w:World} {b:Nat} {x0 x1 x2 x3 x4 x5 x6 x7 x8 x9 x10 x11:Value} {T:TypeId} (h:w.heap[b]?=some (.cells #[x0,x1,x2,x3,x4,x5,x6,x7,x8,x9,x10,x11] T)):w.cell? ⟨b,0,none⟩=some x0/\w.cell? ⟨b,1,none⟩=some x1/\w.cell? ⟨b,2,none⟩=some x2/\w.cell? ⟨b,3,none⟩=some x3/\w.cell? ⟨b,4,none⟩=some x4/\w.cell? ⟨b,5,none⟩=some x5/\w.cell? ⟨b,6,none⟩=some x6/\w.cell? ⟨b,7,none⟩=some x7/\w.cell? ⟨b,8,none⟩=some x8/\w.cell? ⟨b,9,none⟩=some x9/\w.cell? ⟨b,10,none⟩=some x10/\w.cell? ⟨b,11,none⟩=some x11/\(∀ o,w.frozen? ⟨b,o,none⟩=false):=by
 refine ⟨?_,?_,?_,?_,?_,?_,?_,?_,?_,?_,?_,?_,fun o=>?_⟩
 all_goals first | (rw [Lib.cell_of_heap h];rfl) | (simp [World.frozen?,h])
theorem cellq {w w':World} {b o:Nat} (e:w'.heap[b]?=w.heap[b]?):w'.cell? ⟨b,o,none⟩=w.cell? ⟨b,o,none⟩:=by simp only [World.cell?,e]
theorem ClAt.block {w w':World} {b off:Nat} {k:Int} {nm a:ByteArray} (h:ClAt w b off k nm a) (e:w'.heap[b]?=w.heap[b]?):ClAt w' b off k nm a:=⟨(cellq e).trans h.c0,(cellq e).trans h.c1,(cellq e).trans h.c2,h.s1,h.s2⟩
def XQ (w0:World) (lb tb ob sb:Nat) (W:World):Prop:=∃ N p,XS w0 lb tb ob sb N p W
def SU (wr:World) (c:Bool) (t:Nat) (W:World):Nat->Prop:=fun b=>wr.heap.size<=b/\b<W.heap.size/\(c=true->b≠t)
structure FxT (w:World) (lb tb ob sb:Nat) (N:ByteArray->Nat) (p q1:Nat) (X0:Ex) (cb co:Nat) (wr:World) (t:Nat) (l:Array Bool) (a:Act) (W:World):Prop where
 s0:l.getD 14 false=false->XS w lb tb ob sb N p W
 s1:l.getD 14 false=true->XS w lb tb ob sb N q1 W
 zr:w.heap.size<=wr.heap.size
 z:wr.heap.size<=W.heap.size
 k:∀ c,c<wr.heap.size->c≠lb->c≠sb->W.heap[c]?=wr.heap[c]?
 b:l.getD 16 false=true->a.tmps[7]?=some (vP t 0)/\wr.heap.size<=t/\t<W.heap.size
 bz:l.getD 16 false=true->l.getD 17 false=false->W.heap[t]?=some (.cells #[.pointer none,vI 0,vI 0,vI 0,vE,vE,vE,vI 0,vI 0,vI 0,vE,vN] 135)
 x:l.getD 14 false=true->∃ u:List Value,a.tmps[33]?=some (.agg u.toArray)/\X0.W W (SU wr (l.getD 16 false) t W) u
 y:l.getD 15 false=true->∃ u:List Value,a.tmps[34]?=some (.agg (vP cb co :: u).toArray)/\X0.W W (SU wr (l.getD 16 false) t W) u
 f:l.getD 17 false=true->∃ u:List Value,W.heap[t]?=some (.cells (vP cb co :: u).toArray 135)/\X0.W W (SU wr (l.getD 16 false) t W) u
def FxU (w:World) (lb tb ob sb:Nat) (N:ByteArray->Nat) (p q1:Nat) (X0:Ex) (cb co:Nat) (wr:World) (l:Array Bool) (a:Act) (W:World):Prop:=∃ t,FxT w lb tb ob sb N p q1 X0 cb co wr t l a W
theorem FxT.xk {w:World} {lb tb ob sb:Nat} {N:ByteArray->Nat} {p q1:Nat} {X0:Ex} {cb co:Nat} {wr:World} {t:Nat} {l:Array Bool} {a:Act} {W:World} (h:FxT w lb tb ob sb N p q1 X0 cb co wr t l a W):XQ w lb tb ob sb W:=by
 cases hx:l.getD 14 false with
 | false=>exact ⟨_,_,h.s0 hx⟩
 | true=>exact ⟨_,_,h.s1 hx⟩
theorem FxT.start {w:World} {lb tb ob sb:Nat} {N:ByteArray->Nat} {p q1:Nat} {X0:Ex} {cb co:Nat} {wr:World} {n:Nat} {a:Act} (h:XS w lb tb ob sb N p wr):FxU w lb tb ob sb N p q1 X0 cb co wr (Array.replicate n false) a wr.drew:=by
 refine ⟨0,fun _=>h.drew,?_,h.z,Nat.le_refl _,fun _ _ _ _=>rfl,?_,?_,?_,?_,?_⟩
 all_goals (intro e;rw [rep_false] at e;cases e)
theorem FxT.pure {w:World} {lb tb ob sb:Nat} {N:ByteArray->Nat} {p q1:Nat} {X0:Ex} {cb co:Nat} {wr:World} {t:Nat} {l:Array Bool} {a:Act} {W:World} (h:FxT w lb tb ob sb N p q1 X0 cb co wr t l a W) {i s:Nat} {v:Value} (hi:i≠14/\i≠15/\i≠16/\i≠17) (hs:s≠7/\s≠33/\s≠34):FxU w lb tb ob sb N p q1 X0 cb co wr (l.setIfInBounds i true) (a.put (some s) v) W:=by
 have e14:=set_other_get (listed:=l) hi.1
 have e15:=set_other_get (listed:=l) hi.2.1
 have e16:=set_other_get (listed:=l) hi.2.2.1
 have e17:=set_other_get (listed:=l) hi.2.2.2
 refine ⟨t,?_,?_,h.zr,h.z,h.k,?_,?_,?_,?_,?_⟩
 · rw [e14];exact h.s0
 · rw [e14];exact h.s1
 · rw [e16,put_other hs.1];exact h.b
 · rw [e16,e17];exact h.bz
 · rw [e14,e16,put_other hs.2.1];exact h.x
 · rw [e15,e16,put_other hs.2.2];exact h.y
 · rw [e17,e16];exact h.f
theorem FxT.call {w:World} {lb tb ob sb:Nat} {N:ByteArray->Nat} {p q1:Nat} {X0:Ex} {cb co:Nat} {wr:World} {t:Nat} {l:Array Bool} {a:Act} {W W':World} (h:FxT w lb tb ob sb N p q1 X0 cb co wr t l a W) (hsz:l.size=18) (hts:a.tmps.size=112) (m14:l.getD 14 false=false) (m15:l.getD 15 false=false) (m17:l.getD 17 false=false) {u:List Value} (hx:X0.W W' (fun b=>W.heap.size<=b/\b<W'.heap.size) u) (hs:XS w lb tb ob sb N q1 W') (hk:∀ b,b<W.heap.size->b≠lb->b≠sb->W'.heap[b]?=W.heap[b]?) (hz:W.heap.size<=W'.heap.size) (hl:lb<w.heap.size) (hsb:sb<w.heap.size) :
 FxU w lb tb ob sb N p q1 X0 cb co wr (l.setIfInBounds 14 true) (a.put (some 33) (.agg u.toArray)) W':=by
 have e15:=set_other_get (listed:=l) (show 14≠15 by decide)
 have e16:=set_other_get (listed:=l) (show 14≠16 by decide)
 have e17:=set_other_get (listed:=l) (show 14≠17 by decide)
 have zr:=h.zr
 have z:=h.z
 refine ⟨t,fun e=>absurd ((set_this_get hsz (by decide)).symm.trans e) (by decide),fun _=>hs,zr,Nat.le_trans z hz,fun c h1 h2 h3=>(hk c (by omega) h2 h3).trans (h.k c h1 h2 h3),?_,?_,?_,?_,?_⟩
 · rw [e16,put_other (by decide)]
   exact fun e=>⟨(h.b e).1,(h.b e).2.1,by have:=(h.b e).2.2;omega⟩
 · rw [e16,e17]
   exact fun e1 e2=>(hk t (h.b e1).2.2 (by have:=(h.b e1).2.1;omega) (by have:=(h.b e1).2.1;omega)).trans (h.bz e1 e2)
 · intro _
   refine ⟨u,put_this (by omega),?_⟩
   rw [e16]
   exact Ex.W.keep (fun b q=>⟨by omega,q.2,fun e=>by have:=(h.b e).2.2;omega⟩) (fun _ _=>rfl) hx
 · rw [e15,m15];exact fun e=>absurd e (by decide)
 · rw [e17,m17];exact fun e=>absurd e (by decide)
theorem FxT.build {w:World} {lb tb ob sb:Nat} {N:ByteArray->Nat} {p q1:Nat} {X0:Ex} {cb co:Nat} {wr:World} {t:Nat} {l:Array Bool} {a:Act} {W:World} (h:FxT w lb tb ob sb N p q1 X0 cb co wr t l a W) (hsz:l.size=18) (hts:a.tmps.size=112) (m17:l.getD 17 false=false) {u:List Value} (hx:X0.W W (SU wr (l.getD 16 false) t W) u) :
 FxU w lb tb ob sb N p q1 X0 cb co wr (l.setIfInBounds 15 true) (a.put (some 34) (.agg (vP cb co :: u).toArray)) W:=by
 have e14:=set_other_get (listed:=l) (show 15≠14 by decide)
 have e16:=set_other_get (listed:=l) (show 15≠16 by decide)
 have e17:=set_other_get (listed:=l) (show 15≠17 by decide)
 refine ⟨t,?_,?_,h.zr,h.z,h.k,?_,?_,?_,?_,?_⟩
 · rw [e14];exact h.s0
 · rw [e14];exact h.s1
 · rw [e16,put_other (by decide)];exact h.b
 · rw [e16,e17];exact h.bz
 · rw [e14,e16,put_other (by decide)];exact h.x
 · rw [e16];exact fun _=>⟨u,put_this (by omega),hx⟩
 · rw [e17,m17];exact fun e=>absurd e (by decide)
theorem FxT.alloc {w:World} {lb tb ob sb:Nat} {N:ByteArray->Nat} {p q1:Nat} {X0:Ex} {cb co:Nat} {wr:World} {t:Nat} {l:Array Bool} {a:Act} {W:World} (h:FxT w lb tb ob sb N p q1 X0 cb co wr t l a W) (hsz:l.size=18) (hts:a.tmps.size=112) (m16:l.getD 16 false=false) (m17:l.getD 17 false=false) :
 FxU w lb tb ob sb N p q1 X0 cb co wr (l.setIfInBounds 16 true) (a.put (some 7) (vP W.heap.size 0)) (W.alloc (.cells #[.pointer none,vI 0,vI 0,vI 0,vE,vE,vE,vI 0,vI 0,vI 0,vE,vN] 135)):=by
 have e14:=set_other_get (listed:=l) (show 16≠14 by decide)
 have e15:=set_other_get (listed:=l) (show 16≠15 by decide)
 have e17:=set_other_get (listed:=l) (show 16≠17 by decide)
 have zr:=h.zr
 have z:=h.z
 have hkp:∀ {u:List Value},X0.W W (SU wr (l.getD 16 false) t W) u->X0.W (W.alloc (.cells #[.pointer none,vI 0,vI 0,vI 0,vE,vE,vE,vI 0,vI 0,vI 0,vE,vN] 135)) (SU wr ((l.setIfInBounds 16 true).getD 16 false) W.heap.size (W.alloc (.cells #[.pointer none,vI 0,vI 0,vI 0,vE,vE,vE,vI 0,vI 0,vI 0,vE,vN] 135))) u:=fun hx =>
  Ex.W.keep (fun b q=>⟨q.1,by have:=q.2.1;simp;omega,fun _=>by have:=q.2.1;omega⟩) (fun b q=>Below.heap_alloc _ _ b q.2.1) hx
 refine ⟨W.heap.size,?_,?_,zr,by simp;omega,fun c h1 h2 h3=>(Below.heap_alloc _ _ c (by omega)).trans (h.k c h1 h2 h3),?_,?_,?_,?_,?_⟩
 · rw [e14];exact fun e=>(h.s0 e).alloc _
 · rw [e14];exact fun e=>(h.s1 e).alloc _
 · exact fun _=>⟨put_this (by omega),z,by simp⟩
 · exact fun _ _=>heap_alloc_new _ _
 · rw [e14,put_other (by decide)]
   intro e
   obtain ⟨u,h1,h2⟩:=h.x e
   exact ⟨u,h1,hkp h2⟩
 · rw [e15,put_other (by decide)]
   intro e
   obtain ⟨u,h1,h2⟩:=h.y e
   exact ⟨u,h1,hkp h2⟩
 · rw [e17,m17];exact fun e=>absurd e (by decide)
theorem FxT.store {w:World} {lb tb ob sb:Nat} {N:ByteArray->Nat} {p q1:Nat} {X0:Ex} {cb co:Nat} {wr:World} {t:Nat} {l:Array Bool} {a:Act} {W:World} (h:FxT w lb tb ob sb N p q1 X0 cb co wr t l a W) (hsz:l.size=18) (h16:l.getD 16 false=true) (m17:l.getD 17 false=false) (hl:lb<w.heap.size) (hsb:sb<w.heap.size) {u:List Value} (hx:X0.W W (SU wr (l.getD 16 false) t W) u) :
 FxU w lb tb ob sb N p q1 X0 cb co wr (l.setIfInBounds 17 true) (a.put none undef) (putL W t 0 (vP cb co :: u)):=by
 have e14:=set_other_get (listed:=l) (show 17≠14 by decide)
 have e15:=set_other_get (listed:=l) (show 17≠15 by decide)
 have e16:=set_other_get (listed:=l) (show 17≠16 by decide)
 have zr:=h.zr
 have z:=h.z
 obtain ⟨b1,b2,b3⟩:=h.b h16
 have hz:W.heap.size<=(putL W t 0 (vP cb co :: u)).heap.size:=(putL_below (B:=0) (w0:=W) (Nat.zero_le _) _ _ _ (Below.refl _ _)).size
 have hkp:∀ {u':List Value},X0.W W (SU wr (l.getD 16 false) t W) u'->X0.W (putL W t 0 (vP cb co :: u)) (SU wr ((l.setIfInBounds 17 true).getD 16 false) t (putL W t 0 (vP cb co :: u))) u':=fun hx'=>by
  rw [e16]
  exact Ex.W.keep (fun b q=>⟨q.1,by have:=q.2.1;omega,q.2.2⟩) (fun b q=>putL_other (q.2.2 h16) _ _ _) hx'
 refine ⟨t,?_,?_,zr,by omega,fun c h1 h2 h3=>(putL_other (by omega) _ _ _).trans (h.k c h1 h2 h3),?_,?_,?_,?_,?_⟩
 · rw [e14];exact fun e=>(h.s0 e).put (by omega) hl hsb _
 · rw [e14];exact fun e=>(h.s1 e).put (by omega) hl hsb _
 · exact fun _=>⟨b1,b2,by omega⟩
 · exact fun _ e=>absurd ((set_this_get hsz (by decide)).symm.trans e) (by decide)
 · rw [e14]
   intro e
   obtain ⟨u',h1,h2⟩:=h.x e
   exact ⟨u',h1,hkp h2⟩
 · rw [e15]
   intro e
   obtain ⟨u',h1,h2⟩:=h.y e
   exact ⟨u',h1,hkp h2⟩
 · exact fun _=>⟨u,putL_same (h.bz h16 m17) _ (by have:=hx.len;simp [this]),hkp hx⟩
theorem FxU.fin {w:World} {lb tb ob sb:Nat} {N:ByteArray->Nat} {p q1:Nat} {X0:Ex} {cb co:Nat} {wr:World} {n:Nat} {a:Act} {W:World} (hn:17<n) (h:FxU w lb tb ob sb N p q1 X0 cb co wr (Array.replicate n true) a W) :
 ∃ T,a.tmps[7]?=some (vP T 0)/\wr.heap.size<=T/\T<W.heap.size/\∃ u:List Value,W.heap[T]?=some (.cells (vP cb co :: u).toArray 135)/\X0.W W (fun b=>wr.heap.size<=b/\b<W.heap.size/\b≠T) u/\XS w lb tb ob sb N q1 W/\(∀ c,c<wr.heap.size->c≠lb->c≠sb->W.heap[c]?=wr.heap[c]?)/\wr.heap.size<=W.heap.size:=by
 obtain ⟨t,h⟩:=h
 have h16:=rep_true (n:=n) (k:=16) (by omega)
 obtain ⟨b1,b2,b3⟩:=h.b h16
 obtain ⟨u,f1,f2⟩:=h.f (rep_true (by omega))
 exact ⟨t,b1,b2,b3,u,f1,Ex.W.keep (fun b q=>⟨q.1,q.2.1,q.2.2 h16⟩) (fun _ _=>rfl) f2,h.s1 (rep_true (by omega)),h.k,h.z⟩
end Go.Proofs.YtmcmbdkpfcibkaaGreatDoor
