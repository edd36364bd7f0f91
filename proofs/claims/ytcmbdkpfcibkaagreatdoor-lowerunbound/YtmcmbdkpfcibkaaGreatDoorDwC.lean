import Derived.Test.YtmcmbdkpfcibkaaGreatDoorLxV
import Derived.Test.YtmcmbdkpfcibkaaGreatDoorLvH
set_option linter.unusedVariables false
namespace Go.Proofs.YtmcmbdkpfcibkaaGreatDoor
set_option maxRecDepth 100000
open Go.RowKit
theorem sg_someE {s:ByteArray} {X Y:List Tok} {p q:Ph} {d:Nat} (hz':s.size<=4000) (hx:IsSg X p d) (hy:IsSg Y q d):IsSg (wSome :: ⟨4,s,0⟩ :: wIn :: (X ++ (wSat :: Y))) (phN 23 ⟨0,0,⟨#[]⟩⟩ s 0 0 0 ⟨#[]⟩ 2 (fun i=>if i=0 then p else q)) (d + 1):=by
 refine ⟨by simp,show headE wSome=true by decide +kernel,fun T a o R pb b c hs hf ho=>?_⟩
 have hz:=hs.size (by simp)
 simp only [List.length_cons,List.length_append] at hz
 have s1:=hs.cons
 have s2:=s1.2.cons
 have s3:=s2.2.cons
 have s4:=s3.2.assoc
 have s5:=s3.2.tail.cons
 have l1:a<=300:=by omega
 have l2:o<=100:=by omega
 have l3:o + 1<=200:=by omega
 have l4:a + 1<=300:=by omega
 have l5:a + 1 + 1<=300:=by omega
 have l6:a + 1 + 1 + 1 + X.length<=300:=by omega
 have e0:seeM T ⟨a,o + 1,0⟩ 0=wSome:=see0.trans s1.1
 have e1:seeM T ⟨a,o + 1,0⟩ 1=⟨4,s,0⟩:=see0.trans s2.1
 have e2:seeM T ⟨a + 1,o + 1,0⟩ 0=⟨4,s,0⟩:=see0.trans s2.1
 have r1:=hx.run T _ (o + 1) _ pb b c s4 (by show folB 0 wSat=true;decide +kernel) (by omega)
 have r2:=hy.run T _ (o + 1) R pb b c s5.2 hf (by omega)
 have e:a + (wSome :: ⟨4,s,0⟩ :: wIn :: (X ++ (wSat :: Y)):List Tok).length=a + 1 + 1 + 1 + X.length + 1 + Y.length:=by
  simp only [List.length_cons,List.length_append];omega
 rw [e]
 have k:=quantified_is (pb:=pb) (b:=b) (c:=c) (st:=⟨a,o + 1,0⟩) (kd:=23) (us:=s) (un:=0) (s2:=⟨a + 1 + 1 + 1,o + 1,0⟩) (s3:=⟨a + 1 + 1 + 1 + X.length,o + 1,0⟩) (s4:=⟨a + 1 + 1 + 1 + X.length + 1,o + 1,0⟩) hs.len l1 l4 e2 hz' l5 (want0 (by rw [s3.1];exact eqT_self)) l6 (want0 (by rw [s5.1];exact eqT_self)) r1 r2
 exact single_some (st:=⟨a,o,0⟩) (s0:=⟨a,o + 1,0⟩) (s1:=⟨a + 1 + 1 + 1 + X.length + 1 + Y.length,o + 1,0⟩) hs.len l1 l1 l2 ⟨by simp,l3⟩ (ent0 (by omega)) e0 e1 (by decide) (by decide) (by decide) (by decide) k
theorem sg_forinE {s:ByteArray} {X Y:List Tok} {p q:Ph} {d:Nat} (hz':s.size<=4000) (hx:IsSg X p d) (hy:IsSg Y q d):IsSg (wFor :: ⟨4,s,0⟩ :: wIn :: (X ++ (wRet :: Y))) (.mk 28 ⟨0,0,⟨#[]⟩⟩ ⟨#[]⟩ 0 0 0 ⟨#[]⟩ 1 (fun _=>q) 1 (fun _=>1) (fun _=>s) (fun _=>⟨#[]⟩) (fun _=>false) (fun _=>p)) (d + 1):=by
 refine ⟨by simp,show headE wFor=true by decide +kernel,fun T a o R pb b c hs hf ho=>?_⟩
 have hz:=hs.size (by simp)
 simp only [List.length_cons,List.length_append] at hz
 have s1:=hs.cons
 have s2:=s1.2.cons
 have s3:=s2.2.cons
 have s4:=s3.2.assoc
 have s5:=s3.2.tail.cons
 have l1:a<=300:=by omega
 have l2:o<=100:=by omega
 have l3:o + 1<=200:=by omega
 have l4:a + 1<=300:=by omega
 have l5:a + 1 + 1<=300:=by omega
 have l6:a + 1 + 1 + 1 + X.length<=300:=by omega
 have e0:seeM T ⟨a,o + 1,0⟩ 0=wFor:=see0.trans s1.1
 have e1:seeM T ⟨a,o + 1,0⟩ 1=⟨4,s,0⟩:=see0.trans s2.1
 have e2:seeM T ⟨a + 1,o + 1,0⟩ 0=⟨4,s,0⟩:=see0.trans s2.1
 have e3:seeM T ⟨a + 1 + 1,o + 1,0⟩ 0=wIn:=see0.trans s3.1
 have e4:seeM T ⟨a + 1 + 1 + 1 + X.length,o + 1,0⟩ 0=wRet:=see0.trans s5.1
 have r1:=hx.run T _ (o + 1) _ pb b c s4 (by show folB 0 wRet=true;decide +kernel) (by omega)
 have r2:=hy.run T _ (o + 1) R pb b c s5.2 hf (by omega)
 have e:a + (wFor :: ⟨4,s,0⟩ :: wIn :: (X ++ (wRet :: Y)):List Tok).length=a + 1 + 1 + 1 + X.length + 1 + Y.length:=by
  simp only [List.length_cons,List.length_append];omega
 rw [e]
 have hfi:RunC pb b c T 161 ⟨a + 1,o + 1,0⟩ ⟨a + 1 + 1 + 1 + X.length,o + 1,0⟩ 1 s ⟨#[]⟩ false p :=
  forIn_plain (st:=⟨a + 1,o + 1,0⟩) (s2:=⟨a + 1 + 1 + 1,o + 1,0⟩) (us:=s) (un:=0) hs.len l4 e2 hz' l5 (by rw [e3];decide) (want0 (by rw [s3.1];exact eqT_self)) r1
 have hbi:RunB pb b c T 142 ⟨a,o + 1,0⟩ ⟨a + 1 + 1 + 1 + X.length,o + 1,0⟩ 1 (fun _=>1) (fun _=>s) (fun _=>⟨#[]⟩) (fun _=>false) (fun _=>p) :=
  bindings_is (n:=1) (ST:=fun k=>if k=0 then ⟨a,o + 1,0⟩ else ⟨a + 1 + 1 + 1 + X.length,o + 1,0⟩) (FK:=fun _=>true) hs.len (by decide) (fun k hk=>by by_cases hk0:k=0 <;> simp [hk0] <;> omega)
   (fun k hk _=>by
    obtain rfl:k=0:=by omega
    refine ⟨?_,?_⟩
    · simp only [if_true]
      rw [e0];exact eqT_self
    · exact hfi)
   (fun k hk h=>absurd h (by decide))
   ⟨by simp only [Nat.one_ne_zero,if_false];rw [e4];decide,by simp only [Nat.one_ne_zero,if_false];rw [e4];decide⟩
 have k:=flwor_plain (pb:=pb) (b:=b) (c:=c) (st:=⟨a,o + 1,0⟩) (s1:=⟨a + 1 + 1 + 1 + X.length,o + 1,0⟩) (s2:=⟨a + 1 + 1 + 1 + X.length + 1,o + 1,0⟩) hs.len l1 l6 hbi (by rw [e4];decide) (by rw [e4];decide) (want0 (by rw [s5.1];exact eqT_self)) r2
 exact single_for (st:=⟨a,o,0⟩) (s0:=⟨a,o + 1,0⟩) (s1:=⟨a + 1 + 1 + 1 + X.length + 1 + Y.length,o + 1,0⟩) hs.len l1 l1 l2 ⟨by simp,l3⟩ (ent0 (by omega)) e0 e1 (by decide) (by decide) k
theorem sg_letE {s:ByteArray} {X Y:List Tok} {p q:Ph} {d:Nat} (hz':s.size<=4000) (hx:IsSg X p d) (hy:IsSg Y q d):IsSg (wLet :: ⟨4,s,0⟩ :: mBe :: (X ++ (wRet :: Y))) (.mk 28 ⟨0,0,⟨#[]⟩⟩ ⟨#[]⟩ 0 0 0 ⟨#[]⟩ 1 (fun _=>q) 1 (fun _=>2) (fun _=>s) (fun _=>⟨#[]⟩) (fun _=>false) (fun _=>p)) (d + 1):=by
 refine ⟨by simp,show headE wLet=true by decide +kernel,fun T a o R pb b c hs hf ho=>?_⟩
 have hz:=hs.size (by simp)
 simp only [List.length_cons,List.length_append] at hz
 have s1:=hs.cons
 have s2:=s1.2.cons
 have s3:=s2.2.cons
 have s4:=s3.2.assoc
 have s5:=s3.2.tail.cons
 have l1:a<=300:=by omega
 have l2:o<=100:=by omega
 have l3:o + 1<=200:=by omega
 have l4:a + 1<=300:=by omega
 have l5:a + 1 + 1<=300:=by omega
 have l6:a + 1 + 1 + 1 + X.length<=300:=by omega
 have e0:seeM T ⟨a,o + 1,0⟩ 0=wLet:=see0.trans s1.1
 have e1:seeM T ⟨a,o + 1,0⟩ 1=⟨4,s,0⟩:=see0.trans s2.1
 have e2:seeM T ⟨a + 1,o + 1,0⟩ 0=⟨4,s,0⟩:=see0.trans s2.1
 have e4:seeM T ⟨a + 1 + 1 + 1 + X.length,o + 1,0⟩ 0=wRet:=see0.trans s5.1
 have r1:=hx.run T _ (o + 1) _ pb b c s4 (by show folB 0 wRet=true;decide +kernel) (by omega)
 have r2:=hy.run T _ (o + 1) R pb b c s5.2 hf (by omega)
 have e:a + (wLet :: ⟨4,s,0⟩ :: mBe :: (X ++ (wRet :: Y)):List Tok).length=a + 1 + 1 + 1 + X.length + 1 + Y.length:=by
  simp only [List.length_cons,List.length_append];omega
 rw [e]
 have hfi:RunC pb b c T 162 ⟨a + 1,o + 1,0⟩ ⟨a + 1 + 1 + 1 + X.length,o + 1,0⟩ 2 s ⟨#[]⟩ false p :=
  letBe_is (st:=⟨a + 1,o + 1,0⟩) (s2:=⟨a + 1 + 1 + 1,o + 1,0⟩) (us:=s) (un:=0) hs.len l4 e2 hz' l5 (want0 (by rw [s3.1];exact eqT_self)) r1
 have hbi:RunB pb b c T 142 ⟨a,o + 1,0⟩ ⟨a + 1 + 1 + 1 + X.length,o + 1,0⟩ 1 (fun _=>2) (fun _=>s) (fun _=>⟨#[]⟩) (fun _=>false) (fun _=>p) :=
  bindings_is (n:=1) (ST:=fun k=>if k=0 then ⟨a,o + 1,0⟩ else ⟨a + 1 + 1 + 1 + X.length,o + 1,0⟩) (FK:=fun _=>false) hs.len (by decide) (fun k hk=>by by_cases hk0:k=0 <;> simp [hk0] <;> omega)
   (fun k hk h=>absurd h (by decide))
   (fun k hk _=>by
    obtain rfl:k=0:=by omega
    refine ⟨⟨?_,?_⟩,?_⟩
    · simp only [if_true]
      rw [e0];decide
    · simp only [if_true]
      rw [e0];exact eqT_self
    · exact hfi)
   ⟨by simp only [Nat.one_ne_zero,if_false];rw [e4];decide,by simp only [Nat.one_ne_zero,if_false];rw [e4];decide⟩
 have k:=flwor_plain (pb:=pb) (b:=b) (c:=c) (st:=⟨a,o + 1,0⟩) (s1:=⟨a + 1 + 1 + 1 + X.length,o + 1,0⟩) (s2:=⟨a + 1 + 1 + 1 + X.length + 1,o + 1,0⟩) hs.len l1 l6 hbi (by rw [e4];decide) (by rw [e4];decide) (want0 (by rw [s5.1];exact eqT_self)) r2
 exact single_let (st:=⟨a,o,0⟩) (s0:=⟨a,o + 1,0⟩) (s1:=⟨a + 1 + 1 + 1 + X.length + 1 + Y.length,o + 1,0⟩) hs.len l1 l1 l2 ⟨by simp,l3⟩ (ent0 (by omega)) e0 e1 (by decide) (by decide) (by decide) k
theorem ls_sgsE {X:List Tok} {p:Ph} {L:List J} {d:Nat} (h:IsSg X p d) (hL:Sgs d L) (hn:L≠[]):IsLs (X ++ jt L) (phN 3 ⟨0,0,⟨#[]⟩⟩ ⟨#[]⟩ 0 0 0 ⟨#[]⟩ (L.length + 1) (phC p L)) (d + 1):=by
 have ne:X ++ jt L≠[]:=fun e=>h.ne (List.append_eq_nil_iff.1 e).1
 refine ⟨ne,by rw [hd_app h.ne];exact h.head,fun T a o R pb b c hs hf ho=>?_⟩
 have hz:=hs.size ne
 have l1:a<=300:=by omega
 have l2:o<=100:=by omega
 have l3:o + 1<=200:=by omega
 have l4:L.length + 1≠1:=by have:=List.length_pos_iff.2 hn;omega
 have r:=sgs_chain (pb:=pb) (b:=b) (c:=c) (o:=o + 1) h hL hs hf (by omega)
 exact list_more (st:=⟨a,o,0⟩) (s0:=⟨a,o + 1,0⟩) (s1:=⟨a + (X ++ jt L).length,o + 1,0⟩) hs.len l1 l2 ⟨by simp,l3⟩ (ent0 (by omega)) l4 r
end Go.Proofs.YtmcmbdkpfcibkaaGreatDoor
