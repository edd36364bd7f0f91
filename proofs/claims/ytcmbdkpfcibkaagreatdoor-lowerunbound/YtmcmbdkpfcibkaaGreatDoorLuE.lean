import Derived.Test.YtmcmbdkpfcibkaaGreatDoorRgIn
import Derived.Test.YtmcmbdkpfcibkaaGreatDoorLuJ
import Derived.Test.YtmcmbdkpfcibkaaGreatDoorLvE
import Derived.Test.YtmcmbdkpfcibkaaGreatDoorLvC
import Derived.Test.YtmcmbdkpfcibkaaGreatDoorLxE
import Derived.Test.YtmcmbdkpfcibkaaGreatDoorPrBin1
import Derived.Test.YtmcmbdkpfcibkaaGreatDoorPmClone
import Derived.Deep.RegionHeld3
import Derived.Test.YtmcmbdkpfcibkaaGreatDoorLvH
set_option linter.unusedVariables false
set_option maxHeartbeats 6400000
namespace Go.Proofs.YtmcmbdkpfcibkaaGreatDoor
set_option maxRecDepth 100000
open Go.RowKit Go.WideShapes Go.Shelf
theorem parts_seq_ok {n:Nat} {A:Nat->Ph} {X:Nat->Ex} {P:Nat->Nat} {N:ByteArray->Nat} {it:It} {nm tn:ByteArray} {cn ax tk:Int} (hn:n<=1000) (hP7:∀ k,k<=n->P k<=699) (hr:∀ k,k<n->RunE (A k) N (P k) (P (k + 1)) (X k)):RunF 58 (phN 3 it nm cn ax tk tn n A) N (P 0) (P n + 1) (exN 3 ⟨0,0,⟨#[]⟩⟩ ⟨#[]⟩ ⟨#[]⟩ 0 n X):=by
 intro w lb tb ob sb S pb po u hB hX hP
 obtain ⟨aa,ac,a10,c10',hu,hac,_,hcm,_,hel,_⟩:=hP.v
 have HEL:Hid (0<n->∃ g o,aa=some ⟨g,o,none⟩/\∀ k,k<n->∃ u,PhIn w lb sb g (o + k * 11) (A k) S u):=fun h=>by
  obtain ⟨g,o,q1,q2,q3⟩:=hel h
  exact ⟨g,o,q1,fun k hk=>by obtain ⟨u',r1,r2⟩:=q3 k hk;exact ⟨u',r1,r2,q2,hP.h⟩⟩
 have HX:=HidOf hX
 have HLS:=HidOf hB.ls
 have hls:=hB.ls
 have hlw:=hB.ll
 have hsw:=hB.sl
 have hpw:=(hP.h pb hP.s).1
 have e0:=(phAt_c (hu ▸ hP.c)).c0
 have HPX:Hid (∀ W,XS w lb tb ob sb N (P 0) W->W.cell? ⟨pb,po + 9,none⟩=some (.slice aa n ac)):=fun W hW=>(phAt_c (hu ▸ (hP.at hW).c)).c9
 have CE:Hid (∀ W,XS w lb tb ob sb N (P 0) W->Calls Tryz.prog 103 #[vP lb 0,.slice aa n ac] W fun e w'=>∃ v,e=.returned v/\LOwn 29 11 (ExE X) w' W.heap.size v n/\XS w lb tb ob sb N (P n) w'/\(∀ b,b<W.heap.size->b≠lb->b≠sb->w'.heap[b]?=W.heap[b]?)):=fun W hW =>
  (exprs_is hn (fun k hk=>by have:=hP7 k hk;omega) hr W lb tb ob sb S aa ac hac hcm (fun h=>by obtain ⟨g,o,q1,q2⟩:=HEL.out h;exact ⟨g,o,q1,fun k hk=>by obtain ⟨u',r⟩:=q2 k hk;exact ⟨u',r.at hW⟩⟩) (hB.at hW) hW.here).mono fun e w' ⟨v,k1,k2,k3⟩=>⟨v,k1,k2,hW.trans k3,k3.k⟩
 have hpn:P n + 1<=700:=by have:=hP7 n (Nat.le_refl _);omega
 clear hr hel hX hB hP hu
 go_enter Tryz.func58,Tryz.ntmps58
 go_upto_region 13 with fail
 obtain ⟨W1,hW1⟩:∃ W,W=w.alloc (.cells zA 29):=⟨_,rfl⟩
 have HS1:Hid (XS w lb tb ob sb N (P 0) W1):=by rw [hW1];exact HX.out.alloc _
 have HR1:Hid (W1.heap[w.heap.size]?=some (.cells zA 29)):=by rw [hW1];exact aNew rfl
 have hz1:w.heap.size<W1.heap.size:=(gI HR1.out).1
 rw [<- hW1]
 clear hW1 e0
 have e9:=HPX.out W1 HS1.out
 have hp1:pb<W1.heap.size:=by omega
 go_wp2_with (first
  | (go_at_call 103;refine (CE.out _ HS1.out).mono ?_;rintro e w2 ⟨v,rfl,hl2,hs2,hk2⟩;obtain ⟨a2,c2,rfl⟩:=hl2.form;have HS2:=hidC hs2;have HL2:Hid (LOwn 29 11 (ExE X) w2 (w.heap.size + 1) (.slice a2 n c2) n):=LOwn.lower (ExE.keeps X) hl2 (by omega);have HR2:=hidC ((hk2 w.heap.size hz1 (by omega) (by omega)).trans HR1.out);have hw2:w.heap.size<w2.heap.size:=(gI HR2.out).1;clear hl2 hs2 hk2 CE)
  | (go_at_call 101;refine (made_X HLS.out HS2.out hpn 3 ⟨0,0,⟨#[]⟩⟩ ⟨#[]⟩ ⟨#[]⟩ 0 0 0 ⟨#[]⟩ none 0 0 a2 n c2 (by decide) (by decide) (by decide) (by decide)).mono ?_;rintro e W3 ⟨rfl,hs3,hk3,hz3⟩;have HS3:=hidC hs3;have HL3:Hid (LOwn 29 11 (ExE X) W3 (w.heap.size + 1) (.slice a2 n c2) n):=HL2.out.step (ExE.keeps X) hz3 (fun b h1 h2=>hk3 b h2 (by omega) (by omega));have HR3:=hidC ((hk3 w.heap.size hw2 (by omega) (by omega)).trans HR2.out);obtain ⟨z0,z1,z2,z3,z4,z5,z6,z7,z8,z9,z10,z11,z12⟩:=bk11 HR3.out;clear hs3 hk3 hz3))
 generalize hW4:World.setCell _ _ _=W4
 have hW5:W4=putL W3 w.heap.size 0 (eL 3 0 0 ⟨#[]⟩ ⟨#[]⟩ ⟨#[]⟩ 0 0 0 ⟨#[]⟩ a2 n c2):=hW4.symm
 have HZ4:Hid (W4.heap[w.heap.size]?=some (.cells (eA 3 0 0 ⟨#[]⟩ ⟨#[]⟩ ⟨#[]⟩ 0 0 0 ⟨#[]⟩ a2 n c2) 29)):=by rw [hW5];exact putL_same HR3.out _ rfl
 have HS4:Hid (XS w lb tb ob sb N (P n + 1) W4):=by rw [hW5];exact HS3.out.put (Nat.le_refl _) hlw hsw _
 have HL4:Hid (LOwn 29 11 (ExE X) W4 (w.heap.size + 1) (.slice a2 n c2) n):=by rw [hW5];exact HL3.out.step (ExE.keeps X) (putL_below (B:=0) (Nat.zero_le _) _ _ _ (Below.refl _ _)).size (fun b h1 h2=>putL_other (by omega) _ _ _)
 clear hW4 hW5
 obtain ⟨y0',y1',y2',y3',y4',y5',y6',y7',y8',y9',y10',_,_⟩:=bk11 HZ4.out
 exact bodyPost_ret (v:=.agg (eA 3 0 0 ⟨#[]⟩ ⟨#[]⟩ ⟨#[]⟩ 0 0 0 ⟨#[]⟩ a2 n c2)) (by simp [results,Tryz.results58,go_sem,y0',y1',y2',y3',y4',y5',y6',y7',y8',y9',y10']) rfl ⟨(eL 3 0 0 ⟨#[]⟩ ⟨#[]⟩ ⟨#[]⟩ 0 0 0 ⟨#[]⟩ a2 n c2),(LOwn.lower (ExE.keeps X) HL4.out (Nat.le_succ _)).exs (by decide) (by decide) (by decide),rfl,HS4.out⟩
theorem parts_seq_bad {n j0:Nat} {A:Nat->Ph} {X:Nat->Ex} {P:Nat->Nat} {N:ByteArray->Nat} {q:Nat} {it:It} {nm tn:ByteArray} {cn ax tk:Int} (hn:n<=1000) (hj:j0<n) (hP7:∀ k,k<=n->P k<=699) (hq:q + 1<=700) (hr:∀ k,k<j0->RunE (A k) N (P k) (P (k + 1)) (X k)) (hb:RunN 24 (A j0) N (P j0) q):RunN 58 (phN 3 it nm cn ax tk tn n A) N (P 0) (q + 1):=by
 intro w lb tb ob sb S pb po u hB hX hP
 obtain ⟨aa,ac,a10,c10',hu,hac,_,hcm,_,hel,_⟩:=hP.v
 have HEL:Hid (0<n->∃ g o,aa=some ⟨g,o,none⟩/\∀ k,k<n->∃ u,PhIn w lb sb g (o + k * 11) (A k) S u):=fun h=>by
  obtain ⟨g,o,q1,q2,q3⟩:=hel h
  exact ⟨g,o,q1,fun k hk=>by obtain ⟨u',r1,r2⟩:=q3 k hk;exact ⟨u',r1,r2,q2,hP.h⟩⟩
 have HX:=HidOf hX
 have HLS:=HidOf hB.ls
 have hls:=hB.ls
 have hlw:=hB.ll
 have hsw:=hB.sl
 have hpw:=(hP.h pb hP.s).1
 have e0:=(phAt_c (hu ▸ hP.c)).c0
 have HPX:Hid (∀ W,XS w lb tb ob sb N (P 0) W->W.cell? ⟨pb,po + 9,none⟩=some (.slice aa n ac)):=fun W hW=>(phAt_c (hu ▸ (hP.at hW).c)).c9
 have CE:Hid (∀ W,XS w lb tb ob sb N (P 0) W->Calls Tryz.prog 103 #[vP lb 0,.slice aa n ac] W fun e w'=>∃ b m c,e=.returned (.slice b m c)/\XN w lb tb ob sb N q w'/\(∀ b,b<W.heap.size->b≠lb->b≠sb->w'.heap[b]?=W.heap[b]?)):=fun W hW =>
  (exprs_bad hn hj (fun k hk=>by have:=hP7 k hk;omega) hr hb W lb tb ob sb S aa ac hac hcm (fun h=>by obtain ⟨g,o,q1,q2⟩:=HEL.out h;exact ⟨g,o,q1,fun k hk=>by obtain ⟨u',r⟩:=q2 k hk;exact ⟨u',r.at hW⟩⟩) (hB.at hW) hW.here).mono fun e w' ⟨b,m,c,k1,k3⟩=>⟨b,m,c,k1,hW.thenN k3,k3.k⟩
 clear hr hel hX hB hP hu hb
 go_enter Tryz.func58,Tryz.ntmps58
 go_upto_region 13 with fail
 obtain ⟨W1,hW1⟩:∃ W,W=w.alloc (.cells zA 29):=⟨_,rfl⟩
 have HS1:Hid (XS w lb tb ob sb N (P 0) W1):=by rw [hW1];exact HX.out.alloc _
 have HR1:Hid (W1.heap[w.heap.size]?=some (.cells zA 29)):=by rw [hW1];exact aNew rfl
 have hz1:w.heap.size<W1.heap.size:=(gI HR1.out).1
 rw [<- hW1]
 clear hW1 e0
 have e9:=HPX.out W1 HS1.out
 have hp1:pb<W1.heap.size:=by omega
 go_wp2_with (first
  | (go_at_call 103;refine (CE.out _ HS1.out).mono ?_;rintro e w2 ⟨b2,m2,c2,rfl,hs2,hk2⟩;have HS2:=hidC hs2;have HR2:=hidC ((hk2 w.heap.size hz1 (by omega) (by omega)).trans HR1.out);have hw2:w.heap.size<w2.heap.size:=(gI HR2.out).1;clear hs2 hk2 CE)
  | (go_at_call 101;refine (made_no lb _ _ _ q 3 ⟨0,0,⟨#[]⟩⟩ ⟨#[]⟩ ⟨#[]⟩ 0 0 0 ⟨#[]⟩ none 0 0 b2 m2 c2 w2 HS2.out.l hq (by decide) (by decide) (by decide) (by decide)).mono ?_;rintro e W3 ⟨rfl,hk3⟩;have HS3:Hid (XN w lb tb ob sb N (q + 1) W3):=HS2.out.trans (HS2.out.here.ofKp hls hk3);have HR3:=hidC ((hk3.2.1 w.heap.size hw2 (by omega)).trans HR2.out);obtain ⟨z0,z1,z2,z3,z4,z5,z6,z7,z8,z9,z10,z11,z12⟩:=bk11 HR3.out;clear hk3))
 generalize hW4:World.setCell _ _ _=W4
 have hW5:W4=putL W3 w.heap.size 0 zL:=hW4.symm
 have HZ4:Hid (W4.heap[w.heap.size]?=some (.cells zA 29)):=by rw [hW5];exact putL_same HR3.out _ rfl
 have HS4:Hid (XN w lb tb ob sb N (q + 1) W4):=by rw [hW5];exact HS3.out.put (Nat.le_refl _) hlw hsw _
 clear hW4 hW5
 obtain ⟨y0',y1',y2',y3',y4',y5',y6',y7',y8',y9',y10',_,_⟩:=bk11 HZ4.out
 exact bodyPost_ret (v:=.agg zA) (by simp [results,Tryz.results58,go_sem,y0',y1',y2',y3',y4',y5',y6',y7',y8',y9',y10']) rfl ⟨rfl,HS4.out⟩
theorem expr_seq {n:Nat} {A:Nat->Ph} {it:It} {nm tn:ByteArray} {cn ax tk:Int} {N:ByteArray->Nat} {p q:Nat} {X:Ex} (hCA:∀ (W:World) (lb tb ob sb:Nat) (S:Nat->Prop) (pb po:Nat) (u:List Value),XB W lb tb ob sb->XS W lb tb ob sb N p W->PhIn W lb sb pb po (phN 3 it nm cn ax tk tn n A) S u->Calls Tryz.prog 53 #[vP lb 0,vP pb po] W fun e w'=>e=.returned (vI 0)/\Below W.heap.size W w') (h:RunF 58 (phN 3 it nm cn ax tk tn n A) N p q X):RunE (phN 3 it nm cn ax tk tn n A) N p q X:=by
 intro w lb tb ob sb S pb po u hB hX hP
 have HB:=HidOf hB
 have HX:=HidOf hX
 have HU:=HidOf hP
 have HH:=HidOf h
 have hll:=hB.ll
 have hsl:=hB.sl
 obtain ⟨aa,ac,a10,c10',hu,_⟩:=hP.v
 have hpw:=(hP.h pb hP.s).1
 have hpl:=(hP.h pb hP.s).2.1
 have CA:Hid (∀ W,XS w lb tb ob sb N p W->Calls Tryz.prog 53 #[vP lb 0,vP pb po] W fun e w'=>e=.returned (vI 0)/\Below W.heap.size W w'):=fun W hW=>hCA W lb tb ob sb S pb po u (hB.at hW) hW.here (hP.at hW)
 have HC0:Hid (∀ W,XS w lb tb ob sb N p W->W.cell? ⟨pb,po,none⟩=some (vI 3)):=fun W hW=>(phAt_c (hu ▸ (hP.at hW).c)).c0
 have hne:=hB.ls
 obtain ⟨_,_,_,_,l4,l5,l6⟩:=bk5 hX.l
 clear hB hX hP h hCA
 go_enter Tryz.func24,Tryz.ntmps24
 go_upto_region 3 with (go_at_call 53;refine (CA.out _ ?_).mono ?_;(· exact HX.out.alloc _);rintro e w1 ⟨rfl,hb1⟩;have HS0:Hid (XS w lb tb ob sb N p w1):=(HX.out.alloc _).below hb1;have HR0:Hid (w1.heap[w.heap.size]?=some (.cells zA 29)):=((hb1.block w.heap.size (by simp)).trans (heap_alloc_new _ _));obtain ⟨_,_,_,_,m4,m5,m6⟩:=bk5 HS0.out.l;clear hb1)
 obtain ⟨W1,hW1⟩:∃ W,W=w1.setCell ⟨lb,4,none⟩ (vI 0):=⟨_,rfl⟩
 have HS1:Hid (XS w lb tb ob sb N p W1):=by rw [hW1];exact HS0.out.zero hne
 have HR1:Hid (W1.heap[w.heap.size]?=some (.cells zA 29)):=by rw [hW1];exact sOth HR0.out (by omega)
 have hz1:w.heap.size<W1.heap.size:=(gI HR1.out).1
 have c0:=HC0.out W1 HS1.out
 have hpb1:pb<W1.heap.size:=by omega
 rw [<- hW1]
 clear hW1 m4 m5 m6 HS0 HR0 l4 l5
 obtain ⟨_,_,_,_,m4,m5,m6⟩:=bk5 HS1.out.l
 go_wp2_with (first
  | (go_at_call 58;refine (HH.out.use HB.out HS1.out HU.out).mono ?_;rintro e w2 ⟨x0,x1,x2,x6,x7,x8,y3,y4,y5,y9,b10,l10,c10,hx,rfl,hs,hk,hz⟩;have HS2:Hid (XS w lb tb ob sb N q w2):=hs;have HE2:Hid (X.W w2 (fun b=>w.heap.size + 1<=b/\b<w2.heap.size) (eL x0 x1 x2 y3 y4 y5 x6 x7 x8 y9 b10 l10 c10)):=Ex.W.keep (fun b q=>⟨by have:=hz1;omega,q.2⟩) (fun _ _=>rfl) hx;have HR2:Hid (w2.heap[w.heap.size]?=some (.cells zA 29)):=(hk w.heap.size hz1 (by omega) (by omega)).trans HR1.out;obtain ⟨z0,z1,z2,z3,z4,z5,z6,z7,z8,z9,z10,z11,z12⟩:=bk11 HR2.out;clear hs hx hk hz))
 generalize hW9:World.setCell _ _ _=W9
 have hW8:W9=putL w2 w.heap.size 0 (eL x0 x1 x2 y3 y4 y5 x6 x7 x8 y9 b10 l10 c10):=hW9.symm
 have HZ9:Hid (W9.heap[w.heap.size]?=some (.cells (eA x0 x1 x2 y3 y4 y5 x6 x7 x8 y9 b10 l10 c10) 29)):=by rw [hW8];exact putL_same HR2.out _ rfl
 have HS9:Hid (XS w lb tb ob sb N q W9):=by rw [hW8];exact HS2.out.put (Nat.le_refl _) hll hsl _
 have HE9:Hid (X.W W9 (fun b=>w.heap.size<=b/\b<W9.heap.size) (eL x0 x1 x2 y3 y4 y5 x6 x7 x8 y9 b10 l10 c10)):=by
  rw [hW8]
  have hz:=(putL_below (B:=0) (b:=w.heap.size) (w0:=w2) (Nat.zero_le _) (eL x0 x1 x2 y3 y4 y5 x6 x7 x8 y9 b10 l10 c10) w2 0 (Below.refl _ _)).size
  exact Ex.W.keep (fun b q=>⟨by omega,Nat.lt_of_lt_of_le q.2 hz⟩) (fun b q=>putL_other (by omega) _ _ _) HE2.out
 clear hW9 hW8
 obtain ⟨y0',y1',y2',y3',y4',y5',y6',y7',y8',y9',y10',_,_⟩:=bk11 HZ9.out
 exact bodyPost_ret (v:=.agg (eA x0 x1 x2 y3 y4 y5 x6 x7 x8 y9 b10 l10 c10)) (by simp [results,Tryz.results24,go_sem,y0',y1',y2',y3',y4',y5',y6',y7',y8',y9',y10']) rfl ⟨(eL x0 x1 x2 y3 y4 y5 x6 x7 x8 y9 b10 l10 c10),HE9.out,rfl,HS9.out⟩
theorem expr_seqN {n:Nat} {A:Nat->Ph} {it:It} {nm tn:ByteArray} {cn ax tk:Int} {N:ByteArray->Nat} {p q:Nat} (hCA:∀ (W:World) (lb tb ob sb:Nat) (S:Nat->Prop) (pb po:Nat) (u:List Value),XB W lb tb ob sb->XS W lb tb ob sb N p W->PhIn W lb sb pb po (phN 3 it nm cn ax tk tn n A) S u->Calls Tryz.prog 53 #[vP lb 0,vP pb po] W fun e w'=>e=.returned (vI 0)/\Below W.heap.size W w') (h:RunN 58 (phN 3 it nm cn ax tk tn n A) N p q):RunN 24 (phN 3 it nm cn ax tk tn n A) N p q:=by
 intro w lb tb ob sb S pb po u hB hX hP
 have HB:=HidOf hB
 have HX:=HidOf hX
 have HU:=HidOf hP
 have HH:=HidOf h
 have hll:=hB.ll
 have hsl:=hB.sl
 obtain ⟨aa,ac,a10,c10',hu,_⟩:=hP.v
 have hpw:=(hP.h pb hP.s).1
 have hpl:=(hP.h pb hP.s).2.1
 have CA:Hid (∀ W,XS w lb tb ob sb N p W->Calls Tryz.prog 53 #[vP lb 0,vP pb po] W fun e w'=>e=.returned (vI 0)/\Below W.heap.size W w'):=fun W hW=>hCA W lb tb ob sb S pb po u (hB.at hW) hW.here (hP.at hW)
 have HC0:Hid (∀ W,XS w lb tb ob sb N p W->W.cell? ⟨pb,po,none⟩=some (vI 3)):=fun W hW=>(phAt_c (hu ▸ (hP.at hW).c)).c0
 have hne:=hB.ls
 obtain ⟨_,_,_,_,l4,l5,l6⟩:=bk5 hX.l
 clear hB hX hP h hCA
 go_enter Tryz.func24,Tryz.ntmps24
 go_upto_region 3 with (go_at_call 53;refine (CA.out _ ?_).mono ?_;(· exact HX.out.alloc _);rintro e w1 ⟨rfl,hb1⟩;have HS0:Hid (XS w lb tb ob sb N p w1):=(HX.out.alloc _).below hb1;have HR0:Hid (w1.heap[w.heap.size]?=some (.cells zA 29)):=((hb1.block w.heap.size (by simp)).trans (heap_alloc_new _ _));obtain ⟨_,_,_,_,m4,m5,m6⟩:=bk5 HS0.out.l;clear hb1)
 obtain ⟨W1,hW1⟩:∃ W,W=w1.setCell ⟨lb,4,none⟩ (vI 0):=⟨_,rfl⟩
 have HS1:Hid (XS w lb tb ob sb N p W1):=by rw [hW1];exact HS0.out.zero hne
 have HR1:Hid (W1.heap[w.heap.size]?=some (.cells zA 29)):=by rw [hW1];exact sOth HR0.out (by omega)
 have hz1:w.heap.size<W1.heap.size:=(gI HR1.out).1
 have c0:=HC0.out W1 HS1.out
 have hpb1:pb<W1.heap.size:=by omega
 rw [<- hW1]
 clear hW1 m4 m5 m6 HS0 HR0 l4 l5
 obtain ⟨_,_,_,_,m4,m5,m6⟩:=bk5 HS1.out.l
 go_wp2_with (first
  | (go_at_call 58;refine (HH.out.use HB.out HS1.out HU.out).mono ?_;rintro e w2 ⟨rfl,hs,hk,hz⟩;have HS2:Hid (XN w lb tb ob sb N q w2):=hs;have HR2:Hid (w2.heap[w.heap.size]?=some (.cells zA 29)):=(hk w.heap.size hz1 (by omega) (by omega)).trans HR1.out;obtain ⟨z0,z1,z2,z3,z4,z5,z6,z7,z8,z9,z10,z11,z12⟩:=bk11 HR2.out;clear hs hk hz))
 generalize hW9:World.setCell _ _ _=W9
 have hW8:W9=putL w2 w.heap.size 0 zL:=hW9.symm
 have HZ9:Hid (W9.heap[w.heap.size]?=some (.cells zA 29)):=by rw [hW8];exact putL_same HR2.out _ rfl
 have HS9:Hid (XN w lb tb ob sb N q W9):=by rw [hW8];exact HS2.out.put (Nat.le_refl _) hll hsl _
 clear hW9 hW8
 obtain ⟨y0',y1',y2',y3',y4',y5',y6',y7',y8',y9',y10',_,_⟩:=bk11 HZ9.out
 exact bodyPost_ret (v:=.agg zA) (by simp [results,Tryz.results24,go_sem,y0',y1',y2',y3',y4',y5',y6',y7',y8',y9',y10']) rfl ⟨rfl,HS9.out⟩
open Go.RowKit Go.WideShapes Go.Shelf
theorem parts_bin_ok {n:Nat} {A:Nat->Ph} {X:Nat->Ex} {P:Nat->Nat} {N:ByteArray->Nat} {nm y:ByteArray} {a:Int} (hn:n<=1000) (hP:∀ k,k<=n->P k<=699) (hr:∀ k,k<n->RunE (A k) N (P k) (P (k + 1)) (X k)) (hx:nm.size<=maxLen) (hy:y.size<=4000) (hV:opersV nm=some (fV y a)) (it:It) (cn ax tk:Int) (tn:ByteArray) (w:World) (lb tb ob sb:Nat) (S:Nat->Prop) (pb po:Nat) (u:List Value) (hB:XB w lb tb ob sb) (hX:XS w lb tb ob sb N (P 0) w) (hp:PhIn w lb sb pb po (phN 25 it nm cn ax tk tn n A) S u) :
 Calls Tryz.prog 58 #[vP lb 0,vP pb po] w fun e w'=>∃ v,(exN 8 ⟨0,0,⟨#[]⟩⟩ y ⟨#[]⟩ 0 n X).W w' (fun b=>w.heap.size<=b/\b<w'.heap.size) v/\e=.returned (.agg v.toArray)/\XS w lb tb ob sb N (P n + 1) w':=by
 obtain ⟨aa,ac,a10,c10,hu,hac,_,hcm,_,hel,_⟩:=hp.v
 have HEL:Hid (0<n->∃ g o,aa=some ⟨g,o,none⟩/\∀ k,k<n->∃ u,PhIn w lb sb g (o + k * 11) (A k) S u):=fun h=>by
  obtain ⟨g,o,q1,q2,q3⟩:=hel h
  exact ⟨g,o,q1,fun k hk=>by obtain ⟨u',r1,r2⟩:=q3 k hk;exact ⟨u',r1,r2,q2,hp.h⟩⟩
 have HA:Hid (∀ W,XK w lb tb ob sb N W->W.cell? ⟨lb,1,none⟩=some (.map (some ob))/\W.cell? ⟨pb,po + 4,none⟩=some (vS nm)/\W.cell? ⟨pb,po + 9,none⟩=some (.slice aa n ac)/\(Instr.lookup 55 (.map (some ob)) (vS nm) false).run Tryz.prog W=.ok (.agg #[vS y,vI a]) W):=fun W hq=>by
  obtain ⟨q,hW⟩:=hq
  have e:=phAt_c (hu ▸ (hp.at hW).c)
  have hk:=(hB.at hW).o.look hx Tryz.underlying55 (zeroF W)
  rw [hV] at hk
  exact ⟨(bk5 hW.l).2.1,e.c4,e.c9,hk.1⟩
 have CE:Hid (∀ W,XS w lb tb ob sb N (P 0) W->Calls Tryz.prog 103 #[vP lb 0,.slice aa n ac] W fun e w'=>∃ v,e=.returned v/\LOwn 29 11 (ExE X) w' W.heap.size v n/\XS w lb tb ob sb N (P n) w'/\(∀ b,b<W.heap.size->b≠lb->b≠sb->w'.heap[b]?=W.heap[b]?)):=fun W hW =>
  (exprs_is hn (fun k hk=>by have:=hP k hk;omega) hr W lb tb ob sb S aa ac hac hcm (fun h=>by obtain ⟨g,o,q1,q2⟩:=HEL.out h;exact ⟨g,o,q1,fun k hk=>by obtain ⟨u',r⟩:=q2 k hk;exact ⟨u',r.at hW⟩⟩) (hB.at hW) hW.here).mono fun e w' ⟨v,k1,k2,k3⟩=>⟨v,k1,k2,hW.trans k3,k3.k⟩
 have CC:Hid (∀ W (a2:Option Addr) (c2:Nat),XS w lb tb ob sb N (P n) W->Calls Tryz.prog 91 #[vP lb 0,vS y,.slice a2 n c2] W fun e w'=>e=.returned (.agg (eA 8 0 0 ⟨#[]⟩ y ⟨#[]⟩ 0 0 0 ⟨#[]⟩ a2 n c2))/\XS w lb tb ob sb N (P n + 1) w'/\(∀ b,b<W.heap.size->b≠lb->w'.heap[b]?=W.heap[b]?)/\W.heap.size<=w'.heap.size):=fun W a2 c2 hW =>
  (call_is lb _ _ _ (P n) y a2 n c2 W hW.l (by have:=hP n (Nat.le_refl _);omega) hy).mono fun e w' ⟨k1,k2⟩=>⟨k1,hW.trans (hW.here.ofKp hB.ls k2),k2.2.1,k2.2.2.size⟩
 have EF:=field_fn y a
 have HX:=HidOf hX
 have hll:=hB.ll
 have hsl:=hB.sl
 have e0:=phAt_c (hu ▸ hp.c)
 have e4:=e0.c0
 have hpw:=(hp.h pb hp.s).1
 clear hr hel e0 hX
 go_enter Tryz.func58,Tryz.ntmps58
 go_upto_region 10 with fail
 obtain ⟨W1,hW1⟩:∃ W,W=w.alloc (.cells zA 29):=⟨_,rfl⟩
 have HS1:Hid (XS w lb tb ob sb N (P 0) W1):=by rw [hW1];exact HX.out.alloc _
 have HR1:Hid (W1.heap[w.heap.size]?=some (.cells zA 29)):=by rw [hW1];exact heap_alloc_new _ _
 have hz1:w.heap.size<W1.heap.size:=(gI HR1.out).1
 rw [<- hW1]
 clear hW1 e4
 have HK1:Hid (XK w lb tb ob sb N W1):=⟨_,HS1.out⟩
 obtain ⟨h0,h1,h2,h3⟩:=HA.out W1 HK1.out
 go_region_held3 (fun W=>W.cell? ⟨lb,1,none⟩=some (.map (some ob))/\W.cell? ⟨pb,po + 4,none⟩=some (vS nm)/\W.cell? ⟨pb,po + 9,none⟩=some (.slice aa n ac)/\(Instr.lookup 55 (.map (some ob)) (vS nm) false).run Tryz.prog W=.ok (.agg #[vS y,vI a]) W)
  ((refine HA.out _ ?_;repeat (first | with_reducible exact Hid.out (by with_reducible assumption) | with_reducible refine XK.drew ?_ | with_reducible refine XK.setC ?_ (Nat.le_refl _) hll hsl _ _)))
  (first
   | (go_at_call 103;refine (CE.out _ ?_).mono ?_;(focus (repeat (first | with_reducible exact Hid.out (by with_reducible assumption) | with_reducible refine XS.drew ?_)));rintro e w2 ⟨v,rfl,hl2,hs2,hk2⟩;obtain ⟨a2,c2,rfl⟩:=hl2.form;have HS2:Hid (XS w lb tb ob sb N (P n) w2):=hs2;have HK2:Hid (XK w lb tb ob sb N w2):=⟨_,hs2⟩;have HL2:Hid (LOwn 29 11 (ExE X) w2 (w.heap.size + 1) (.slice a2 n c2) n):=LOwn.lower (ExE.keeps X) hl2 (by have:=hz1;first | omega | (simp;omega));have HR2:Hid (w2.heap[w.heap.size]?=some (.cells zA 29)):=(hk2 w.heap.size hz1 (by omega) (by omega)).trans HR1.out;have hw2:w.heap.size<w2.heap.size:=(gI HR2.out).1;clear hl2 hs2 hk2 CE)
   | (go_at_call 91;refine (CC.out _ a2 c2 ?_).mono ?_;(focus (repeat (first | with_reducible exact Hid.out (by with_reducible assumption) | with_reducible refine XS.drew ?_)));rintro e W3 ⟨rfl,hs3,hk3,hz3⟩;have HS3:Hid (XS w lb tb ob sb N (P n + 1) W3):=hs3;have HK3:Hid (XK w lb tb ob sb N W3):=⟨_,hs3⟩;have HL3:Hid (LOwn 29 11 (ExE X) W3 (w.heap.size + 1) (.slice a2 n c2) n):=HL2.out.step (ExE.keeps X) hz3 (fun b h1 h2=>hk3 b h2 (by omega));have HR3:Hid (W3.heap[w.heap.size]?=some (.cells zA 29)):=(hk3 w.heap.size hw2 (by omega)).trans HR2.out;obtain ⟨z0,z1,z2,z3,z4,z5,z6,z7,z8,z9,z10,z11,z12⟩:=bk11 HR3.out;clear hs3 hk3 hz3 CC))
 all_goals
  generalize hW4:World.setCell _ _ _=W4
  have hW5:W4=putL W3 w.heap.size 0 (eL 8 0 0 ⟨#[]⟩ y ⟨#[]⟩ 0 0 0 ⟨#[]⟩ a2 n c2):=hW4.symm
  have HZ4:Hid (W4.heap[w.heap.size]?=some (.cells (eA 8 0 0 ⟨#[]⟩ y ⟨#[]⟩ 0 0 0 ⟨#[]⟩ a2 n c2) 29)):=by rw [hW5];exact putL_same HR3.out _ rfl
  have HS4:Hid (XS w lb tb ob sb N (P n + 1) W4):=by rw [hW5];exact HS3.out.put (Nat.le_refl _) hll hsl _
  have HL4:Hid (LOwn 29 11 (ExE X) W4 (w.heap.size + 1) (.slice a2 n c2) n):=by rw [hW5];exact HL3.out.step (ExE.keeps X) (putL_below (B:=0) (Nat.zero_le _) _ _ _ (Below.refl _ _)).size (fun b h1 h2=>putL_other (by omega) _ _ _)
  clear hW4 hW5
  go_wp2
  obtain ⟨y0,y1,y2,y3,y4,y5,y6,y7,y8,y9,y10,_,_⟩:=bk11 HZ4.out
  exact bodyPost_ret (v:=.agg (eA 8 0 0 ⟨#[]⟩ y ⟨#[]⟩ 0 0 0 ⟨#[]⟩ a2 n c2)) (by simp [results,Tryz.results58,go_sem,y0,y1,y2,y3,y4,y5,y6,y7,y8,y9,y10]) rfl ⟨(eL 8 0 0 ⟨#[]⟩ y ⟨#[]⟩ 0 0 0 ⟨#[]⟩ a2 n c2),(LOwn.lower (ExE.keeps X) HL4.out (Nat.le_succ _)).exs (by decide) (Nat.le_trans hy (by decide)) (by decide),rfl,HS4.out⟩
theorem expr_bin {n:Nat} {A:Nat->Ph} {it:It} {nm tn:ByteArray} {cn ax tk:Int} {N:ByteArray->Nat} {p q:Nat} {X:Ex} (hCA:∀ (W:World) (lb tb ob sb:Nat) (S:Nat->Prop) (pb po:Nat) (u:List Value),XB W lb tb ob sb->XS W lb tb ob sb N p W->PhIn W lb sb pb po (phN 25 it nm cn ax tk tn n A) S u->Calls Tryz.prog 53 #[vP lb 0,vP pb po] W fun e w'=>e=.returned (vI 0)/\Below W.heap.size W w') (h:RunF 58 (phN 25 it nm cn ax tk tn n A) N p q X):RunE (phN 25 it nm cn ax tk tn n A) N p q X:=by
 intro w lb tb ob sb S pb po u hB hX hP
 have HB:=HidOf hB
 have HX:=HidOf hX
 have HU:=HidOf hP
 have HH:=HidOf h
 have hll:=hB.ll
 have hsl:=hB.sl
 obtain ⟨aa,ac,a10,c10',hu,_⟩:=hP.v
 have hpw:=(hP.h pb hP.s).1
 have hpl:=(hP.h pb hP.s).2.1
 have CA:Hid (∀ W,XS w lb tb ob sb N p W->Calls Tryz.prog 53 #[vP lb 0,vP pb po] W fun e w'=>e=.returned (vI 0)/\Below W.heap.size W w'):=fun W hW=>hCA W lb tb ob sb S pb po u (hB.at hW) hW.here (hP.at hW)
 have HC0:Hid (∀ W,XS w lb tb ob sb N p W->W.cell? ⟨pb,po,none⟩=some (vI 25)):=fun W hW=>(phAt_c (hu ▸ (hP.at hW).c)).c0
 have hne:=hB.ls
 obtain ⟨_,_,_,_,l4,l5,l6⟩:=bk5 hX.l
 clear hB hX hP h hCA
 go_enter Tryz.func24,Tryz.ntmps24
 go_upto_region 3 with (go_at_call 53;refine (CA.out _ ?_).mono ?_;(· exact HX.out.alloc _);rintro e w1 ⟨rfl,hb1⟩;have HS0:Hid (XS w lb tb ob sb N p w1):=(HX.out.alloc _).below hb1;have HR0:Hid (w1.heap[w.heap.size]?=some (.cells zA 29)):=((hb1.block w.heap.size (by simp)).trans (heap_alloc_new _ _));obtain ⟨_,_,_,_,m4,m5,m6⟩:=bk5 HS0.out.l;clear hb1)
 obtain ⟨W1,hW1⟩:∃ W,W=w1.setCell ⟨lb,4,none⟩ (vI 0):=⟨_,rfl⟩
 have HS1:Hid (XS w lb tb ob sb N p W1):=by rw [hW1];exact HS0.out.zero hne
 have HR1:Hid (W1.heap[w.heap.size]?=some (.cells zA 29)):=by rw [hW1];exact sOth HR0.out (by omega)
 have hz1:w.heap.size<W1.heap.size:=(gI HR1.out).1
 have c0:=HC0.out W1 HS1.out
 have hpb1:pb<W1.heap.size:=by omega
 rw [<- hW1]
 clear hW1 m4 m5 m6 HS0 HR0 l4 l5
 obtain ⟨_,_,_,_,m4,m5,m6⟩:=bk5 HS1.out.l
 go_wp2_with (first
  | (go_at_call 58;refine (HH.out.use HB.out HS1.out HU.out).mono ?_;rintro e w2 ⟨x0,x1,x2,x6,x7,x8,y3,y4,y5,y9,b10,l10,c10,hx,rfl,hs,hk,hz⟩;have HS2:Hid (XS w lb tb ob sb N q w2):=hs;have HE2:Hid (X.W w2 (fun b=>w.heap.size + 1<=b/\b<w2.heap.size) (eL x0 x1 x2 y3 y4 y5 x6 x7 x8 y9 b10 l10 c10)):=Ex.W.keep (fun b q=>⟨by have:=hz1;omega,q.2⟩) (fun _ _=>rfl) hx;have HR2:Hid (w2.heap[w.heap.size]?=some (.cells zA 29)):=(hk w.heap.size hz1 (by omega) (by omega)).trans HR1.out;obtain ⟨z0,z1,z2,z3,z4,z5,z6,z7,z8,z9,z10,z11,z12⟩:=bk11 HR2.out;clear hs hx hk hz))
 generalize hW9:World.setCell _ _ _=W9
 have hW8:W9=putL w2 w.heap.size 0 (eL x0 x1 x2 y3 y4 y5 x6 x7 x8 y9 b10 l10 c10):=hW9.symm
 have HZ9:Hid (W9.heap[w.heap.size]?=some (.cells (eA x0 x1 x2 y3 y4 y5 x6 x7 x8 y9 b10 l10 c10) 29)):=by rw [hW8];exact putL_same HR2.out _ rfl
 have HS9:Hid (XS w lb tb ob sb N q W9):=by rw [hW8];exact HS2.out.put (Nat.le_refl _) hll hsl _
 have HE9:Hid (X.W W9 (fun b=>w.heap.size<=b/\b<W9.heap.size) (eL x0 x1 x2 y3 y4 y5 x6 x7 x8 y9 b10 l10 c10)):=by
  rw [hW8]
  have hz:=(putL_below (B:=0) (b:=w.heap.size) (w0:=w2) (Nat.zero_le _) (eL x0 x1 x2 y3 y4 y5 x6 x7 x8 y9 b10 l10 c10) w2 0 (Below.refl _ _)).size
  exact Ex.W.keep (fun b q=>⟨by omega,Nat.lt_of_lt_of_le q.2 hz⟩) (fun b q=>putL_other (by omega) _ _ _) HE2.out
 clear hW9 hW8
 obtain ⟨y0',y1',y2',y3',y4',y5',y6',y7',y8',y9',y10',_,_⟩:=bk11 HZ9.out
 exact bodyPost_ret (v:=.agg (eA x0 x1 x2 y3 y4 y5 x6 x7 x8 y9 b10 l10 c10)) (by simp [results,Tryz.results24,go_sem,y0',y1',y2',y3',y4',y5',y6',y7',y8',y9',y10']) rfl ⟨(eL x0 x1 x2 y3 y4 y5 x6 x7 x8 y9 b10 l10 c10),HE9.out,rfl,HS9.out⟩
theorem e_bin {A:Nat->Ph} {nm y:ByteArray} {it:It} {tn:ByteArray} {cn ax tk:Int} {N:ByteArray->Nat} {p q r:Nat} {X Y:Ex} (h0:RunE (A 0) N p q X) (h1:RunE (A 1) N q r Y) (hq:q<=699) (hr:r<=699) (hp:p<=699) (hn:nm.size<=maxLen) (hy:y.size<=4000) (hV:opersV nm=some (fV y 2)):RunE (phN 25 it nm cn ax tk tn 2 A) N p (r + 1) (exN 8 ⟨0,0,⟨#[]⟩⟩ y ⟨#[]⟩ 0 2 (ex2 X Y)) :=
 expr_bin (al_bin hn hV) (fun w lb tb ob sb S pb po u hB hX hP=>parts_bin_ok (n:=2) (A:=A) (X:=ex2 X Y) (P:=fun k=>if k=0 then p else if k=1 then q else r) (by decide) (fun k _=>by split;(· exact hp);(· split;(· exact hq);(· exact hr))) (fun k hk=>by
  rcases (show k=0\/k=1 by omega) with rfl | rfl
  · exact h0
  · exact h1) hn hy hV it cn ax tk tn w lb tb ob sb S pb po u hB hX hP)
theorem e_true {N:ByteArray->Nat} {p:Nat} (hp:p + 1<=700):RunE (ph0 8 ⟨0,0,⟨#[]⟩⟩ ⟨#[116,114,117,101]⟩ 0 0 0 ⟨#[]⟩) N p (p + 1) (exN 1 ⟨4,1,⟨#[]⟩⟩ ⟨#[]⟩ ⟨#[]⟩ 0 0 (fun _=>.no)) :=
 expr_call (n:=0) (A:=fun _=>.no) (fun W lb tb ob sb S pb po u hB hX hP=>by
  obtain ⟨aa,ac,a10,c10',hu,_⟩:=hP.v
  exact alone_call lb pb po _ _ _ _ _ _ _ 0 _ _ _ W (phAt_c (hu ▸ hP.c)) (hP.h pb hP.s).1 (fun V hV=>(checkCall_true lb 0 V).mono fun e w' ⟨k1,k2⟩=>⟨k1,k2⟩)) (withParts_call (called_true _ _ _ _ _ 0 _ N p hp))
theorem e_nil {N:ByteArray->Nat} {p:Nat} (hp:p + 1<=700):RunE (ph0 3 ⟨0,0,⟨#[]⟩⟩ ⟨#[]⟩ 0 0 0 ⟨#[]⟩) N p (p + 1) (exN 3 ⟨0,0,⟨#[]⟩⟩ ⟨#[]⟩ ⟨#[]⟩ 0 0 (fun _=>.no)) :=
 expr_seq (n:=0) (A:=fun _=>.no) al_seq (parts_seq_ok (n:=0) (A:=fun _=>.no) (X:=fun _=>.no) (P:=fun _=>p) (by decide) (fun _ _=>by omega) (fun k hk=>absurd hk (by omega)))
open Go.RowKit Go.WideShapes Go.Shelf
theorem truth_no (lb:Nat) (m1 m2 m3:Value) (p:Nat) (w:World) (hl:w.heap[lb]?=some (.cells #[m1,m2,m3,vI (p:Int),vI 6] 73)) (hp:p + 1<=700) :
 Calls Tryz.prog 127 #[vP lb 0,.bool true] w fun e w'=>e=.returned (.agg zA)/\KpN lb m1 m2 m3 (p + 1) w w':=by
 have HL:=hidC hl
 obtain ⟨_,_,_,_,_,_,l6⟩:=bk5 hl
 have CM:Hid (∀ W,W.heap[lb]?=some (.cells #[m1,m2,m3,vI (p:Int),vI 6] 73)->Calls Tryz.prog 105 _ W _):=fun W hW=>lit_no lb m1 m2 m3 p ⟨4,1,⟨#[]⟩⟩ W hW hp (Nat.zero_le _)
 clear hl hp
 unfold KpN at CM ⊢
 generalize ((p + 1:Nat):Int)=q at *
 go_enter Tryz.func127,Tryz.ntmps127
 go_upto_region 4 with fail
 obtain ⟨W1,hW1⟩:∃ W,W=(w.alloc (.cells zA 29)).alloc (.cells #[vI 4,vI 1,vE] 24):=⟨_,rfl⟩
 have HL1:Hid (W1.heap[lb]?=some (.cells #[m1,m2,m3,vI (p:Int),vI 6] 73)):=by rw [hW1];exact aOld (aOld HL.out)
 have HO1:Hid (∀ b,b<w.heap.size->W1.heap[b]?=w.heap[b]?):=by
  rw [hW1]
  intro b hb
  obtain ⟨o,ho⟩:∃ o,w.heap[b]?=some o:=⟨_,Array.getElem?_eq_getElem hb⟩
  rw [ho]
  exact aOld (aOld ho)
 have HB1:Hid (Below lb w W1):=by rw [hW1];exact Below.alloc (Below.alloc (Below.refl lb w) (Nat.le_of_lt l6) _) (by simp;omega) _
 have HR1:Hid (W1.heap[w.heap.size]?=some (.cells zA 29)):=by rw [hW1];exact aOld (aNew rfl)
 have HI1:Hid (W1.heap[w.heap.size + 1]?=some (.cells #[vI 4,vI 1,vE] 24)):=by rw [hW1];exact aNew (by simp)
 have hz1:w.heap.size + 1<W1.heap.size:=(gI HI1.out).1
 rw [<- hW1]
 clear hW1
 obtain ⟨i0,i1,i2,i3⟩:=bk3L HI1.out
 go_wp2_with (go_at_call 105;refine (CM.out _ HL1.out).mono ?_;rintro e w1 ⟨rfl,hl1,ho1,hb1⟩;have HL2:=hidC hl1;have HZ1:=hidC ((ho1 w.heap.size (by omega) (by omega)).trans HR1.out);have HO2:Hid (∀ b,b<w.heap.size->b≠lb->w1.heap[b]?=w.heap[b]?):=(fun b hb hne=>(ho1 b (by omega) hne).trans (HO1.out b hb));have HB2:Hid (Below lb w w1):=Below.trans HB1.out hb1;obtain ⟨z0,z1,z2,z3,z4,z5,z6,z7,z8,z9,z10,z11,z12⟩:=bk11 HZ1.out;clear hl1 ho1 hb1)
 generalize hW2:World.setCell _ _ _=W2
 have hW3:W2=putL w1 w.heap.size 0 zL:=hW2.symm
 have HZ2:Hid (W2.heap[w.heap.size]?=some (.cells zA 29)):=by rw [hW3];exact putL_same HZ1.out _ rfl
 have HL3:Hid (W2.heap[lb]?=some (.cells #[m1,m2,m3,vI q,vI 6] 73)):=by rw [hW3];exact (putL_other (by omega) _ _ _).trans HL2.out
 have HO3:Hid (∀ c,c<w.heap.size->c≠lb->W2.heap[c]?=w.heap[c]?):=by rw [hW3];exact fun c h1 h2=>(putL_other (by omega) _ _ _).trans (HO2.out c h1 h2)
 have HB3:Hid (Below lb w W2):=by rw [hW3];exact putL_below (B:=lb) (by omega) _ _ _ HB2.out
 clear hW2 hW3
 obtain ⟨y0,y1,y2,y3,y4,y5,y6,y7,y8,y9,y10,_,_⟩:=bk11 HZ2.out
 exact bodyPost_ret (v:=.agg zA) (by simp [results,Tryz.results127,go_sem,y0,y1,y2,y3,y4,y5,y6,y7,y8,y9,y10]) rfl ⟨rfl,⟨HL3.out,HO3.out,HB3.out⟩⟩
theorem callN_X {w W:World} {lb tb ob sb:Nat} {N:ByteArray->Nat} {p:Nat} (hls:lb≠sb) (h:XN w lb tb ob sb N p W) (hp:p + 1<=700) (nm:ByteArray) (hn:nm.size<=4000) (aa:Option Addr) (am ac:Nat):Calls Tryz.prog 91 #[vP lb 0,vS nm,.slice aa am ac] W fun e w'=>e=.returned (.agg zA)/\XN w lb tb ob sb N (p + 1) w'/\(∀ b,b<W.heap.size->b≠lb->b≠sb->w'.heap[b]?=W.heap[b]?)/\W.heap.size<=w'.heap.size :=
 (call_no lb _ _ _ p nm aa am ac W h.l hp hn).mono fun e w' ⟨k1,k2⟩=>⟨k1,h.trans (h.here.ofKp hls k2),fun b q1 q2 _=>k2.2.1 b q1 q2,k2.2.2.size⟩
theorem nothingN_X {w W:World} {lb tb ob sb:Nat} {N:ByteArray->Nat} {p:Nat} (hls:lb≠sb) (h:XN w lb tb ob sb N p W) (hp:p + 1<=700):Calls Tryz.prog 125 #[vP lb 0] W fun e w'=>e=.returned (.agg zA)/\XN w lb tb ob sb N (p + 1) w'/\(∀ b,b<W.heap.size->b≠lb->b≠sb->w'.heap[b]?=W.heap[b]?)/\W.heap.size<=w'.heap.size :=
 (nothing_no lb _ _ _ p W h.l hp).mono fun e w' ⟨k1,k2⟩=>⟨k1,h.trans (h.here.ofKp hls k2),fun b q1 q2 _=>k2.2.1 b q1 q2,k2.2.2.size⟩
theorem truthN_X {w W:World} {lb tb ob sb:Nat} {N:ByteArray->Nat} {p:Nat} (hls:lb≠sb) (h:XN w lb tb ob sb N p W) (hp:p + 1<=700):Calls Tryz.prog 127 #[vP lb 0,.bool true] W fun e w'=>e=.returned (.agg zA)/\XN w lb tb ob sb N (p + 1) w'/\(∀ b,b<W.heap.size->b≠lb->b≠sb->w'.heap[b]?=W.heap[b]?)/\W.heap.size<=w'.heap.size :=
 (truth_no lb _ _ _ p W h.l hp).mono fun e w' ⟨k1,k2⟩=>⟨k1,h.trans (h.here.ofKp hls k2),fun b q1 q2 _=>k2.2.1 b q1 q2,k2.2.2.size⟩
theorem loopN_X {w W:World} {lb tb ob sb:Nat} {N:ByteArray->Nat} {p:Nat} (hls:lb≠sb) (h:XN w lb tb ob sb N p W) (hp:p + 1<=700) (nm at':ByteArray) (hn:nm.size<=4000) (ha:at'.size<=4000) (x0_1 x1_1 x2_1 x6_1 x7_1 x8_1:Int) (y3_1 y4_1 y5_1 y9_1:ByteArray) (b10_1:Option Addr) (l10_1 c10_1:Nat) (x0_2 x1_2 x2_2 x6_2 x7_2 x8_2:Int) (y3_2 y4_2 y5_2 y9_2:ByteArray) (b10_2:Option Addr) (l10_2 c10_2:Nat):Calls Tryz.prog 92 #[vP lb 0,vS nm,vS at',.agg (eA x0_1 x1_1 x2_1 y3_1 y4_1 y5_1 x6_1 x7_1 x8_1 y9_1 b10_1 l10_1 c10_1),.agg (eA x0_2 x1_2 x2_2 y3_2 y4_2 y5_2 x6_2 x7_2 x8_2 y9_2 b10_2 l10_2 c10_2)] W fun e w'=>e=.returned (.agg zA)/\XN w lb tb ob sb N (p + 1) w'/\(∀ b,b<W.heap.size->b≠lb->b≠sb->w'.heap[b]?=W.heap[b]?)/\W.heap.size<=w'.heap.size :=
 (loop_no lb _ _ _ p nm at' x0_1 ⟨x1_1,x2_1,y3_1⟩ y4_1 y5_1 x6_1 x7_1 x8_1 y9_1 b10_1 l10_1 c10_1 x0_2 ⟨x1_2,x2_2,y3_2⟩ y4_2 y5_2 x6_2 x7_2 x8_2 y9_2 b10_2 l10_2 c10_2 W h.l hp hn ha).mono fun e w' ⟨k1,k2,_⟩=>⟨k1,h.trans (h.here.ofKp hls k2),fun b q1 q2 _=>k2.2.1 b q1 q2,k2.2.2.size⟩
theorem condN_X {w W:World} {lb tb ob sb:Nat} {N:ByteArray->Nat} {p:Nat} (hls:lb≠sb) (h:XN w lb tb ob sb N p W) (hp:p + 1<=700) (x0_1 x1_1 x2_1 x6_1 x7_1 x8_1:Int) (y3_1 y4_1 y5_1 y9_1:ByteArray) (b10_1:Option Addr) (l10_1 c10_1:Nat) (x0_2 x1_2 x2_2 x6_2 x7_2 x8_2:Int) (y3_2 y4_2 y5_2 y9_2:ByteArray) (b10_2:Option Addr) (l10_2 c10_2:Nat) (x0_3 x1_3 x2_3 x6_3 x7_3 x8_3:Int) (y3_3 y4_3 y5_3 y9_3:ByteArray) (b10_3:Option Addr) (l10_3 c10_3:Nat):Calls Tryz.prog 100 #[vP lb 0,.agg (eA x0_1 x1_1 x2_1 y3_1 y4_1 y5_1 x6_1 x7_1 x8_1 y9_1 b10_1 l10_1 c10_1),.agg (eA x0_2 x1_2 x2_2 y3_2 y4_2 y5_2 x6_2 x7_2 x8_2 y9_2 b10_2 l10_2 c10_2),.agg (eA x0_3 x1_3 x2_3 y3_3 y4_3 y5_3 x6_3 x7_3 x8_3 y9_3 b10_3 l10_3 c10_3)] W fun e w'=>e=.returned (.agg zA)/\XN w lb tb ob sb N (p + 1) w'/\(∀ b,b<W.heap.size->b≠lb->b≠sb->w'.heap[b]?=W.heap[b]?)/\W.heap.size<=w'.heap.size :=
 (conditional_no lb _ _ _ p x0_1 ⟨x1_1,x2_1,y3_1⟩ y4_1 y5_1 x6_1 x7_1 x8_1 y9_1 b10_1 l10_1 c10_1 x0_2 ⟨x1_2,x2_2,y3_2⟩ y4_2 y5_2 x6_2 x7_2 x8_2 y9_2 b10_2 l10_2 c10_2 x0_3 ⟨x1_3,x2_3,y3_3⟩ y4_3 y5_3 x6_3 x7_3 x8_3 y9_3 b10_3 l10_3 c10_3 W h.l hp).mono fun e w' ⟨k1,k2,_⟩=>⟨k1,h.trans (h.here.ofKp hls k2),fun b q1 q2 _=>k2.2.1 b q1 q2,k2.2.2.size⟩
theorem someN_X {w U:World} {lb tb ob sb:Nat} {N:ByteArray->Nat} {p:Nat} (hB:XB w lb tb ob sb) (h:XN w lb tb ob sb N p U) (hp7:p + 6<=700) (nm:ByteArray) (hn:nm.size<=4000) (x0_1 x1_1 x2_1 x6_1 x7_1 x8_1:Int) (y3_1 y4_1 y5_1 y9_1:ByteArray) (b10_1:Option Addr) (l10_1 c10_1:Nat) (x0_2 x1_2 x2_2 x6_2 x7_2 x8_2:Int) (y3_2 y4_2 y5_2 y9_2:ByteArray) (b10_2:Option Addr) (l10_2 c10_2:Nat) :
 Calls Tryz.prog 94 #[vP lb 0,vS nm,.agg (eA x0_1 x1_1 x2_1 y3_1 y4_1 y5_1 x6_1 x7_1 x8_1 y9_1 b10_1 l10_1 c10_1),.agg (eA x0_2 x1_2 x2_2 y3_2 y4_2 y5_2 x6_2 x7_2 x8_2 y9_2 b10_2 l10_2 c10_2)] U fun e w'=>e=.returned (.agg zA)/\XN w lb tb ob sb N (p + 6) w'/\(∀ b,b<U.heap.size->b≠lb->b≠sb->w'.heap[b]?=U.heap[b]?)/\U.heap.size<=w'.heap.size:=by
 have HX:=HidOf h
 have HLS:=HidOf hB.ls
 have hlw:=hB.ll
 have hsw:=hB.sl
 have hwz:=h.z
 clear hB h
 go_enter Tryz.func94,Tryz.ntmps94
 go_upto_region 1 with fail
 obtain ⟨wr,hwr⟩:∃ V,V=((U.alloc (.cells (eA x0_1 x1_1 x2_1 y3_1 y4_1 y5_1 x6_1 x7_1 x8_1 y9_1 b10_1 l10_1 c10_1) 29)).alloc (.cells (eA x0_2 x1_2 x2_2 y3_2 y4_2 y5_2 x6_2 x7_2 x8_2 y9_2 b10_2 l10_2 c10_2) 29)).alloc (.cells zA 29):=⟨_,rfl⟩
 have HX0:Hid (XN w lb tb ob sb N p wr):=by rw [hwr];exact ((HX.out.alloc _).alloc _).alloc _
 have HB_1:Hid (wr.heap[U.heap.size]?=some (.cells (eA x0_1 x1_1 x2_1 y3_1 y4_1 y5_1 x6_1 x7_1 x8_1 y9_1 b10_1 l10_1 c10_1) 29)):=by rw [hwr];exact aOld (aOld (aNew rfl))
 have HB_2:Hid (wr.heap[U.heap.size + 1]?=some (.cells (eA x0_2 x1_2 x2_2 y3_2 y4_2 y5_2 x6_2 x7_2 x8_2 y9_2 b10_2 l10_2 c10_2) 29)):=by rw [hwr];exact aOld (aNew (by simp))
 have HR:Hid (wr.heap[U.heap.size + 2]?=some (.cells zA 29)):=by rw [hwr];exact aNew (by simp)
 have hz1:wr.heap.size=U.heap.size + 3:=by rw [hwr];simp
 have HK0:Hid (∀ b,b<U.heap.size->wr.heap[b]?=U.heap[b]?):=by rw [hwr];exact fun b hb=>(Below.heap_alloc _ _ _ (by simp;omega)).trans ((Below.heap_alloc _ _ _ (by simp;omega)).trans (Below.heap_alloc _ _ _ hb))
 rw [<- hwr]
 clear hwr HX
 obtain ⟨f0,f1,f2,f3,f4,f5,f6,f7,f8,f9,f10,_,_⟩:=bk11 HB_2.out
 go_upto_region 2 with (first
  | (go_at_call 91;refine (callN_X HLS.out (HX0.out.alloc _) (by omega) ⟨#[98,111,111,108,101,97,110]⟩ (by decide) _ _ _).mono ?_;rintro e w1 ⟨rfl,hs1,hk1,hz1'⟩;have HX1:=hidC hs1;have hz_1:wr.heap.size + 1<=w1.heap.size:=(by simpa using hz1');have HK1:Hid (∀ c,c<wr.heap.size->c≠lb->c≠sb->w1.heap[c]?=wr.heap[c]?):=hidC (fun c q1 q2 q3=>(hk1 c (by simp;omega) q2 q3).trans (Below.heap_alloc _ _ c q1));clear hs1 hk1 hz1')
  | (go_at_call 127;refine (truthN_X HLS.out HX1.out (by omega)).mono ?_;rintro e w2 ⟨rfl,hs2,hk2,hz2'⟩;have HX2:=hidC hs2;have hz_2:=hz2';have HK2:=hidC hk2;clear hs2 hk2 hz2')
  | (go_at_call 125;refine (nothingN_X HLS.out HX2.out (by omega)).mono ?_;rintro e w3 ⟨rfl,hs3,hk3,hz3'⟩;have HX3:=hidC hs3;have hz_3:=hz3';have HK3:=hidC hk3;clear hs3 hk3 hz3')
  | (go_at_call 100;refine (condN_X HLS.out HX3.out (by omega) 0 0 0 0 0 0 ⟨#[]⟩ ⟨#[]⟩ ⟨#[]⟩ ⟨#[]⟩ none 0 0 0 0 0 0 0 0 ⟨#[]⟩ ⟨#[]⟩ ⟨#[]⟩ ⟨#[]⟩ none 0 0 0 0 0 0 0 0 ⟨#[]⟩ ⟨#[]⟩ ⟨#[]⟩ ⟨#[]⟩ none 0 0).mono ?_;rintro e w4 ⟨rfl,hs4,hk4,hz4'⟩;have HX4:=hidC hs4;have hz_4:=hz4';have HK4:=hidC hk4;clear hs4 hk4 hz4'))
 obtain ⟨W4,hW4⟩:∃ V,V=w4.alloc (.cells zA 29):=⟨_,rfl⟩
 obtain ⟨t9,ht9⟩:∃ t,t=w4.heap.size:=⟨_,rfl⟩
 have HX_W4:Hid (XN w lb tb ob sb N (p + 4) W4):=hidC (by rw [hW4];exact HX4.out.alloc _)
 have HT_W4:Hid (W4.heap[t9]?=some (.cells zA 29)):=hidC (by rw [hW4,ht9];exact aNew rfl)
 have hzW4:W4.heap.size=t9 + 1:=by rw [hW4,ht9];simp
 have HK_W4:Hid (∀ c,c<wr.heap.size->c≠lb->c≠sb->W4.heap[c]?=wr.heap[c]?):=hidC (fun c q1 q2 q3=>by
  rw [hW4]
  exact (Below.heap_alloc _ _ c (by omega)).trans ((HK4.out c (by omega) q2 q3).trans ((HK3.out c (by omega) q2 q3).trans ((HK2.out c (by omega) q2 q3).trans (HK1.out c q1 q2 q3)))))
 have HB1_W4:=hidC ((HK_W4.out U.heap.size (by omega) (by omega) (by omega)).trans HB_1.out)
 have HR_W4:=hidC ((HK_W4.out (U.heap.size + 2) (by omega) (by omega) (by omega)).trans HR.out)
 have ht9w:wr.heap.size<=t9:=by omega
 rw [<- hW4,<- ht9]
 clear hW4 ht9 f0 f1 f2 f3 f4 f5 f6 f7 f8 f9 f10 HK1 HK2 HK3 HK4 HX0 HX1 HX2 HX3 HX4
 obtain ⟨f0,f1,f2,f3,f4,f5,f6,f7,f8,f9,f10,_,_⟩:=bk11 HB1_W4.out
 obtain ⟨g0,g1,g2,g3,g4,g5,g6,g7,g8,g9,g10,_,_⟩:=bk11 HT_W4.out
 go_wp2_with (first
  | (go_at_call 92;refine (loopN_X HLS.out HX_W4.out (by omega) nm ⟨#[]⟩ hn (by decide) x0_1 x1_1 x2_1 x6_1 x7_1 x8_1 y3_1 y4_1 y5_1 y9_1 b10_1 l10_1 c10_1 0 0 0 0 0 0 ⟨#[]⟩ ⟨#[]⟩ ⟨#[]⟩ ⟨#[]⟩ none 0 0).mono ?_;rintro e w5 ⟨rfl,hs5,hk5,hz5'⟩;have HX5:=hidC hs5;have hz_5:=hz5';have HK5:=hidC hk5;clear hs5 hk5 hz5')
  | (go_at_call 91;refine (callN_X HLS.out (HX5.out.alloc _) (by omega) ⟨#[101,120,105,115,116,115]⟩ (by decide) _ _ _).mono ?_;rintro e w6 ⟨rfl,hs6,hk6,hz6'⟩;have HX6:=hidC hs6;have hz_6:w5.heap.size + 1<=w6.heap.size:=(by simpa using hz6');have HK6:Hid (∀ c,c<w5.heap.size->c≠lb->c≠sb->w6.heap[c]?=w5.heap[c]?):=hidC (fun c q1 q2 q3=>(hk6 c (by simp;omega) q2 q3).trans (Below.heap_alloc _ _ c q1));have HR6:=hidC ((HK6.out (U.heap.size + 2) (by omega) (by omega) (by omega)).trans ((HK5.out (U.heap.size + 2) (by omega) (by omega) (by omega)).trans HR_W4.out));obtain ⟨z0,z1,z2,z3,z4,z5,z6,z7,z8,z9,z10,z11,z12⟩:=bk11 HR6.out;clear hs6 hk6 hz6'))
 generalize hW9:World.setCell _ _ _=W9
 have hW8:W9=putL w6 (U.heap.size + 2) 0 zL:=hW9.symm
 have HZ9:Hid (W9.heap[U.heap.size + 2]?=some (.cells zA 29)):=by rw [hW8];exact putL_same HR6.out _ rfl
 have HS9:Hid (XN w lb tb ob sb N (p + 6) W9):=by rw [hW8];exact HX6.out.put (by omega) hlw hsw _
 have HK9:Hid (∀ c,c<U.heap.size->c≠lb->c≠sb->W9.heap[c]?=U.heap[c]?):=by
  rw [hW8]
  exact fun c q1 q2 q3=>(putL_other (by omega) _ _ _).trans ((HK6.out c (by omega) q2 q3).trans ((HK5.out c (by omega) q2 q3).trans ((HK_W4.out c (by omega) q2 q3).trans (HK0.out c q1))))
 have hz9:U.heap.size<=W9.heap.size:=by have:=(gI HZ9.out).1;omega
 clear hW9 hW8
 obtain ⟨y0',y1',y2',y3',y4',y5',y6',y7',y8',y9',y10',_,_⟩:=bk11 HZ9.out
 exact bodyPost_ret (v:=.agg zA) (by simp [results,Tryz.results94,go_sem,y0',y1',y2',y3',y4',y5',y6',y7',y8',y9',y10']) rfl ⟨rfl,HS9.out,HK9.out,hz9⟩
end Go.Proofs.YtmcmbdkpfcibkaaGreatDoor
