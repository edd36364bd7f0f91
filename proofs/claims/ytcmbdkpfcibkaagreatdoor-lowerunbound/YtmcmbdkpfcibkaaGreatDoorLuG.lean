import Derived.Test.YtmcmbdkpfcibkaaGreatDoorRgIn
import Derived.Test.YtmcmbdkpfcibkaaGreatDoorLvF
import Derived.Test.YtmcmbdkpfcibkaaGreatDoorLvH
import Derived.Test.YtmcmbdkpfcibkaaGreatDoorLxV
import Derived.Test.YtmcmbdkpfcibkaaGreatDoorDvF
import Derived.Test.YtmcmbdkpfcibkaaGreatDoorLuE
import Derived.Test.YtmcmbdkpfcibkaaGreatDoorLuF
import Derived.Test.YtmcmbdkpfcibkaaGreatDoorLxE
import Derived.Test.YtmcmbdkpfcibkaaGreatDoorLuJ
set_option linter.unusedVariables false
set_option maxHeartbeats 6400000
namespace Go.Proofs.YtmcmbdkpfcibkaaGreatDoor
set_option maxRecDepth 100000
open Go.RowKit Go.WideShapes Go.Shelf
def dots:List ByteArray:=[⟨#[46,97,108,108]⟩,⟨#[46,108,97,115,116]⟩,⟨#[46]⟩,⟨#[46,97,116]⟩]
theorem dots_le:∀ x∈dots,x.size<=maxLen:=by decide
theorem txts_dots {W:World} {b:Nat} (h:W.heap[b]?=some (.cells #[vS ⟨#[46,97,108,108]⟩,vS ⟨#[46,108,97,115,116]⟩,vS ⟨#[46]⟩,vS ⟨#[46,97,116]⟩] 9)):TxtsL W (vL b 0 4 4) dots:=txts_of dots h (by decide)
theorem filter_one {A:Nat->Ph} {left pr:Ph} {N:ByteArray->Nat} {p q r:Nat} {X Pd:Ex} (h0:A 0=left) (h1:A 1=pr) (hL:RunE left N p q X) (hR:RunE pr (inL N dots) q r Pd) (hr:r + 11<=700) (hN:∀ y,N y<=100000):RunF 55 (phN 22 ⟨0,0,⟨#[]⟩⟩ ⟨#[]⟩ 0 0 0 ⟨#[]⟩ 2 A) N p (r + 11) (exFil X Pd):=by
 intro w lb tb ob sb S pb po u hB hX hP
 obtain ⟨aa,ac,a10,c10',hu,hac,_,hcm,_,hel,_⟩:=hP.v
 obtain ⟨g,o,rfl,hg,hel2⟩:=hel (by decide)
 obtain ⟨u0,hl1,hl2⟩:=hel2 0 (by decide)
 obtain ⟨ur,hr1,hr2⟩:=hel2 1 (by decide)
 rw [show o + 0 * 11=o by omega] at hl1
 rw [show o + 1 * 11=o + 11 by omega] at hr1
 rw [h0] at hl2
 rw [h1] at hr2
 have HCL:Hid (PhIn w lb sb g o left S u0):=⟨hl1,hl2,hg,hP.h⟩
 have HCR:Hid (PhIn w lb sb g (o + 11) pr S ur):=⟨hr1,hr2,hg,hP.h⟩
 have HB:=HidOf hB
 have HX:=HidOf hX
 have HL:=HidOf hL
 have HR:=HidOf hR
 have HNN:=HidOf hN
 have HLS:=HidOf hB.ls
 have hlw:=hB.ll
 have hsw:=hB.sl
 have hls:=hB.ls
 have hpw:=(hP.h pb hP.s).1
 have hgw:=(hP.h g hg).1
 have HPX:Hid (∀ W N,(∃ k,XS w lb tb ob sb N k W)->W.cell? ⟨pb,po + 9,none⟩=some (vL g o 2 ac)):=fun W N ⟨k,hW⟩=>(phAt_c (hu ▸ (hP.at hW).c)).c9
 have p9:=HPX.out w N ⟨_,hX⟩
 unfold maxLen at hcm
 clear hB hX hP hL hR hel hel2 hl1 hl2 hr1 hr2 hu hN
 go_enter Tryz.func55,Tryz.ntmps55
 go_upto_region 1 with fail
 obtain ⟨wr,hwr⟩:∃ V,V=w.alloc (.cells zA 29):=⟨_,rfl⟩
 have HX1:Hid (XS w lb tb ob sb N p wr):=by rw [hwr];exact HX.out.alloc _
 have HR1:Hid (wr.heap[w.heap.size]?=some (.cells zA 29)):=by rw [hwr];exact aNew rfl
 have hz1:wr.heap.size=w.heap.size + 1:=by rw [hwr];simp
 rw [<- hwr]
 clear hwr p9
 have p9:=HPX.out wr N ⟨_,HX1.out⟩
 have hpr:pb<wr.heap.size:=by omega
 go_upto_region 2 with (go_at_call 24;refine (HL.out.use HB.out HX1.out HCL.out).mono ?_;rintro e w1 ⟨x0_1,x1_1,x2_1,x6_1,x7_1,x8_1,y3_1,y4_1,y5_1,y9_1,b10_1,l10_1,c10_1,hx,rfl,hs,hk,hz⟩;have HX_1:=hidC hs;have HV_1:=hidC hx;have HK_1:=hidC hk;have hz_1:=hz;clear hx hs hk hz)
 obtain ⟨W2,hW2⟩:∃ V,V=w1.alloc (.cells (eA x0_1 x1_1 x2_1 y3_1 y4_1 y5_1 x6_1 x7_1 x8_1 y9_1 b10_1 l10_1 c10_1) 29):=⟨_,rfl⟩
 obtain ⟨t5,ht5⟩:∃ t,t=w1.heap.size:=⟨_,rfl⟩
 have HX2:Hid (XS w lb tb ob sb N q W2):=hidC (by rw [hW2];exact HX_1.out.alloc _)
 have HT2:Hid (W2.heap[t5]?=some (.cells (eA x0_1 x1_1 x2_1 y3_1 y4_1 y5_1 x6_1 x7_1 x8_1 y9_1 b10_1 l10_1 c10_1) 29)):=hidC (by rw [hW2,ht5];exact aNew rfl)
 have hz2:t5<W2.heap.size/\W2.heap.size<=t5 + 1:=by rw [hW2,ht5];simp
 have HR2:Hid (W2.heap[w.heap.size]?=some (.cells zA 29)):=hidC (by rw [hW2];exact (Below.heap_alloc _ _ _ (by omega)).trans ((HK_1.out _ (by omega) (by omega) (by omega)).trans HR1.out))
 have HV2:Hid (X.W W2 (fun b=>wr.heap.size<=b/\b<t5) (eL x0_1 x1_1 x2_1 y3_1 y4_1 y5_1 x6_1 x7_1 x8_1 y9_1 b10_1 l10_1 c10_1)):=hidC (by rw [hW2,ht5];exact Ex.W.keep (fun b q=>q) (fun b q=>Below.heap_alloc _ _ b q.2) HV_1.out)
 have ht5w:wr.heap.size<=t5:=by omega
 rw [<- hW2,<- ht5]
 clear hW2 ht5 HX_1 HV_1 HK_1 p9
 have p9:=HPX.out W2 N ⟨_,HX2.out⟩
 have hpr2:pb<W2.heap.size:=by omega
 go_wp2
 refine LoopN.wp 2 (LoopN.next ?_)
 obtain ⟨_,_,l2_2,_,_,_,_⟩:=bk5 HX2.out.l
 go_upto_region 6 with (go_at_call 37;refine Calls.mono (enterL (L:=dots) (HX2.out.alloc _) HLS.out ?_ dots_le (by decide) HNN.out) ?_;(· exact txts_dots (aNew rfl));rintro e w3 ⟨rfl,hs3,ht3⟩;have HX3:=hidC hs3;have HK3:Hid (∀ c,c<W2.heap.size->c≠sb->w3.heap[c]?=W2.heap[c]?):=hidC (fun c h1 h2=>(ht3.2.1 c h2).trans (Below.heap_alloc _ _ c h1));have hz3:W2.heap.size<w3.heap.size:=(by have:=ht3.1;simp at this;omega);clear hs3 ht3)
 clear p9 l2_2
 have p9:=HPX.out w3 _ ⟨_,HX3.out⟩
 have hpr3:pb<w3.heap.size:=by omega
 go_upto_region 7 with (go_at_call 24;refine (HR.out.use HB.out HX3.out HCR.out).mono ?_;rintro e w4 ⟨x0_2,x1_2,x2_2,x6_2,x7_2,x8_2,y3_2,y4_2,y5_2,y9_2,b10_2,l10_2,c10_2,hx,rfl,hs,hk,hz⟩;have HX4:=hidC hs;have HV4:=hidC hx;have HK4:=hidC hk;have hz4:=hz;clear hx hs hk hz)
 obtain ⟨W5,hW5⟩:∃ V,V=w4.alloc (.cells (eA x0_2 x1_2 x2_2 y3_2 y4_2 y5_2 x6_2 x7_2 x8_2 y9_2 b10_2 l10_2 c10_2) 29):=⟨_,rfl⟩
 obtain ⟨t7,ht7⟩:∃ t,t=w4.heap.size:=⟨_,rfl⟩
 have HX5:Hid (XS w lb tb ob sb (inL N dots) r W5):=hidC (by rw [hW5];exact HX4.out.alloc _)
 have HT5:Hid (W5.heap[t7]?=some (.cells (eA x0_2 x1_2 x2_2 y3_2 y4_2 y5_2 x6_2 x7_2 x8_2 y9_2 b10_2 l10_2 c10_2) 29)):=hidC (by rw [hW5,ht7];exact aNew rfl)
 have hz5:t7<W5.heap.size/\W5.heap.size<=t7 + 1:=by rw [hW5,ht7];simp
 have HV5:Hid (Pd.W W5 (fun b=>w3.heap.size<=b/\b<t7) (eL x0_2 x1_2 x2_2 y3_2 y4_2 y5_2 x6_2 x7_2 x8_2 y9_2 b10_2 l10_2 c10_2)):=hidC (by rw [hW5,ht7];exact Ex.W.keep (fun b q=>q) (fun b q=>Below.heap_alloc _ _ b q.2) HV4.out)
 have ht7w:w3.heap.size<=t7:=by omega
 have HK5:Hid (∀ c,c<W2.heap.size->c≠lb->c≠sb->W5.heap[c]?=W2.heap[c]?):=hidC (fun c h1 h2 h3=>by rw [hW5];exact (Below.heap_alloc _ _ c (by omega)).trans ((HK4.out c (by omega) h2 h3).trans (HK3.out c h1 h3)))
 rw [<- hW5,<- ht7]
 clear hW5 ht7 HX4 HV4 HK4 p9
 obtain ⟨_,_,l5_2,_,_,_,_⟩:=bk5 HX5.out.l
 go_upto_region 8 with (go_at_call 38;refine Calls.mono (leaveL (L:=dots) (HX5.out.alloc _) HLS.out ?_ dots_le (by decide) HNN.out) ?_;(· exact txts_dots (aNew rfl));rintro e w6 ⟨rfl,hs6,ht6⟩;have HX6:=hidC hs6;have HK6:Hid (∀ c,c<W5.heap.size->c≠sb->w6.heap[c]?=W5.heap[c]?):=hidC (fun c h1 h2=>(ht6.2.1 c h2).trans (Below.heap_alloc _ _ c h1));have hz6:W5.heap.size<w6.heap.size:=(by have:=ht6.1;simp at this;omega);clear hs6 ht6)
 have HK26:Hid (∀ c,c<W2.heap.size->c≠lb->c≠sb->w6.heap[c]?=W2.heap[c]?):=hidC (fun c h1 h2 h3=>(HK6.out c (by omega) h3).trans (HK5.out c h1 h2 h3))
 have HT6:=hidC ((HK26.out t5 (by omega) (by omega) (by omega)).trans HT2.out)
 have HT76:=hidC ((HK6.out t7 (by omega) (by omega)).trans HT5.out)
 have HR6:=hidC ((HK26.out w.heap.size (by omega) (by omega) (by omega)).trans HR2.out)
 have HS6:Hid (∀ b,((wr.heap.size<=b/\b<t5)\/(w3.heap.size<=b/\b<t7))->b<w6.heap.size/\b≠lb/\b≠sb):=hidC (fun b q=>by omega)
 have HV6:=hidC (Ex.W.keep (w':=w6) (S':=fun b=>(wr.heap.size<=b/\b<t5)\/(w3.heap.size<=b/\b<t7)) (fun b q=>.inl q) (fun b q=>HK26.out b (by omega) (by omega) (by omega)) HV2.out)
 have HV76:=hidC (Ex.W.keep (w':=w6) (S':=fun b=>(wr.heap.size<=b/\b<t5)\/(w3.heap.size<=b/\b<t7)) (fun b q=>.inr q) (fun b q=>HK6.out b (by omega) (by omega)) HV5.out)
 clear l5_2
 obtain ⟨f0,f1,f2,f3,f4,f5,f6,f7,f8,f9,f10,f11,_⟩:=bk11 HT6.out
 obtain ⟨g0,g1,g2,g3,g4,g5,g6,g7,g8,g9,g10,_,_⟩:=bk11 HT76.out
 go_upto_region 9 with (go_at_call 93;refine (filtered_X HB.out HX6.out hr HS6.out HV6.out HV76.out).mono ?_;rintro e w7 ⟨v7,rfl,⟨l7,rfl,hx7⟩,hs7,hk7,hz7⟩;obtain ⟨x0_r,x1_r,x2_r,x6_r,x7_r,x8_r,y3_r,y4_r,y5_r,y9_r,b10_r,l10_r,c10_r,rfl⟩:=hx7.form;have HX7:=hidC hs7;have HV7:=hidC hx7;have HT7:=hidC ((hk7 t5 (by omega) (by omega) (by omega)).trans HT6.out);have HR7:=hidC ((hk7 w.heap.size (by omega) (by omega) (by omega)).trans HR6.out);have hz7':=hz7;obtain ⟨z0,z1,z2,z3,z4,z5,z6,z7,z8,z9,z10,z11,z12⟩:=bk11 HT7.out;clear hs7 hx7 hk7 hz7)
 generalize hW9:World.setCell _ _ _=W9
 have hW8:W9=putL w7 t5 0 (eL x0_r x1_r x2_r y3_r y4_r y5_r x6_r x7_r x8_r y9_r b10_r l10_r c10_r):=hW9.symm
 have HZ9:Hid (W9.heap[t5]?=some (.cells (eA x0_r x1_r x2_r y3_r y4_r y5_r x6_r x7_r x8_r y9_r b10_r l10_r c10_r) 29)):=by rw [hW8];exact putL_same HT7.out _ rfl
 have HS9:Hid (XS w lb tb ob sb N (r + 11) W9):=by rw [hW8];exact HX7.out.put (by omega) hlw hsw _
 have hz9:w7.heap.size<=W9.heap.size:=by rw [hW8];exact (putL_below (B:=0) (b:=t5) (w0:=w7) (Nat.zero_le _) _ w7 0 (Below.refl _ _)).size
 have HR9:Hid (W9.heap[w.heap.size]?=some (.cells zA 29)):=by rw [hW8];exact (putL_other (by omega) _ _ _).trans HR7.out
 have HW9:Hid ((exFil X Pd).W W9 (fun b=>wr.heap.size<=b/\b<W9.heap.size/\b≠t5) (eL x0_r x1_r x2_r y3_r y4_r y5_r x6_r x7_r x8_r y9_r b10_r l10_r c10_r)):=by
  have hz9':=hz9
  rw [hW8] at hz9' ⊢
  exact Ex.W.keep (fun b q=>by omega) (fun b q=>putL_other (by omega) _ _ _) HV7.out
 clear hW9 hW8
 obtain ⟨q0,q1,q2,q3,q4,q5,q6,q7,q8,q9,q10,q11,q12⟩:=bk11 HZ9.out
 go_wp2
 refine LoopN.next ?_
 go_upto_region 10 with fail
 obtain ⟨m0,m1,m2,m3,m4,m5,m6,m7,m8,m9,m10,m11,m12⟩:=bk11 HR9.out
 go_wp2
 generalize hW10:World.setCell _ _ _=W10
 have hW11:W10=putL W9 w.heap.size 0 (eL x0_r x1_r x2_r y3_r y4_r y5_r x6_r x7_r x8_r y9_r b10_r l10_r c10_r):=hW10.symm
 have HZ10:Hid (W10.heap[w.heap.size]?=some (.cells (eA x0_r x1_r x2_r y3_r y4_r y5_r x6_r x7_r x8_r y9_r b10_r l10_r c10_r) 29)):=by rw [hW11];exact putL_same HR9.out _ rfl
 have HS10:Hid (XS w lb tb ob sb N (r + 11) W10):=by rw [hW11];exact HS9.out.put (Nat.le_refl _) hlw hsw _
 have hz10:W9.heap.size<=W10.heap.size:=by rw [hW11];exact (putL_below (B:=0) (b:=w.heap.size) (w0:=W9) (Nat.zero_le _) _ W9 0 (Below.refl _ _)).size
 have HW10:Hid ((exFil X Pd).W W10 (fun b=>w.heap.size<=b/\b<W10.heap.size) (eL x0_r x1_r x2_r y3_r y4_r y5_r x6_r x7_r x8_r y9_r b10_r l10_r c10_r)):=by
  have hz10':=hz10
  rw [hW11] at hz10' ⊢
  exact Ex.W.keep (fun b q=>by omega) (fun b q=>putL_other (by omega) _ _ _) HW9.out
 clear hW10 hW11
 obtain ⟨y0',y1',y2',y3',y4',y5',y6',y7',y8',y9',y10',_,_⟩:=bk11 HZ10.out
 exact bodyPost_ret (v:=.agg (eA x0_r x1_r x2_r y3_r y4_r y5_r x6_r x7_r x8_r y9_r b10_r l10_r c10_r)) (by simp [results,Tryz.results55,go_sem,y0',y1',y2',y3',y4',y5',y6',y7',y8',y9',y10']) rfl ⟨(eL x0_r x1_r x2_r y3_r y4_r y5_r x6_r x7_r x8_r y9_r b10_r l10_r c10_r),HW10.out,rfl,HS10.out⟩
theorem expr_filt {A:Nat->Ph} {it:It} {nm tn:ByteArray} {cn ax tk:Int} {N:ByteArray->Nat} {p q:Nat} {X:Ex} (hCA:∀ (W:World) (lb tb ob sb:Nat) (S:Nat->Prop) (pb po:Nat) (u:List Value),XB W lb tb ob sb->XS W lb tb ob sb N p W->PhIn W lb sb pb po (phN 22 it nm cn ax tk tn 2 A) S u->Calls Tryz.prog 53 #[vP lb 0,vP pb po] W fun e w'=>e=.returned (vI 0)/\Below W.heap.size W w') (h:RunF 55 (phN 22 it nm cn ax tk tn 2 A) N p q X):RunE (phN 22 it nm cn ax tk tn 2 A) N p q X:=by
 intro w lb tb ob sb S pb po u hB hX hP
 have HB:=HidOf hB
 have HX:=HidOf hX
 have HU:=HidOf hP
 have HH:=HidOf h
 have hll:=hB.ll
 have hsl:=hB.sl
 obtain ⟨aa,ac,a10,c10',hu,_⟩:=hP.v
 have hpw:=(hP.h pb hP.s).1
 have hpl:=(hP.h pb hP.s).2.1
 have CA:Hid (∀ W,XS w lb tb ob sb N p W->Calls Tryz.prog 53 #[vP lb 0,vP pb po] W fun e w'=>e=.returned (vI 0)/\Below W.heap.size W w'):=fun W hW=>hCA W lb tb ob sb S pb po u (hB.at hW) hW.here (hP.at hW)
 have HC0:Hid (∀ W,XS w lb tb ob sb N p W->W.cell? ⟨pb,po,none⟩=some (vI 22)):=fun W hW=>(phAt_c (hu ▸ (hP.at hW).c)).c0
 have hne:=hB.ls
 obtain ⟨_,_,_,_,l4,l5,l6⟩:=bk5 hX.l
 clear hB hX hP h hCA
 go_enter Tryz.func24,Tryz.ntmps24
 go_upto_region 3 with (go_at_call 53;refine (CA.out _ ?_).mono ?_;(· exact HX.out.alloc _);rintro e w1 ⟨rfl,hb1⟩;have HS0:Hid (XS w lb tb ob sb N p w1):=(HX.out.alloc _).below hb1;have HR0:Hid (w1.heap[w.heap.size]?=some (.cells zA 29)):=((hb1.block w.heap.size (by simp)).trans (heap_alloc_new _ _));obtain ⟨_,_,_,_,m4,m5,m6⟩:=bk5 HS0.out.l;clear hb1)
 obtain ⟨W1,hW1⟩:∃ W,W=w1.setCell ⟨lb,4,none⟩ (vI 0):=⟨_,rfl⟩
 have HS1:Hid (XS w lb tb ob sb N p W1):=by rw [hW1];exact HS0.out.zero hne
 have HR1:Hid (W1.heap[w.heap.size]?=some (.cells zA 29)):=by rw [hW1];exact sOth HR0.out (by omega)
 have hz1:w.heap.size<W1.heap.size:=(gI HR1.out).1
 have c0:=HC0.out W1 HS1.out
 have hpb1:pb<W1.heap.size:=by omega
 rw [<- hW1]
 clear hW1 m4 m5 m6 HS0 HR0 l4 l5
 obtain ⟨_,_,_,_,m4,m5,m6⟩:=bk5 HS1.out.l
 go_wp2_with (first
  | (go_at_call 55;refine (HH.out.use HB.out HS1.out HU.out).mono ?_;rintro e w2 ⟨x0,x1,x2,x6,x7,x8,y3,y4,y5,y9,b10,l10,c10,hx,rfl,hs,hk,hz⟩;have HS2:Hid (XS w lb tb ob sb N q w2):=hs;have HE2:Hid (X.W w2 (fun b=>w.heap.size + 1<=b/\b<w2.heap.size) (eL x0 x1 x2 y3 y4 y5 x6 x7 x8 y9 b10 l10 c10)):=Ex.W.keep (fun b q=>⟨by have:=hz1;omega,q.2⟩) (fun _ _=>rfl) hx;have HR2:Hid (w2.heap[w.heap.size]?=some (.cells zA 29)):=(hk w.heap.size hz1 (by omega) (by omega)).trans HR1.out;obtain ⟨z0,z1,z2,z3,z4,z5,z6,z7,z8,z9,z10,z11,z12⟩:=bk11 HR2.out;clear hs hx hk hz))
 generalize hW9:World.setCell _ _ _=W9
 have hW8:W9=putL w2 w.heap.size 0 (eL x0 x1 x2 y3 y4 y5 x6 x7 x8 y9 b10 l10 c10):=hW9.symm
 have HZ9:Hid (W9.heap[w.heap.size]?=some (.cells (eA x0 x1 x2 y3 y4 y5 x6 x7 x8 y9 b10 l10 c10) 29)):=by rw [hW8];exact putL_same HR2.out _ rfl
 have HS9:Hid (XS w lb tb ob sb N q W9):=by rw [hW8];exact HS2.out.put (Nat.le_refl _) hll hsl _
 have HE9:Hid (X.W W9 (fun b=>w.heap.size<=b/\b<W9.heap.size) (eL x0 x1 x2 y3 y4 y5 x6 x7 x8 y9 b10 l10 c10)):=by
  rw [hW8]
  have hz:=(putL_below (B:=0) (b:=w.heap.size) (w0:=w2) (Nat.zero_le _) (eL x0 x1 x2 y3 y4 y5 x6 x7 x8 y9 b10 l10 c10) w2 0 (Below.refl _ _)).size
  exact Ex.W.keep (fun b q=>⟨by omega,Nat.lt_of_lt_of_le q.2 hz⟩) (fun b q=>putL_other (by omega) _ _ _) HE2.out
 clear hW9 hW8
 obtain ⟨y0',y1',y2',y3',y4',y5',y6',y7',y8',y9',y10',_,_⟩:=bk11 HZ9.out
 exact bodyPost_ret (v:=.agg (eA x0 x1 x2 y3 y4 y5 x6 x7 x8 y9 b10 l10 c10)) (by simp [results,Tryz.results24,go_sem,y0',y1',y2',y3',y4',y5',y6',y7',y8',y9',y10']) rfl ⟨(eL x0 x1 x2 y3 y4 y5 x6 x7 x8 y9 b10 l10 c10),HE9.out,rfl,HS9.out⟩
theorem e_filter {left pr:Ph} {N:ByteArray->Nat} {p q r:Nat} {X Pd:Ex} (hL:RunE left N p q X) (hR:RunE pr (inL N dots) q r Pd) (hr:r + 11<=700) (hN:∀ y,N y<=100000):RunE (phN 22 ⟨0,0,⟨#[]⟩⟩ ⟨#[]⟩ 0 0 0 ⟨#[]⟩ 2 (fun i=>if i=0 then left else pr)) N p (r + 11) (exFil X Pd) :=
 expr_filt al_filt (filter_one (A:=fun i=>if i=0 then left else pr) rfl rfl hL hR hr hN)
open Go.RowKit
def LowB (B:Nat) (p:Ph) (k:Nat):Prop:=∀ (N:ByteArray->Nat) (p0:Nat),(∀ y,N y<=B)->p0 + k<=690->∃ X,RunE p N p0 (p0 + k) X
theorem low_PT {B:Nat} {p:Ph} {n:Nat} (h:PT p n):LowB B p n:=by
 induction h with
 | root=>exact fun N p0 _ h=>⟨_,e_root (by omega)⟩
 | @step p q n hp hq ih =>
  intro N p0 hN hk
  obtain ⟨X,hX⟩:=ih N p0 hN (by omega)
  obtain ⟨ax,tk,tn,rfl,⟨a1,a2⟩,⟨t1,t2⟩,hn,_⟩:=hq
  refine ⟨_,e_step (ax:=ax) (tk:=tk) (tn:=tn) (q:=p0 + n) hX ?_ (by omega) (by omega)⟩
  unfold stepF
  rw [if_pos ⟨⟨a1,a2⟩,t1,t2⟩]
theorem low_lit {B:Nat} {it:It} (hs:it.s.size<=4000) (hg:litF it=0):LowB B (ph0 1 it ⟨#[]⟩ 0 0 0 ⟨#[]⟩) 1:=fun N p0 _ h=>⟨_,e_lit it N p0 (by omega) hs hg _ _ _ _ _⟩
theorem low_true {B:Nat}:LowB B (ph0 8 ⟨0,0,⟨#[]⟩⟩ ⟨#[116,114,117,101]⟩ 0 0 0 ⟨#[]⟩) 1:=fun N p0 _ h=>⟨_,e_true (by omega)⟩
theorem low_nil {B:Nat}:LowB B (ph0 3 ⟨0,0,⟨#[]⟩⟩ ⟨#[]⟩ 0 0 0 ⟨#[]⟩) 1:=fun N p0 _ h=>⟨_,e_nil (by omega)⟩
theorem inL_le {N:ByteArray->Nat} {L:List ByteArray} {m:Nat} (h:∀ y,N y<=m):∀ y,inL N L y<=m + L.length:=fun y=>by
 have h1:=h y
 have h2:cntE L y<=L.length:=List.countP_le_length
 unfold inL
 omega
theorem low_fil {B:Nat} {p q:Ph} {k m:Nat} (hB:B<=100000) (hp:LowB B p k) (hq:LowB (B + 4) q m):LowB B (filP p q) (k + m + 11):=fun N p0 hN h=>by
 obtain ⟨X,hX⟩:=hp N p0 hN (by omega)
 obtain ⟨Y,hY⟩:=hq (inL N dots) (p0 + k) (inL_le hN) (by omega)
 have r:=e_filter hX hY (by omega) (fun y=>by have:=hN y;omega)
 rw [show p0 + (k + m + 11)=p0 + k + m + 11 by omega]
 exact ⟨_,r⟩
theorem low_bin {B:Nat} {nm y:ByteArray} {p q:Ph} {k m:Nat} (hp:LowB B p k) (hq:LowB B q m) (hn:nm.size<=maxLen) (hy:y.size<=4000) (hV:opersV nm=some (fV y 2)):LowB B (binP nm p q) (k + m + 1):=fun N p0 hN h=>by
 obtain ⟨X,hX⟩:=hp N p0 hN (by omega)
 obtain ⟨Y,hY⟩:=hq N (p0 + k) hN (by omega)
 have r:=e_bin (A:=fun i=>if i=0 then p else q) (it:=⟨0,0,⟨#[]⟩⟩) (tn:=⟨#[]⟩) (cn:=0) (ax:=0) (tk:=0) hX hY (by omega) (by omega) (by omega) hn hy hV
 rw [show p0 + (k + m + 1)=p0 + k + m + 1 by omega]
 exact ⟨_,r⟩
def NodT (s:ByteArray) (d:Nat):Prop:=∃ K p k,MdK s.data.toList K/\IsMin K p d/\LowB 90000 p k/\k<=2 * K.length + 40
def PthT (s:ByteArray):Prop:=∃ K p k,MdK s.data.toList K/\PthS K/\IsMin K p 1/\LowB 90000 p k/\k<=K.length + 1
def QuT (s:ByteArray):Prop:=∃ K p m,MdK s.data.toList K/\IsSg K p 2/\m<=3/\LowB 90004 p m
theorem qut0 {i:Nat} (hi:i<5):QuT ⟨(q0L.getD i []).toArray⟩:=by
 have hm:=md_q0 hi
 have h:i=0\/i=1\/i=2\/i=3\/i=4:=by omega
 rcases h with rfl | rfl | rfl | rfl | rfl
 · exact ⟨_,_,1,hm,sg_prim0 (prim_num 1),by decide,low_lit (it:=⟨2,1,⟨#[]⟩⟩) (by decide) (by decide +kernel)⟩
 · obtain ⟨p,k,h1,h2,h3⟩:=pth_tree (pbase_isS (i:=1) (by decide))
   exact ⟨_,p,k,hm,sg_min h1,h3,low_PT h2⟩
 · exact ⟨_,_,1,hm,sg_prim0 (prim_quo (s:=⟨#[120]⟩) (by decide)),by decide,low_lit (it:=⟨3,0,⟨#[120]⟩⟩) (by decide) (by decide +kernel)⟩
 · exact ⟨_,_,1,hm,sg_prim0 (prim_call0 (s:=⟨#[116,114,117,101]⟩) (by decide +kernel)),by decide,low_true⟩
 · exact ⟨_,_,1,hm,sg_prim0 prim_nil,by decide,low_nil⟩
theorem min_par {K:List Tok} {p:Ph} {d:Nat} (h:IsSg K p d):IsMin (mOp :: (K ++ [mCl])) p (d + 2):=st_min0 (st_plain (prim_par (ls_sg0 h)))
theorem set_min {bd:Nat} {u:Tok} {X Y:List Tok} {p q:Ph} {d:Nat} (hb:bd<8) (hb3:3<bd) (hu:opOk bd u=true) (hx:IsMin X p d) (hy:IsMin Y q d):IsMin (mOp :: ((X ++ (u :: Y)) ++ [mCl])) (binP u.s p q) (d + 3):=by
 have k:=bin_chain (L:=[(u,Y,q)]) hb (by omega) (by omega) ((min_bin hx).down (bd + 1)) (fun e he=>by rw [List.mem_singleton.1 he];exact ⟨hu,(min_bin hy).down (bd + 1)⟩)
 simp only [jt,List.append_nil] at k
 exact min_par (sg_bin (k.down 0))
theorem all_min:∃ q k,IsMin [⟨5,⟨#[47,47]⟩,0⟩,⟨5,⟨#[42]⟩,0⟩] q 1/\PT q k/\k<=3:=by
 obtain ⟨p,k,h1,h2,h3⟩:=pth_tree (pbase_isS (i:=2) (by decide))
 exact ⟨p,k,h1,h2,h3⟩
theorem set_nod {s t:ByteArray} {bd:Nat} {u:Tok} {y:ByteArray} {K:List Tok} {d:Nat} (hb:bd<8) (hb3:3<bd) (hu:opOk bd u=true) (hn:u.s.size<=maxLen) (hy:y.size<=4000) (hV:opersV u.s=some (fV y 2)) (h:NodT s d) (hd:1<=d) (hm:∀ Ks,MdK s.data.toList Ks->MdK t.data.toList (mOp :: ((Ks ++ (u :: [⟨5,⟨#[47,47]⟩,0⟩,⟨5,⟨#[42]⟩,0⟩])) ++ [mCl]))):NodT t (d + 3):=by
 obtain ⟨Ks,p,k,h1,h2,h3,h4⟩:=h
 obtain ⟨q,m,h5,h6,h7⟩:=all_min
 refine ⟨_,_,_,hm Ks h1,set_min hb hb3 hu h2 (h5.more hd),low_bin h3 (low_PT h6) hn hy hV,?_⟩
 simp only [List.length_cons,List.length_append,List.length_nil]
 omega
theorem nod_more {s:ByteArray} {d e:Nat} (h:NodT s d) (hd:d<=e):NodT s e:=by
 obtain ⟨K,p,k,h1,h2,h3,h4⟩:=h
 exact ⟨K,p,k,h1,h2.more hd,h3,h4⟩
theorem po_nod {k:PK} {dt:Bool} {d:Int} {s:ByteArray} (h:Po k dt d s):(k=.pth->dt=false->PthT s)/\(k=.flt->dt=false->d<=1->NodT s 4)/\(k=.nod->dt=false->d<=1->NodT s 7)/\(k=.que->d<=0->QuT s):=by
 induction h with
 | no_base hi =>
  refine ⟨fun _ _=>?_,fun h=>(by cases h),fun h=>(by cases h),fun h=>(by cases h)⟩
  obtain ⟨p,k,h1,h2,h3⟩:=pth_tree (pbase_isS hi)
  exact ⟨_,p,k,md_base hi,pbase_isS hi,h1,low_PT h2,h3⟩
 | @no_step dt d s i j hs hj hi ih =>
  refine ⟨fun hk hd=>?_,fun h=>(by cases h),fun h=>(by cases h),fun h=>(by cases h)⟩
  obtain ⟨Ks,_,_,ms,is,_⟩:=ih.1 hk hd
  obtain ⟨t,e,ht⟩:=psep_is hj
  obtain ⟨q,hq,hok⟩:=pstep_isS hi
  have m:=md_sep_step ms hj hi
  rw [e] at m
  have is2:=is.grow ht hq hok
  obtain ⟨p,k,h1,h2,h3⟩:=pth_tree is2
  refine ⟨Ks ++ (t :: stepK.getD i []),p,k,?_,is2,h1,low_PT h2,h3⟩
  rw [data_appQ,data_appQ]
  exact m
 | no_flt hs ih =>
  refine ⟨fun h=>(by cases h),fun _ hd _=>?_,fun h=>(by cases h),fun h=>(by cases h)⟩
  obtain ⟨K,p,k,h1,_,h2,h3,h4⟩:=ih.1 rfl hd
  exact ⟨K,p,k,h1,h2.more (by omega),h3,by omega⟩
 | no_nod hs ih=>exact ⟨fun h=>(by cases h),fun h=>(by cases h),fun _ hd h1=>nod_more (ih.2.1 rfl hd h1) (by omega),fun h=>(by cases h)⟩
 | qu_q0 hi=>exact ⟨fun h=>(by cases h),fun h=>(by cases h),fun h=>(by cases h),fun _ _=>qut0 hi⟩
 | @no_filter dt d s u hd hs hu ihs ihu =>
  refine ⟨fun h=>(by cases h),fun _ hdt h1=>?_,fun h=>(by cases h),fun h=>(by cases h)⟩
  obtain ⟨Ks,p,k,ms,_,hp,lp,kp⟩:=ihs.1 rfl hdt
  obtain ⟨Ku,q,m,mu,hq,hm3,lq⟩:=ihu.2.2.2 rfl (by omega)
  refine ⟨_,_,_,(k_no_filter ms mu).to (K':=(mOp :: (Ks ++ [mCl])) ++ (⟨5,⟨#[91]⟩,0⟩ :: (Ku ++ [⟨5,⟨#[93]⟩,0⟩]))) (by simp [mOp,mCl]),(st_min0 (st_filter (prim_par (ls_sg0 (sg_min hp))) (ls_sg0 hq))).more (by omega),low_fil (by decide) lp lq,?_⟩
  simp only [List.length_cons,List.length_append,List.length_nil]
  omega
 | @no_op0 dt d s hs ih =>
  refine ⟨fun h=>(by cases h),fun h=>(by cases h),fun _ hd h1=>?_,fun h=>(by cases h)⟩
  exact set_nod (K:=[]) (u:=⟨1,⟨#[117,110,105,111,110]⟩,0⟩) (y:=⟨#[117,110,105,111,110]⟩) (bd:=6) (by decide) (by decide) (by decide +kernel) (by decide) (by decide) (by kernel_rfl) (ih.2.1 rfl hd h1) (by decide) (fun Ks ms=>(k_no_op0 ms).to (by simp [mOp,mCl]))
 | @no_op1 dt d s hs ih =>
  refine ⟨fun h=>(by cases h),fun h=>(by cases h),fun _ hd h1=>?_,fun h=>(by cases h)⟩
  exact set_nod (K:=[]) (u:=⟨1,⟨#[105,110,116,101,114,115,101,99,116]⟩,0⟩) (y:=⟨#[105,110,116,101,114,115,101,99,116]⟩) (bd:=7) (by decide) (by decide) (by decide +kernel) (by decide) (by decide) (by kernel_rfl) (ih.2.1 rfl hd h1) (by decide) (fun Ks ms=>(k_no_op1 ms).to (by simp [mOp,mCl]))
 | @no_op2 dt d s hs ih =>
  refine ⟨fun h=>(by cases h),fun h=>(by cases h),fun _ hd h1=>?_,fun h=>(by cases h)⟩
  exact set_nod (K:=[]) (u:=⟨1,⟨#[101,120,99,101,112,116]⟩,0⟩) (y:=⟨#[101,120,99,101,112,116]⟩) (bd:=7) (by decide) (by decide) (by decide +kernel) (by decide) (by decide) (by kernel_rfl) (ih.2.1 rfl hd h1) (by decide) (fun Ks ms=>(k_no_op2 ms).to (by simp [mOp,mCl]))
 | no_dot=>exact ⟨fun _ h=>absurd h (by decide),fun h=>(by cases h),fun h=>(by cases h),fun h=>(by cases h)⟩
 | _=>refine ⟨fun h=>(by cases h),fun h=>(by cases h),fun h=>(by cases h),fun h hd=>?_⟩ <;> first | (cases h;done) | omega
open Go.RowKit Go.WideShapes Go.Shelf
def flwP (K:Int) (nm:ByteArray) (v b:Ph):Ph:=.mk 28 ⟨0,0,⟨#[]⟩⟩ ⟨#[]⟩ 0 0 0 ⟨#[]⟩ 1 (fun _=>b) 1 (fun _=>K) (fun _=>nm) (fun _=>⟨#[]⟩) (fun _=>false) (fun _=>v)
theorem al_flw {K:Int} {nm:ByteArray} {pv pc:Ph} {N:ByteArray->Nat} {p:Nat} (hs:nm.size<=maxLen) (hc:clF 1 (fun _=>K) (fun _=>nm) (fun _=>⟨#[]⟩)=0):∀ (W:World) (lb tb ob sb:Nat) (S:Nat->Prop) (pb po:Nat) (u:List Value),XB W lb tb ob sb->XS W lb tb ob sb N p W->PhIn W lb sb pb po (flwP K nm pv pc) S u->Calls Tryz.prog 53 #[vP lb 0,vP pb po] W fun e w'=>e=.returned (vI 0)/\Below W.heap.size W w':=by
 intro W lb tb ob sb S pb po u hB hX hP
 obtain ⟨aa,ac,a10,cc,hu,h1,h2,h3,h4,h5,h6⟩:=hP.v
 obtain ⟨cb,co,rfl,hS,hcl⟩:=h6 (by decide)
 obtain ⟨u',k1,k2⟩:=hcl 0 (by decide)
 have e0:=k1 0 (by simp)
 have e1:=k1 1 (by simp)
 have e2:=k1 2 (by simp)
 have h:=alone_flwor lb pb po ⟨0,0,⟨#[]⟩⟩ ⟨#[]⟩ 0 0 0 ⟨#[]⟩ aa ac cb co 1 cc (fun _=>K) (fun _=>nm) (fun _=>⟨#[]⟩) W (phAt_c (hu ▸ hP.c)) (hP.h pb hP.s).1 h2 h4 (fun i hi=>by
  obtain rfl:i=0:=by omega
  exact ⟨e0,e1,e2,hs,by decide⟩) (hP.h cb hS).1
 rw [hc] at h
 exact h
def XG (e:Bool) (w0:World) (lb tb ob sb:Nat) (N:ByteArray->Nat) (p:Nat) (W:World):Prop:=match e with | false=>XS w0 lb tb ob sb N p W | true=>XN w0 lb tb ob sb N p W
theorem XG.clo {e:Bool} {w:World} {lb tb ob sb:Nat} {N:ByteArray->Nat} {p:Nat} (hl:lb<w.heap.size) (hs:sb<w.heap.size):Clo w (XG e w lb tb ob sb N p):=by
 cases e
 · exact XS.clo hl hs
 · exact XN.clo hl hs
theorem XG.k {e:Bool} {w0 W:World} {lb tb ob sb:Nat} {N:ByteArray->Nat} {p:Nat} (h:XG e w0 lb tb ob sb N p W):w0.heap.size<=W.heap.size/\(∀ b,b<w0.heap.size->b≠lb->b≠sb->W.heap[b]?=w0.heap[b]?)/\W.cell? ⟨lb,2,none⟩=some (.map (some sb)):=by
 cases e
 · exact ⟨XS.z h,XS.k h,(bk5 (XS.l h)).2.2.1⟩
 · exact ⟨XN.z h,XN.k h,(bk5 (XN.l h)).2.2.1⟩
theorem PhIn.atG {e:Bool} {w0 W:World} {lb tb ob sb pb po:Nat} {N:ByteArray->Nat} {p:Nat} {ph:Ph} {S:Nat->Prop} {u:List Value} (h:PhIn w0 lb sb pb po ph S u) (hs:XG e w0 lb tb ob sb N p W):PhIn W lb sb pb po ph S u:=by
 cases e
 · exact PhIn.at h hs
 · exact PhIn.atN h hs
def VC (X:Ex) (cb co:Nat):VP:=fun w S v=>∃ u:List Value,v=.agg (vP cb co :: u).toArray/\X.W w S u
theorem VC.kept (X:Ex) (cb co:Nat):Kept (VC X cb co):=fun w w' S S' v h1 h2 ⟨u,e,hx⟩=>⟨u,e,hx.keep h1 h2⟩
def exZ:Ex:=exN 0 ⟨0,0,⟨#[]⟩⟩ ⟨#[]⟩ ⟨#[]⟩ 0 0 (fun _=>.no)
theorem exZ_W (w:World) (S:Nat->Prop):exZ.W w S zL:=ex_flat (k:=0) (it:=⟨0,0,⟨#[]⟩⟩) (nm:=⟨#[]⟩) (a:=⟨#[]⟩) (n:=0) (by decide) (by decide) (by decide)
theorem namesOf_let (b off:Nat) (nm a:ByteArray) (w:World) (h:ClAt w b off 2 nm a) :
 Calls Tryz.prog 97 #[vP b off] w fun e w'=>∃ n6,e=.returned (vL n6 0 1 1)/\Below w.heap.size w w'/\w.heap.size<=n6/\w'.heap[n6]?=some (.cells #[vS nm] 9):=by
 have HB:Hid (Below w.heap.size w (w.alloc (.cells #[vS nm] 9))):=(Below.refl _ _).alloc (Nat.le_refl _) _
 obtain ⟨c0,c1,c2⟩:=h
 go_enter Tryz.func97,Tryz.ntmps97
 go_wp2
 go_ret
 exact ⟨w.heap.size,rfl,HB.out,Nat.le_refl _,aNew rfl⟩
end Go.Proofs.YtmcmbdkpfcibkaaGreatDoor
