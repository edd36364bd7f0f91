import Derived.Test.YtmcmbdkpfcibkaaGreatDoorRgIn
import Derived.Test.YtmcmbdkpfcibkaaGreatDoorLuE
import Derived.Test.YtmcmbdkpfcibkaaGreatDoorLvA
import Derived.Test.YtmcmbdkpfcibkaaGreatDoorLvH
set_option linter.unusedVariables false
set_option maxHeartbeats 6400000
namespace Go.Proofs.YtmcmbdkpfcibkaaGreatDoor
set_option maxRecDepth 100000
open Go.RowKit Go.WideShapes Go.Shelf
theorem VT.txts {W:World} {S:Nat->Prop} {aa:Option Addr} {am ac:Nat} (L:List ByteArray) (h:VT L.length (L.map Value.string) W S (.slice aa am ac)) (hm:L.length<=maxLen):TxtsL W (.slice aa am ac) L:=by
 obtain ⟨g,e,_,hc⟩:=h
 injection e with e1 e2 e3
 subst e1 e2 e3
 exact txts_of L hc hm
theorem Gx.vt {g:GxP} {t:Nat} {l:Array Bool} {a:Act} {W:World} (h:Gx g t l a W) (n:Nat) (L:List Value):VT n L (W.alloc (.cells L.toArray 9)) (SX g l t (W.alloc (.cells L.toArray 9))) (vL W.heap.size 0 n n):=by
 have hz:=h.z
 exact ⟨W.heap.size,rfl,⟨.inr ⟨by omega,by simp⟩,fun e=>by have:=(h.b e).2;omega⟩,heap_alloc_new _ _⟩
theorem some_bad {A:Nat->Ph} {pv pc:Ph} {nm:ByteArray} {N:ByteArray->Nat} {p q r:Nat} {X:Ex} (h0:A 0=pv) (h1:A 1=pc) (hL:RunE pv N p q X) (hR:RunN 24 pc (inL N [nm]) q r) (hr:r + 6<=700) (hnm:nm.size<=4000) (hN:∀ y,N y<=100000):RunN 56 (phN 23 ⟨0,0,⟨#[]⟩⟩ nm 0 0 0 ⟨#[]⟩ 2 A) N p (r + 6):=by
 intro w lb tb ob sb S pb po u hB hX hP
 obtain ⟨aa,ac,a10,c10',hu,hac,_,hcm,_,hel,_⟩:=hP.v
 obtain ⟨g,o,rfl,hg,hel2⟩:=hel (by decide)
 obtain ⟨u0,hl1,hl2⟩:=hel2 0 (by decide)
 obtain ⟨ur,hr1,hr2⟩:=hel2 1 (by decide)
 rw [show o + 0 * 11=o by omega] at hl1
 rw [show o + 1 * 11=o + 11 by omega] at hr1
 rw [h0] at hl2
 rw [h1] at hr2
 have HCL:Hid (PhIn w lb sb g o pv S u0):=⟨hl1,hl2,hg,hP.h⟩
 have HCR:Hid (PhIn w lb sb g (o + 11) pc S ur):=⟨hr1,hr2,hg,hP.h⟩
 have HB:=HidOf hB
 have HX:=HidOf hX
 have HL:=HidOf hL
 have HR:=HidOf hR
 have HNN:=HidOf hN
 have HLN:Hid (∀ x ∈ [nm],x.size<=maxLen):=fun x hx=>by rw [List.mem_singleton.1 hx];exact Nat.le_trans hnm (by decide)
 have HLS:=HidOf hB.ls
 have hlw:=hB.ll
 have hsw:=hB.sl
 have hls:=hB.ls
 have hpw:=(hP.h pb hP.s).1
 have hpl:=(hP.h pb hP.s).2.1
 have hgw:=(hP.h g hg).1
 have HP9:Hid (∀ W N,(∃ k,XS w lb tb ob sb N k W)->W.cell? ⟨pb,po + 9,none⟩=some (vL g o 2 ac)):=fun W N ⟨k,hW⟩=>(phAt_c (hu ▸ (hP.at hW).c)).c9
 have HPS:Hid (∀ W,(∃ N k,XS w lb tb ob sb N k W)->W.cell? ⟨lb,2,none⟩=some (.map (some sb))/\W.cell? ⟨pb,po + 4,none⟩=some (vS nm)):=fun W ⟨N,k,hW⟩=>⟨(bk5 hW.l).2.2.1,(phAt_c (hu ▸ (hP.at hW).c)).c4⟩
 have HPN:Hid (∀ W,(∃ N k,XN w lb tb ob sb N k W)->W.cell? ⟨lb,2,none⟩=some (.map (some sb))/\W.cell? ⟨pb,po + 4,none⟩=some (vS nm)):=fun W ⟨N,k,hW⟩=>⟨(bk5 hW.l).2.2.1,(phAt_c (hu ▸ (hP.atN hW).c)).c4⟩
 have HPK:Hid (∀ W,(∃ N k,XN w lb tb ob sb N k W)->W.cell? ⟨pb,po,none⟩=some (vI 23)):=fun W ⟨N,k,hW⟩=>(phAt_c (hu ▸ (hP.atN hW).c)).c0
 have p9:=HP9.out w N ⟨_,hX⟩
 unfold maxLen at hcm
 clear hB hX hP hL hR hel hel2 hl1 hl2 hr1 hr2 hu hN
 go_enter Tryz.func56,Tryz.ntmps56
 go_upto_region 1 with fail
 obtain ⟨wr,hwr⟩:∃ V,V=w.alloc (.cells zA 29):=⟨_,rfl⟩
 have HX1:Hid (XS w lb tb ob sb N p wr):=by rw [hwr];exact HX.out.alloc _
 have HR1:Hid (wr.heap[w.heap.size]?=some (.cells zA 29)):=by rw [hwr];exact aNew rfl
 have hz1:wr.heap.size=w.heap.size + 1:=by rw [hwr];simp
 rw [<- hwr]
 clear hwr p9
 have p9:=HP9.out wr N ⟨_,HX1.out⟩
 have hpr:pb<wr.heap.size:=by omega
 go_upto_region 2 with (go_at_call 24;refine (HL.out.use HB.out HX1.out HCL.out).mono ?_;rintro e w1 ⟨x0_1,x1_1,x2_1,x6_1,x7_1,x8_1,y3_1,y4_1,y5_1,y9_1,b10_1,l10_1,c10_1,hx,rfl,hs,hk,hz⟩;have HX_1:=hidC hs;have HK_1:=hidC hk;have hz_1:=hz;clear hx hs hk hz)
 obtain ⟨W2,hW2⟩:∃ V,V=w1.alloc (.cells (eA x0_1 x1_1 x2_1 y3_1 y4_1 y5_1 x6_1 x7_1 x8_1 y9_1 b10_1 l10_1 c10_1) 29):=⟨_,rfl⟩
 obtain ⟨t5,ht5⟩:∃ t,t=w1.heap.size:=⟨_,rfl⟩
 have HX2:Hid (XS w lb tb ob sb N q W2):=hidC (by rw [hW2];exact HX_1.out.alloc _)
 have HT2:Hid (W2.heap[t5]?=some (.cells (eA x0_1 x1_1 x2_1 y3_1 y4_1 y5_1 x6_1 x7_1 x8_1 y9_1 b10_1 l10_1 c10_1) 29)):=hidC (by rw [hW2,ht5];exact aNew rfl)
 have hz2:W2.heap.size=t5 + 1:=by rw [hW2,ht5];simp
 have HR2:Hid (W2.heap[w.heap.size]?=some (.cells zA 29)):=hidC (by rw [hW2];exact (Below.heap_alloc _ _ _ (by omega)).trans ((HK_1.out _ (by omega) (by omega) (by omega)).trans HR1.out))
 have ht5w:wr.heap.size<=t5:=by omega
 rw [<- hW2,<- ht5]
 clear hW2 ht5 HX_1 HK_1 p9
 refine wp_region_slots (by kernel_rfl) (fun j v W=>match j with | 0=>v=(vP lb 0) | 1=>v=(vP lb 0) | 2=>v=(vP lb 2) | 3=>v=(.map (some sb)) | 4=>v=(vP pb po) | 5=>v=(vP pb po) | 6=>v=(vP pb (po + 4)) | 7=>v=(vS nm) | _=>True) (Gy (⟨w,W2,lb,sb,w.heap.size,fun _=>False,fun k=>XS w lb tb ob sb (if k=0 then N else inL N [nm]) q,[9],10,1000,1001,998,zA,29,VZ,[false,false,false,false,false,false,false,false,true,false],[14,15,16,17,18,19,20,21,22,23],fun i=>match i with | 8=>VT 1 [vS nm] | _=>VZ⟩:GxP)) (by kernel_rfl) (by kernel_rfl) (Gx.startB HX2.out (fun k=>XS.clo hlw hsw) (fun i=>by dsimp only;split <;> first | exact VZ.kept | exact VV.kept _ | exact VX.kept _ | exact VL.kept _ _ | exact VO.kept _ _ | exact VT.kept _ _) (VZ.kept) hlw hsw (Nat.le_refl _) (by show w.heap.size<W2.heap.size;omega) (fun _ q=>q.elim) HR2.out (by exact (by decide:(10:Nat)<=1000))) ?_ ?_
 · intro l a W i o hsz h ho hl haf
   obtain ⟨t,fx⟩:=h.more
   have hsn:l.size=10:=hsz
   have hts:a.tmps.size=62:=h.size.trans rfl
   have hi:i<10:=(gI ho).1
   obtain rfl | rfl | rfl | rfl | rfl | rfl | rfl | rfl | rfl | rfl:i=0\/i=1\/i=2\/i=3\/i=4\/i=5\/i=6\/i=7\/i=8\/i=9:=by omega
   all_goals (obtain rfl:=Option.some.inj ho;rw [if_pos (want_none rfl)])
   · have e0:=h.given 0 _ rfl (by kernel_rfl)
     refine wp_val ?_ ⟨_,rfl,rfl,fun _ _ h=>h,fx.pure rfl⟩
     unfold execOp
     simp [e0,go_sem]
   · obtain ⟨_,e14,rfl⟩:=h.new 0 _ 14 rfl rfl (haf ⟨0,.data⟩ (by simp) rfl)
     refine wp_val ?_ ⟨_,rfl,rfl,fun _ _ h=>h,fx.pure rfl⟩
     unfold execOp
     simp [e14,go_sem]
   · obtain ⟨_,e15,rfl⟩:=h.new 1 _ 15 rfl rfl (haf ⟨1,.data⟩ (by simp) rfl)
     refine wp_val ?_ ⟨_,rfl,rfl,fun _ _ h=>h,fx.pure rfl⟩
     unfold execOp
     simp [e15,go_sem]
   · obtain ⟨_,e16,rfl⟩:=h.new 2 _ 16 rfl rfl (haf ⟨2,.data⟩ (by simp) rfl)
     obtain ⟨k_,_,hp_⟩:=fx.q
     obtain ⟨d2,d4⟩:=HPS.out W ⟨_,_,hp_⟩
     refine wp_val ?_ ⟨_,rfl,rfl,fun _ _ h=>h,fx.pure rfl⟩
     unfold execOp
     simp [e16,d2,go_sem]
   · have e1:=h.given 1 _ rfl (by kernel_rfl)
     refine wp_val ?_ ⟨_,rfl,rfl,fun _ _ h=>h,fx.pure rfl⟩
     unfold execOp
     simp [e1,go_sem]
   · obtain ⟨_,e18,rfl⟩:=h.new 4 _ 18 rfl rfl (haf ⟨4,.data⟩ (by simp) rfl)
     refine wp_val ?_ ⟨_,rfl,rfl,fun _ _ h=>h,fx.pure rfl⟩
     unfold execOp
     simp [e18,go_sem]
   · obtain ⟨_,e19,rfl⟩:=h.new 5 _ 19 rfl rfl (haf ⟨5,.data⟩ (by simp) rfl)
     refine wp_val ?_ ⟨_,rfl,rfl,fun _ _ h=>h,fx.pure rfl⟩
     unfold execOp
     simp [e19,go_sem]
   · obtain ⟨_,e20,rfl⟩:=h.new 6 _ 20 rfl rfl (haf ⟨6,.data⟩ (by simp) rfl)
     obtain ⟨k_,_,hp_⟩:=fx.q
     obtain ⟨d2,d4⟩:=HPS.out W ⟨_,_,hp_⟩
     refine wp_val ?_ ⟨_,rfl,rfl,fun _ _ h=>h,fx.pure rfl⟩
     unfold execOp
     simp [e20,d4,go_sem]
   · obtain ⟨_,e21,rfl⟩:=h.new 7 _ 21 rfl rfl (haf ⟨7,.data⟩ (by simp) rfl)
     refine wp_val (v:=vL W.heap.size 0 1 1) (w':=W.alloc (.cells #[vS nm] 9)) ?_ ⟨_,rfl,trivial,fun _ _ h=>h,fx.list (i:=8) rfl rfl (by rw [hts];exact (by decide:(22:Nat)<62)) ?_⟩
     · unfold execOp
       simp [e21,go_sem]
     · exact fx.vt 1 [vS nm]
   · obtain ⟨_,e17,rfl⟩:=h.new 3 _ 17 rfl rfl (haf ⟨3,.data⟩ (by simp) rfl)
     obtain ⟨u22,e22,y22⟩:=fx.x 8 (by exact (by decide:(8:Nat)<10)) rfl (haf ⟨8,.data⟩ (by simp) rfl)
     have e22':a.tmps[22]?=some u22:=e22
     have q22:=y22
     obtain ⟨g22,rfl,hg22⟩:=y22
     have f22:a.tmps[22]?=some (vL g22 0 1 1):=e22
     obtain ⟨k,hq,hp⟩:=fx.q
     have hn:l.getD 9 false=false:=getD_ofX hl
     obtain rfl:k=0:=hq.at_ (j:=0) (by exact (by decide:(0:Nat)<1)) hn (.inl rfl)
     refine wp_enter (f:=37) (args:=#[.map (some sb),vL g22 0 1 1]) (w':=W) ?_ ((enterL hp HLS.out (VT.txts [nm] q22 (show (1:Nat)<=maxLen by decide)) HLN.out (show (1:Nat)<=1000 by decide) HNN.out).mono ?_)
     · unfold execOp
       simp [e17,f22,go_sem]
     · rintro e W' ⟨rfl,hs_,ht_⟩
       exact ⟨_,rfl,_,rfl,trivial,fun _ _ h=>h,fx.call 0 (i:=9) (s:=23) rfl rfl hsn hq hs_ (fun b _ _ h3=>ht_.2.1 b h3) (Nat.le_of_eq ht_.1.symm) (by rw [hts];exact (by decide:(23:Nat)<62)) (fun _=>trivial)⟩
 · intro v W3 hv hs hg
   obtain ⟨hXS,hzz,t',_,_,ht0,hk1,hf,hzf,_⟩:=Gy.fin rfl hg
   have ht0:t'=w.heap.size:=ht0 (by exact (by decide:(10:Nat)<=1000))
   subst ht0
   have hzz3:W2.heap.size<=W3.heap.size:=hzz
   have HX3:Hid (XS w lb tb ob sb (inL N [nm]) q W3):=hXS
   have HR3:Hid (W3.heap[w.heap.size]?=some (.cells zA 29)):=hidC (hzf (by exact (by decide:(10:Nat)<=1001)))
   have HT3:Hid (W3.heap[t5]?=some (.cells (eA x0_1 x1_1 x2_1 y3_1 y4_1 y5_1 x6_1 x7_1 x8_1 y9_1 b10_1 l10_1 c10_1) 29)):=hidC ((hk1 t5 (by show t5<W2.heap.size;omega) (by show t5≠lb;omega) (by show t5≠sb;omega) (by omega)).trans HT2.out)
   simp only [putAll,Act.put,List.setIfInBounds_toArray,List.set_cons_succ,List.set_cons_zero]
   generalize v 0=s2_0,v 1=s2_1,v 2=s2_2,v 3=s2_3,v 4=s2_4,v 5=s2_5,v 6=s2_6,v 7=s2_7,v 8=s2_8,v 9=s2_9 at *
   clear hv hs hg hf hzf hXS hk1 hzz
   have p9:=HP9.out W3 _ ⟨_,HX3.out⟩
   have hpr3:pb<W3.heap.size:=by omega
   go_upto_region 4 with (go_at_call 24;refine (HR.out.use HB.out HX3.out HCR.out).mono ?_;rintro e w4 ⟨rfl,hs4,hk4,hz4⟩;have HX4:=hidC hs4;have HK4:=hidC hk4;have hz_4:=hz4;clear hs4 hk4 hz4)
   obtain ⟨W5,hW5⟩:∃ V,V=w4.alloc (.cells zA 29):=⟨_,rfl⟩
   obtain ⟨t6,ht6⟩:∃ t,t=w4.heap.size:=⟨_,rfl⟩
   have HX5:Hid (XN w lb tb ob sb (inL N [nm]) r W5):=hidC (by rw [hW5];exact HX4.out.alloc _)
   have HT65:Hid (W5.heap[t6]?=some (.cells zA 29)):=hidC (by rw [hW5,ht6];exact aNew rfl)
   have hz5:W5.heap.size=t6 + 1:=by rw [hW5,ht6];simp
   have ht6w:W3.heap.size<=t6:=by omega
   have HR5:Hid (W5.heap[w.heap.size]?=some (.cells zA 29)):=hidC (by rw [hW5];exact (Below.heap_alloc _ _ _ (by omega)).trans ((HK4.out _ (by omega) (by omega) (by omega)).trans HR3.out))
   have HT5:Hid (W5.heap[t5]?=some (.cells (eA x0_1 x1_1 x2_1 y3_1 y4_1 y5_1 x6_1 x7_1 x8_1 y9_1 b10_1 l10_1 c10_1) 29)):=hidC (by rw [hW5];exact (Below.heap_alloc _ _ _ (by omega)).trans ((HK4.out _ (by omega) (by omega) (by omega)).trans HT3.out))
   rw [<- hW5,<- ht6]
   clear hW5 ht6 HX4 HK4 p9
   refine wp_region_slots (by kernel_rfl) (fun j v W=>match j with | 0=>v=(vP lb 0) | 1=>v=(vP lb 0) | 2=>v=(vP lb 2) | 3=>v=(.map (some sb)) | 4=>v=(vP pb po) | 5=>v=(vP pb po) | 6=>v=(vP pb (po + 4)) | 7=>v=(vS nm) | _=>True) (Gy (⟨w,W5,lb,sb,w.heap.size,fun _=>False,fun k=>XN w lb tb ob sb (if k=0 then inL N [nm] else N) r,[9],10,1000,1001,998,zA,29,VZ,[false,false,false,false,false,false,false,false,true,false],[31,32,33,34,35,36,37,38,39,40],fun i=>match i with | 8=>VT 1 [vS nm] | _=>VZ⟩:GxP)) (by kernel_rfl) (by kernel_rfl) (Gx.startB HX5.out (fun k=>XN.clo hlw hsw) (fun i=>by dsimp only;split <;> first | exact VZ.kept | exact VV.kept _ | exact VX.kept _ | exact VL.kept _ _ | exact VO.kept _ _ | exact VT.kept _ _) (VZ.kept) hlw hsw (Nat.le_refl _) (by show w.heap.size<W5.heap.size;omega) (fun _ q=>q.elim) HR5.out (by exact (by decide:(10:Nat)<=1000))) ?_ ?_
   · intro l a W i o hsz h ho hl haf
     obtain ⟨t,fx⟩:=h.more
     have hsn:l.size=10:=hsz
     have hts:a.tmps.size=62:=h.size.trans rfl
     have hi:i<10:=(gI ho).1
     obtain rfl | rfl | rfl | rfl | rfl | rfl | rfl | rfl | rfl | rfl:i=0\/i=1\/i=2\/i=3\/i=4\/i=5\/i=6\/i=7\/i=8\/i=9:=by omega
     all_goals (obtain rfl:=Option.some.inj ho;rw [if_pos (want_none rfl)])
     · have e0:=h.given 0 _ rfl (by kernel_rfl)
       refine wp_val ?_ ⟨_,rfl,rfl,fun _ _ h=>h,fx.pure rfl⟩
       unfold execOp
       simp [e0,go_sem]
     · obtain ⟨_,e31,rfl⟩:=h.new 0 _ 31 rfl rfl (haf ⟨0,.data⟩ (by simp) rfl)
       refine wp_val ?_ ⟨_,rfl,rfl,fun _ _ h=>h,fx.pure rfl⟩
       unfold execOp
       simp [e31,go_sem]
     · obtain ⟨_,e32,rfl⟩:=h.new 1 _ 32 rfl rfl (haf ⟨1,.data⟩ (by simp) rfl)
       refine wp_val ?_ ⟨_,rfl,rfl,fun _ _ h=>h,fx.pure rfl⟩
       unfold execOp
       simp [e32,go_sem]
     · obtain ⟨_,e33,rfl⟩:=h.new 2 _ 33 rfl rfl (haf ⟨2,.data⟩ (by simp) rfl)
       obtain ⟨k_,_,hp_⟩:=fx.q
       obtain ⟨d2,d4⟩:=HPN.out W ⟨_,_,hp_⟩
       refine wp_val ?_ ⟨_,rfl,rfl,fun _ _ h=>h,fx.pure rfl⟩
       unfold execOp
       simp [e33,d2,go_sem]
     · have e1:=h.given 1 _ rfl (by kernel_rfl)
       refine wp_val ?_ ⟨_,rfl,rfl,fun _ _ h=>h,fx.pure rfl⟩
       unfold execOp
       simp [e1,go_sem]
     · obtain ⟨_,e35,rfl⟩:=h.new 4 _ 35 rfl rfl (haf ⟨4,.data⟩ (by simp) rfl)
       refine wp_val ?_ ⟨_,rfl,rfl,fun _ _ h=>h,fx.pure rfl⟩
       unfold execOp
       simp [e35,go_sem]
     · obtain ⟨_,e36,rfl⟩:=h.new 5 _ 36 rfl rfl (haf ⟨5,.data⟩ (by simp) rfl)
       refine wp_val ?_ ⟨_,rfl,rfl,fun _ _ h=>h,fx.pure rfl⟩
       unfold execOp
       simp [e36,go_sem]
     · obtain ⟨_,e37,rfl⟩:=h.new 6 _ 37 rfl rfl (haf ⟨6,.data⟩ (by simp) rfl)
       obtain ⟨k_,_,hp_⟩:=fx.q
       obtain ⟨d2,d4⟩:=HPN.out W ⟨_,_,hp_⟩
       refine wp_val ?_ ⟨_,rfl,rfl,fun _ _ h=>h,fx.pure rfl⟩
       unfold execOp
       simp [e37,d4,go_sem]
     · obtain ⟨_,e38,rfl⟩:=h.new 7 _ 38 rfl rfl (haf ⟨7,.data⟩ (by simp) rfl)
       refine wp_val (v:=vL W.heap.size 0 1 1) (w':=W.alloc (.cells #[vS nm] 9)) ?_ ⟨_,rfl,trivial,fun _ _ h=>h,fx.list (i:=8) rfl rfl (by rw [hts];exact (by decide:(39:Nat)<62)) ?_⟩
       · unfold execOp
         simp [e38,go_sem]
       · exact fx.vt 1 [vS nm]
     · obtain ⟨_,e34,rfl⟩:=h.new 3 _ 34 rfl rfl (haf ⟨3,.data⟩ (by simp) rfl)
       obtain ⟨u39,e39,y39⟩:=fx.x 8 (by exact (by decide:(8:Nat)<10)) rfl (haf ⟨8,.data⟩ (by simp) rfl)
       have e39':a.tmps[39]?=some u39:=e39
       have q39:=y39
       obtain ⟨g39,rfl,hg39⟩:=y39
       have f39:a.tmps[39]?=some (vL g39 0 1 1):=e39
       obtain ⟨k,hq,hp⟩:=fx.q
       have hn:l.getD 9 false=false:=getD_ofX hl
       obtain rfl:k=0:=hq.at_ (j:=0) (by exact (by decide:(0:Nat)<1)) hn (.inl rfl)
       refine wp_enter (f:=38) (args:=#[.map (some sb),vL g39 0 1 1]) (w':=W) ?_ ((leaveLN hp HLS.out (VT.txts [nm] q39 (show (1:Nat)<=maxLen by decide)) HLN.out (show (1:Nat)<=1000 by decide) HNN.out).mono ?_)
       · unfold execOp
         simp [e34,f39,go_sem]
       · rintro e W' ⟨rfl,hs_,ht_⟩
         exact ⟨_,rfl,_,rfl,trivial,fun _ _ h=>h,fx.call 0 (i:=9) (s:=40) rfl rfl hsn hq hs_ (fun b _ _ h3=>ht_.2.1 b h3) (Nat.le_of_eq ht_.1.symm) (by rw [hts];exact (by decide:(40:Nat)<62)) (fun _=>trivial)⟩
   · intro v W7 hv hs hg
     obtain ⟨hXS,hzz,t',_,_,ht0,hk1,hf,hzf,_⟩:=Gy.fin rfl hg
     have ht0:t'=w.heap.size:=ht0 (by exact (by decide:(10:Nat)<=1000))
     subst ht0
     have hzz7:W5.heap.size<=W7.heap.size:=hzz
     have HX7:Hid (XN w lb tb ob sb N r W7):=hXS
     have HR7:Hid (W7.heap[w.heap.size]?=some (.cells zA 29)):=hidC (hzf (by exact (by decide:(10:Nat)<=1001)))
     have HT7:Hid (W7.heap[t5]?=some (.cells (eA x0_1 x1_1 x2_1 y3_1 y4_1 y5_1 x6_1 x7_1 x8_1 y9_1 b10_1 l10_1 c10_1) 29)):=hidC ((hk1 t5 (by show t5<W5.heap.size;omega) (by show t5≠lb;omega) (by show t5≠sb;omega) (by omega)).trans HT5.out)
     have HT76:Hid (W7.heap[t6]?=some (.cells zA 29)):=hidC ((hk1 t6 (by show t6<W5.heap.size;omega) (by show t6≠lb;omega) (by show t6≠sb;omega) (by omega)).trans HT65.out)
     simp only [putAll,Act.put,List.setIfInBounds_toArray,List.set_cons_succ,List.set_cons_zero]
     generalize v 0=s4_0,v 1=s4_1,v 2=s4_2,v 3=s4_3,v 4=s4_4,v 5=s4_5,v 6=s4_6,v 7=s4_7,v 8=s4_8,v 9=s4_9 at *
     clear hv hs hg hf hzf hXS hk1 hzz
     have p0:=HPK.out W7 ⟨_,_,HX7.out⟩
     have hpr7:pb<W7.heap.size:=by omega
     go_upto_region 6 with fail
     refine wp_region_slots (by kernel_rfl) (fun j v W=>match j with | 0=>v=(vP lb 0) | 1=>v=(vP pb po) | 2=>v=(vP pb po) | 3=>v=(vP pb (po + 4)) | 4=>v=(vS nm) | 5=>v=(.agg (eA x0_1 x1_1 x2_1 y3_1 y4_1 y5_1 x6_1 x7_1 x8_1 y9_1 b10_1 l10_1 c10_1)) | 6=>v=(.agg zA) | _=>True) (Gy (⟨w,W7,lb,sb,w.heap.size,fun _=>False,fun k=>XN w lb tb ob sb N (if k=0 then r else r + 6),[7],9,1000,8,998,zA,29,VV (.agg zA),[false,false,false,false,false,false,false,true,false],[46,47,48,49,50,51,52,53,999],fun i=>match i with | 7=>VV (.agg zA) | _=>VZ⟩:GxP)) (by kernel_rfl) (by kernel_rfl) (Gx.startB HX7.out (fun k=>XN.clo hlw hsw) (fun i=>by dsimp only;split <;> first | exact VZ.kept | exact VV.kept _ | exact VX.kept _ | exact VL.kept _ _ | exact VO.kept _ _ | exact VT.kept _ _) (VV.kept _) hlw hsw (Nat.le_refl _) (by show w.heap.size<W7.heap.size;omega) (fun _ q=>q.elim) HR7.out (by exact (by decide:(9:Nat)<=1000))) ?_ ?_
     · intro l a W i o hsz h ho hl haf
       obtain ⟨t,fx⟩:=h.more
       have hsn:l.size=9:=hsz
       have hts:a.tmps.size=62:=h.size.trans rfl
       have hi:i<9:=(gI ho).1
       obtain rfl | rfl | rfl | rfl | rfl | rfl | rfl | rfl | rfl:i=0\/i=1\/i=2\/i=3\/i=4\/i=5\/i=6\/i=7\/i=8:=by omega
       all_goals (obtain rfl:=Option.some.inj ho;rw [if_pos (want_none rfl)])
       · have e0:=h.given 0 _ rfl (by kernel_rfl)
         refine wp_val ?_ ⟨_,rfl,rfl,fun _ _ h=>h,fx.pure rfl⟩
         unfold execOp
         simp [e0,go_sem]
       · have e1:=h.given 1 _ rfl (by kernel_rfl)
         refine wp_val ?_ ⟨_,rfl,rfl,fun _ _ h=>h,fx.pure rfl⟩
         unfold execOp
         simp [e1,go_sem]
       · obtain ⟨_,e47,rfl⟩:=h.new 1 _ 47 rfl rfl (haf ⟨1,.data⟩ (by simp) rfl)
         refine wp_val ?_ ⟨_,rfl,rfl,fun _ _ h=>h,fx.pure rfl⟩
         unfold execOp
         simp [e47,go_sem]
       · obtain ⟨_,e48,rfl⟩:=h.new 2 _ 48 rfl rfl (haf ⟨2,.data⟩ (by simp) rfl)
         refine wp_val ?_ ⟨_,rfl,rfl,fun _ _ h=>h,fx.pure rfl⟩
         unfold execOp
         simp [e48,go_sem]
       · obtain ⟨_,e49,rfl⟩:=h.new 3 _ 49 rfl rfl (haf ⟨3,.data⟩ (by simp) rfl)
         obtain ⟨k_,_,hp_⟩:=fx.q
         obtain ⟨d2,d4⟩:=HPN.out W ⟨_,_,hp_⟩
         refine wp_val ?_ ⟨_,rfl,rfl,fun _ _ h=>h,fx.pure rfl⟩
         unfold execOp
         simp [e49,d4,go_sem]
       · have e5:=h.given 5 _ rfl (by kernel_rfl)
         have hbx:=(fx.same (c:=t5) (by show t5<W7.heap.size;omega) (by show t5≠lb;omega) (by show t5≠sb;omega) (by show t5≠w.heap.size;omega)).trans HT7.out
         obtain ⟨z0,z1,z2,z3,z4,z5,z6,z7,z8,z9,z10,z11,z12⟩:=bk11 hbx
         refine wp_val ?_ ⟨_,rfl,rfl,fun _ _ h=>h,fx.pure rfl⟩
         unfold execOp
         simp [e5,z0,z1,z2,z3,z4,z5,z6,z7,z8,z9,z10,go_sem]
       · have e6:=h.given 6 _ rfl (by kernel_rfl)
         have hbx:=(fx.same (c:=t6) (by show t6<W7.heap.size;omega) (by show t6≠lb;omega) (by show t6≠sb;omega) (by show t6≠w.heap.size;omega)).trans HT76.out
         obtain ⟨z0,z1,z2,z3,z4,z5,z6,z7,z8,z9,z10,z11,z12⟩:=bk11 hbx
         refine wp_val ?_ ⟨_,rfl,rfl,fun _ _ h=>h,fx.pure rfl⟩
         unfold execOp
         simp [e6,z0,z1,z2,z3,z4,z5,z6,z7,z8,z9,z10,go_sem]
       · obtain ⟨_,e46,rfl⟩:=h.new 0 _ 46 rfl rfl (haf ⟨0,.data⟩ (by simp) rfl)
         obtain ⟨_,e50,rfl⟩:=h.new 4 _ 50 rfl rfl (haf ⟨4,.data⟩ (by simp) rfl)
         obtain ⟨_,e51,rfl⟩:=h.new 5 _ 51 rfl rfl (haf ⟨5,.data⟩ (by simp) rfl)
         obtain ⟨_,e52,rfl⟩:=h.new 6 _ 52 rfl rfl (haf ⟨6,.data⟩ (by simp) rfl)
         obtain ⟨k,hq,hp⟩:=fx.q
         have hn:l.getD 7 false=false:=getD_ofX hl
         obtain rfl:k=0:=hq.at_ (j:=0) (by exact (by decide:(0:Nat)<1)) hn (.inl rfl)
         refine wp_enter (f:=94) (args:=#[vP lb 0,vS nm,.agg (eA x0_1 x1_1 x2_1 y3_1 y4_1 y5_1 x6_1 x7_1 x8_1 y9_1 b10_1 l10_1 c10_1),.agg zA]) (w':=W) ?_ ((someN_X HB.out hp hr nm hnm x0_1 x1_1 x2_1 x6_1 x7_1 x8_1 y3_1 y4_1 y5_1 y9_1 b10_1 l10_1 c10_1 0 0 0 0 0 0 ⟨#[]⟩ ⟨#[]⟩ ⟨#[]⟩ ⟨#[]⟩ none 0 0).mono ?_)
         · unfold execOp
           simp [e46,e50,e51,e52,go_sem]
         · rintro e W' ⟨rfl,hs_,hk_,hz_⟩
           exact ⟨_,rfl,_,rfl,trivial,fun _ _ h=>h,fx.call 0 (i:=7) (s:=53) rfl rfl hsn hq hs_ hk_ hz_ (by rw [hts];exact (by decide:(53:Nat)<62)) (fun _=>rfl)⟩
       · have e4:=h.given 4 _ rfl (by kernel_rfl)
         obtain ⟨u53,e53,y53⟩:=fx.x 7 (by exact (by decide:(7:Nat)<9)) rfl (haf ⟨7,.phase⟩ (by simp) rfl)
         have e53':a.tmps[53]?=some u53:=e53
         have y53':u53=.agg zA:=y53
         subst y53'
         have f53:a.tmps[53]?=some (.agg zA):=e53
         have hn:l.getD 8 false=false:=getD_ofX hl
         have ha:l.getD 1000 true=true:=by rw [Array.getD_eq_getD_getElem?,Array.getElem?_eq_none (by omega)];rfl
         have ht0:t=w.heap.size:=fx.t0 (by exact (by decide:(9:Nat)<=1000))
         subst ht0
         have c_:=fx.bz ha hn
         obtain ⟨z0,z1,z2,z3,z4,z5,z6,z7,z8,z9,z10,z11,z12⟩:=bk11 c_
         obtain ⟨W',hW'⟩:∃ V,V=(((((((((((W).setCell ⟨w.heap.size,0,none⟩ (vI 0)).setCell ⟨w.heap.size,1,none⟩ (vI 0)).setCell ⟨w.heap.size,2,none⟩ (vI 0)).setCell ⟨w.heap.size,3,none⟩ (vE)).setCell ⟨w.heap.size,4,none⟩ (vE)).setCell ⟨w.heap.size,5,none⟩ (vE)).setCell ⟨w.heap.size,6,none⟩ (vI 0)).setCell ⟨w.heap.size,7,none⟩ (vI 0)).setCell ⟨w.heap.size,8,none⟩ (vI 0)).setCell ⟨w.heap.size,9,none⟩ (vE)).setCell ⟨w.heap.size,10,none⟩ (vN):=⟨_,rfl⟩
         have hPL:W'=putL W (w.heap.size) 0 zL:=hW'
         refine wp_skip (w':=W') ?_ ⟨undef,rfl,trivial,fun _ _ h=>h,by rw [hPL];exact fx.store rfl hsn ha hn rfl rfl⟩
         rw [hW']
         clear hPL hW'
         unfold execOp
         simp [e4,f53,z0,z1,z2,z3,z4,z5,z6,z7,z8,z9,z10,z11,go_sem]
     · intro v W9 hv hs hg
       obtain ⟨hXS,hzz,t',_,_,ht0,hk1,hf,hzf,_⟩:=Gy.fin rfl hg
       have ht0:t'=w.heap.size:=ht0 (by exact (by decide:(9:Nat)<=1000))
       subst ht0
       obtain ⟨u',hu',el⟩:=hf (by exact (by decide:(8:Nat)<9))
       have el':u'=zL:=by injection el with el;simpa using congrArg Array.toList el
       subst el'
       have HU9:Hid (W9.heap[w.heap.size]?=some (.cells zA 29)):=hidC hu'
       have HX9:Hid (XN w lb tb ob sb N (r + 6) W9):=hXS
       simp only [putAll,Act.put,List.setIfInBounds_toArray,List.set_cons_succ,List.set_cons_zero]
       generalize v 0=s6_0,v 1=s6_1,v 2=s6_2,v 3=s6_3,v 4=s6_4,v 5=s6_5,v 6=s6_6,v 7=s6_7 at *
       clear hv hs hg hf hzf hXS hk1 hzz hu'
       obtain ⟨y0',y1',y2',y3',y4',y5',y6',y7',y8',y9',y10',_,_⟩:=bk11 HU9.out
       go_wp2
       exact bodyPost_ret (v:=.agg zA) (by simp [results,Tryz.results56,go_sem,y0',y1',y2',y3',y4',y5',y6',y7',y8',y9',y10']) rfl ⟨rfl,HX9.out⟩
theorem expr_someN {A:Nat->Ph} {it:It} {nm tn:ByteArray} {cn ax tk:Int} {N:ByteArray->Nat} {p q:Nat} (hCA:∀ (W:World) (lb tb ob sb:Nat) (S:Nat->Prop) (pb po:Nat) (u:List Value),XB W lb tb ob sb->XS W lb tb ob sb N p W->PhIn W lb sb pb po (phN 23 it nm cn ax tk tn 2 A) S u->Calls Tryz.prog 53 #[vP lb 0,vP pb po] W fun e w'=>e=.returned (vI 0)/\Below W.heap.size W w') (h:RunN 56 (phN 23 it nm cn ax tk tn 2 A) N p q):RunN 24 (phN 23 it nm cn ax tk tn 2 A) N p q:=by
 intro w lb tb ob sb S pb po u hB hX hP
 have HB:=HidOf hB
 have HX:=HidOf hX
 have HU:=HidOf hP
 have HH:=HidOf h
 have hll:=hB.ll
 have hsl:=hB.sl
 obtain ⟨aa,ac,a10,c10',hu,_⟩:=hP.v
 have hpw:=(hP.h pb hP.s).1
 have hpl:=(hP.h pb hP.s).2.1
 have CA:Hid (∀ W,XS w lb tb ob sb N p W->Calls Tryz.prog 53 #[vP lb 0,vP pb po] W fun e w'=>e=.returned (vI 0)/\Below W.heap.size W w'):=fun W hW=>hCA W lb tb ob sb S pb po u (hB.at hW) hW.here (hP.at hW)
 have HC0:Hid (∀ W,XS w lb tb ob sb N p W->W.cell? ⟨pb,po,none⟩=some (vI 23)):=fun W hW=>(phAt_c (hu ▸ (hP.at hW).c)).c0
 have hne:=hB.ls
 obtain ⟨_,_,_,_,l4,l5,l6⟩:=bk5 hX.l
 clear hB hX hP h hCA
 go_enter Tryz.func24,Tryz.ntmps24
 go_upto_region 3 with (go_at_call 53;refine (CA.out _ ?_).mono ?_;(· exact HX.out.alloc _);rintro e w1 ⟨rfl,hb1⟩;have HS0:Hid (XS w lb tb ob sb N p w1):=(HX.out.alloc _).below hb1;have HR0:Hid (w1.heap[w.heap.size]?=some (.cells zA 29)):=((hb1.block w.heap.size (by simp)).trans (heap_alloc_new _ _));obtain ⟨_,_,_,_,m4,m5,m6⟩:=bk5 HS0.out.l;clear hb1)
 obtain ⟨W1,hW1⟩:∃ W,W=w1.setCell ⟨lb,4,none⟩ (vI 0):=⟨_,rfl⟩
 have HS1:Hid (XS w lb tb ob sb N p W1):=by rw [hW1];exact HS0.out.zero hne
 have HR1:Hid (W1.heap[w.heap.size]?=some (.cells zA 29)):=by rw [hW1];exact sOth HR0.out (by omega)
 have hz1:w.heap.size<W1.heap.size:=(gI HR1.out).1
 have c0:=HC0.out W1 HS1.out
 have hpb1:pb<W1.heap.size:=by omega
 rw [<- hW1]
 clear hW1 m4 m5 m6 HS0 HR0 l4 l5
 obtain ⟨_,_,_,_,m4,m5,m6⟩:=bk5 HS1.out.l
 go_wp2_with (first
  | (go_at_call 56;refine (HH.out.use HB.out HS1.out HU.out).mono ?_;rintro e w2 ⟨rfl,hs,hk,hz⟩;have HS2:Hid (XN w lb tb ob sb N q w2):=hs;have HR2:Hid (w2.heap[w.heap.size]?=some (.cells zA 29)):=(hk w.heap.size hz1 (by omega) (by omega)).trans HR1.out;obtain ⟨z0,z1,z2,z3,z4,z5,z6,z7,z8,z9,z10,z11,z12⟩:=bk11 HR2.out;clear hs hk hz))
 generalize hW9:World.setCell _ _ _=W9
 have hW8:W9=putL w2 w.heap.size 0 zL:=hW9.symm
 have HZ9:Hid (W9.heap[w.heap.size]?=some (.cells zA 29)):=by rw [hW8];exact putL_same HR2.out _ rfl
 have HS9:Hid (XN w lb tb ob sb N q W9):=by rw [hW8];exact HS2.out.put (Nat.le_refl _) hll hsl _
 clear hW9 hW8
 obtain ⟨y0',y1',y2',y3',y4',y5',y6',y7',y8',y9',y10',_,_⟩:=bk11 HZ9.out
 exact bodyPost_ret (v:=.agg zA) (by simp [results,Tryz.results24,go_sem,y0',y1',y2',y3',y4',y5',y6',y7',y8',y9',y10']) rfl ⟨rfl,HS9.out⟩
end Go.Proofs.YtmcmbdkpfcibkaaGreatDoor
