import Derived.Test.YtmcmbdkpfcibkaaGreatDoorRgIn
import Derived.Test.YtmcmbdkpfcibkaaGreatDoorLvC
set_option linter.unusedVariables false
set_option maxHeartbeats 6400000
namespace Go.Proofs.YtmcmbdkpfcibkaaGreatDoor
set_option maxRecDepth 100000
open Go.RowKit Go.WideShapes Go.Shelf
theorem refuse_ok {w W:World} {lb tb ob sb:Nat} {N:ByteArray->Nat} {p:Nat} (hls:lb≠sb) (h:XS w lb tb ob sb N p W) :
 Calls Tryz.prog 89 #[vP lb 0,vI 0] W fun e w'=>e=.returned (.tuple #[])/\XS w lb tb ob sb N p w'/\(∀ b,b<W.heap.size->b≠lb->b≠sb->w'.heap[b]?=W.heap[b]?)/\W.heap.size<=w'.heap.size:=by
 have HX:=HidOf h
 obtain ⟨l0,l1,l2,l3,l4,l5,l6⟩:=bk5 h.l
 clear h
 go_enter Tryz.func89,Tryz.ntmps89
 go_wp2
 go_end0
 exact ⟨rfl,HX.out.zero hls,fun b _ q1 _=>Below.heap_setCell _ _ _ _ (by simpa using q1),by simp⟩
theorem low_path {A:Nat->Ph} {left:Ph} {ax tk:Int} {tn:ByteArray} {N:ByteArray->Nat} {p q:Nat} {X:Ex} (h0:A 0=left) (h1:A 1=ph0 9 ⟨0,0,⟨#[]⟩⟩ ⟨#[]⟩ 0 ax tk tn) (hL:RunE left N p q X) (hk:stepF ax tk=0) (htn:tn.size<=4000) (hq:q + 0 + 1<=700):RunF 54 (phN 21 ⟨0,0,⟨#[]⟩⟩ ⟨#[]⟩ 0 0 0 ⟨#[]⟩ 2 A) N p (q + 1) (exS ax tk tn X):=by
 intro w lb tb ob sb S pb po u hB hX hP
 obtain ⟨aa,ac,a10,c10',hu,hac,_,hcm,_,hel,_⟩:=hP.v
 obtain ⟨g,o,rfl,hg,hel2⟩:=hel (by decide)
 obtain ⟨u0,hl1,hl2⟩:=hel2 0 (by decide)
 obtain ⟨ur,hr1,hr2⟩:=hel2 1 (by decide)
 rw [show o + 0 * 11=o by omega] at hl1
 rw [show o + 1 * 11=o + 11 by omega] at hr1
 rw [h0] at hl2
 rw [h1] at hr2
 have HCL:Hid (PhIn w lb sb g o left S u0):=⟨hl1,hl2,hg,hP.h⟩
 have HCR:Hid (PhIn w lb sb g (o + 11) (ph0 9 ⟨0,0,⟨#[]⟩⟩ ⟨#[]⟩ 0 ax tk tn) S ur):=⟨hr1,hr2,hg,hP.h⟩
 have HB:=HidOf hB
 have HX:=HidOf hX
 have HL:=HidOf hL
 have HLS:=HidOf hB.ls
 have hlw:=hB.ll
 have hsw:=hB.sl
 have hpw:=(hP.h pb hP.s).1
 have hgw:=(hP.h g hg).1
 have HPX:Hid (∀ W,(∃ k,XS w lb tb ob sb N k W)->W.cell? ⟨pb,po + 9,none⟩=some (vL g o 2 ac)):=fun W ⟨k,hW⟩=>(phAt_c (hu ▸ (hP.at hW).c)).c9
 obtain ⟨ra,rc,ra10,rc10,hur,_⟩:=hr2
 have HPR:Hid (∀ W,(∃ k,XS w lb tb ob sb N k W)->W.cell? ⟨g,o + 11 + 6,none⟩=some (vI ax)/\W.cell? ⟨g,o + 11 + 7,none⟩=some (vI tk)/\W.cell? ⟨g,o + 11 + 8,none⟩=some (vS tn)):=fun W ⟨k,hW⟩=>by
  have e:=phAt_c (hur ▸ (HCR.out.at hW).c)
  exact ⟨e.c6,e.c7,e.c8⟩
 have HPQ:Hid (∀ W,(∃ k,XS w lb tb ob sb N k W)->W.cell? ⟨g,o + 11,none⟩=some (vI 9)/\W.cell? ⟨g,o + 11 + 9,none⟩=some (.slice ra 0 rc)):=fun W ⟨k,hW⟩=>by
  have e:=phAt_c (hur ▸ (HCR.out.at hW).c)
  exact ⟨e.c0,e.c9⟩
 have CS:Hid (∀ W,XS w lb tb ob sb N q W->Calls Tryz.prog 67 #[vI ax,.agg #[vI tk,vS tn]] W fun e w'=>e=.returned (vI 0)/\XS w lb tb ob sb N q w'/\(∀ b,b<W.heap.size->b≠lb->b≠sb->w'.heap[b]?=W.heap[b]?)/\W.heap.size<=w'.heap.size):=fun W hW=>by
  have h:=checkStep_is ax tk tn W
  rw [hk] at h
  exact h.mono fun e w' ⟨k1,k2⟩=>⟨k1,hW.below k2,fun b q1 _ _=>k2.block b q1,k2.size⟩
 clear hB hX hP hL hel hel2 hl1 hl2 hr1 hu hur
 go_enter Tryz.func54,Tryz.ntmps54
 go_upto_region 1 with fail
 obtain ⟨wr,hwr⟩:∃ V,V=w.alloc (.cells zA 29):=⟨_,rfl⟩
 have HX1:Hid (XS w lb tb ob sb N p wr):=by rw [hwr];exact HX.out.alloc _
 have HR1:Hid (wr.heap[w.heap.size]?=some (.cells zA 29)):=by rw [hwr];exact aNew rfl
 have hz1:wr.heap.size=w.heap.size + 1:=by rw [hwr];simp
 rw [<- hwr]
 clear hwr
 refine wp_region_slots (by kernel_rfl) (fun j v W=>match j with | 0=>v=(vP lb 0) | 1=>v=(vP pb po) | 2=>v=(vP pb po) | 3=>v=(vP pb (po + 9)) | 4=>v=(vL g o 2 ac) | 5=>v=(vP g o) | 7=>v=(vP pb po) | 8=>v=(vP pb po) | 9=>v=(vP pb (po + 9)) | 10=>v=(vL g o 2 ac) | 11=>v=(vP g (o + 11)) | 14=>v=(vP g (o + 11)) | _=>True) (Gy (⟨w,wr,lb,sb,w.heap.size,fun _=>False,fun k=>XS w lb tb ob sb N (if k=0 then p else q),[6],15,12,13,5,zA,29,VX X,[false,false,false,false,false,false,true,false,false,false,false,false,false,false,false],[8,9,10,11,12,13,14,15,16,17,18,19,5,999,6],fun i=>match i with | 6=>VX X | _=>VZ⟩:GxP)) (by kernel_rfl) (by kernel_rfl) (Gx.startA HX1.out (fun k=>XS.clo hlw hsw) (fun i=>by dsimp only;split <;> first | exact VZ.kept | exact VV.kept _ | exact VX.kept _ | exact VL.kept _ _ | exact VO.kept _ _ | exact VT.kept _ _) (VX.kept _) hlw hsw (Nat.le_refl _) (by show w.heap.size<wr.heap.size;omega) (fun _ q=>q.elim) (by exact (by decide:(12:Nat)<15))) ?_ ?_
 · intro l a W i o hsz h ho hl haf
   obtain ⟨t,fx⟩:=h.more
   have hsn:l.size=15:=hsz
   have hts:a.tmps.size=70:=h.size.trans rfl
   have hi:i<15:=(gI ho).1
   obtain rfl | rfl | rfl | rfl | rfl | rfl | rfl | rfl | rfl | rfl | rfl | rfl | rfl | rfl | rfl:i=0\/i=1\/i=2\/i=3\/i=4\/i=5\/i=6\/i=7\/i=8\/i=9\/i=10\/i=11\/i=12\/i=13\/i=14:=by omega
   all_goals (obtain rfl:=Option.some.inj ho;rw [if_pos (want_none rfl)])
   · have e0:=h.given 0 _ rfl (by kernel_rfl)
     refine wp_val ?_ ⟨_,rfl,rfl,fun _ _ h=>h,fx.pure rfl⟩
     unfold execOp
     simp [e0,go_sem]
   · have e1:=h.given 1 _ rfl (by kernel_rfl)
     refine wp_val ?_ ⟨_,rfl,rfl,fun _ _ h=>h,fx.pure rfl⟩
     unfold execOp
     simp [e1,go_sem]
   · obtain ⟨_,e9,rfl⟩:=h.new 1 _ 9 rfl rfl (haf ⟨1,.data⟩ (by simp) rfl)
     refine wp_val ?_ ⟨_,rfl,rfl,fun _ _ h=>h,fx.pure rfl⟩
     unfold execOp
     simp [e9,go_sem]
   · obtain ⟨_,e10,rfl⟩:=h.new 2 _ 10 rfl rfl (haf ⟨2,.data⟩ (by simp) rfl)
     refine wp_val ?_ ⟨_,rfl,rfl,fun _ _ h=>h,fx.pure rfl⟩
     unfold execOp
     simp [e10,go_sem]
   · obtain ⟨_,e11,rfl⟩:=h.new 3 _ 11 rfl rfl (haf ⟨3,.data⟩ (by simp) rfl)
     obtain ⟨k_,_,hp_⟩:=fx.q
     have c_:=HPX.out W ⟨_,hp_⟩
     refine wp_val ?_ ⟨_,rfl,rfl,fun _ _ h=>h,fx.pure rfl⟩
     unfold execOp
     simp [e11,c_,go_sem]
   · obtain ⟨_,e12,rfl⟩:=h.new 4 _ 12 rfl rfl (haf ⟨4,.data⟩ (by simp) rfl)
     refine wp_val ?_ ⟨_,rfl,rfl,fun _ _ h=>h,fx.pure rfl⟩
     unfold execOp
     simp [e12,go_sem]
   · obtain ⟨_,e8,rfl⟩:=h.new 0 _ 8 rfl rfl (haf ⟨0,.data⟩ (by simp) rfl)
     obtain ⟨_,e13,rfl⟩:=h.new 5 _ 13 rfl rfl (haf ⟨5,.data⟩ (by simp) rfl)
     obtain ⟨k,hq,hp⟩:=fx.q
     have hn:l.getD 6 false=false:=getD_ofX hl
     obtain rfl:k=0:=hq.at_ (j:=0) (by exact (by decide:(0:Nat)<1)) hn (.inl rfl)
     refine wp_enter (f:=24) (args:=#[vP lb 0,vP g o]) (w':=W) ?_ ((HL.out.use HB.out hp HCL.out).mono ?_)
     · unfold execOp
       simp [e8,e13,go_sem]
     · rintro e W' ⟨x0,x1,x2,x6,x7,x8,y3,y4,y5,y9,b10,l10,c10,hx_,rfl,hs_,hk_,hz_⟩
       exact ⟨_,rfl,_,rfl,trivial,fun _ _ h=>h,fx.call 0 (i:=6) (s:=14) rfl rfl hsn hq hs_ hk_ hz_ (by rw [hts];exact (by decide:(14:Nat)<70)) (fun _=>fx.fresh hz_ hx_)⟩
   · have e1:=h.given 1 _ rfl (by kernel_rfl)
     refine wp_val ?_ ⟨_,rfl,rfl,fun _ _ h=>h,fx.pure rfl⟩
     unfold execOp
     simp [e1,go_sem]
   · obtain ⟨_,e15,rfl⟩:=h.new 7 _ 15 rfl rfl (haf ⟨7,.data⟩ (by simp) rfl)
     refine wp_val ?_ ⟨_,rfl,rfl,fun _ _ h=>h,fx.pure rfl⟩
     unfold execOp
     simp [e15,go_sem]
   · obtain ⟨_,e16,rfl⟩:=h.new 8 _ 16 rfl rfl (haf ⟨8,.data⟩ (by simp) rfl)
     refine wp_val ?_ ⟨_,rfl,rfl,fun _ _ h=>h,fx.pure rfl⟩
     unfold execOp
     simp [e16,go_sem]
   · obtain ⟨_,e17,rfl⟩:=h.new 9 _ 17 rfl rfl (haf ⟨9,.data⟩ (by simp) rfl)
     obtain ⟨k_,_,hp_⟩:=fx.q
     have c_:=HPX.out W ⟨_,hp_⟩
     refine wp_val ?_ ⟨_,rfl,rfl,fun _ _ h=>h,fx.pure rfl⟩
     unfold execOp
     simp [e17,c_,go_sem]
   · obtain ⟨_,e18,rfl⟩:=h.new 10 _ 18 rfl rfl (haf ⟨10,.data⟩ (by simp) rfl)
     refine wp_val ?_ ⟨_,rfl,rfl,fun _ _ h=>h,fx.pure rfl⟩
     unfold execOp
     simp [e18,go_sem]
   · have m13:=h.later 13 12 _ ⟨12,.phase⟩ rfl (by simp) rfl rfl hl
     refine wp_val (v:=vP W.heap.size 0) (w':=W.alloc (.cells zA 29)) ?_ ⟨_,rfl,trivial,fun _ _ h=>h,fx.alloc rfl hsn (getD_ofX hl) m13 (by rw [hts];exact (by decide:(5:Nat)<70))⟩
     unfold execOp
     simp [go_sem]
   · have e5:=fx.b1 (haf ⟨12,.phase⟩ (by simp) rfl)
     have e5':a.tmps[5]?=some (vP t 0):=e5
     obtain ⟨u14,e14,y14⟩:=fx.x 6 (by exact (by decide:(6:Nat)<15)) rfl (haf ⟨6,.phase⟩ (by simp) rfl)
     have e14':a.tmps[14]?=some u14:=e14
     obtain ⟨l14,rfl,z14⟩:=y14
     obtain ⟨x0_14,x1_14,x2_14,x6_14,x7_14,x8_14,y3_14,y4_14,y5_14,y9_14,b10_14,l10_14,c10_14,rfl⟩:=z14.form
     have f14:a.tmps[14]?=some (.agg (eA x0_14 x1_14 x2_14 y3_14 y4_14 y5_14 x6_14 x7_14 x8_14 y9_14 b10_14 l10_14 c10_14)):=e14
     have hn:l.getD 13 false=false:=getD_ofX hl
     have ha:l.getD 12 true=true:=(getD_def (by omega) true).trans (haf ⟨12,.phase⟩ (by simp) rfl)
     have c_:=fx.bz ha hn
     obtain ⟨z0,z1,z2,z3,z4,z5,z6,z7,z8,z9,z10,z11,z12⟩:=bk11 c_
     obtain ⟨W',hW'⟩:∃ V,V=(((((((((((W).setCell ⟨t,0,none⟩ (vI x0_14)).setCell ⟨t,1,none⟩ (vI x1_14)).setCell ⟨t,2,none⟩ (vI x2_14)).setCell ⟨t,3,none⟩ (vS y3_14)).setCell ⟨t,4,none⟩ (vS y4_14)).setCell ⟨t,5,none⟩ (vS y5_14)).setCell ⟨t,6,none⟩ (vI x6_14)).setCell ⟨t,7,none⟩ (vI x7_14)).setCell ⟨t,8,none⟩ (vI x8_14)).setCell ⟨t,9,none⟩ (vS y9_14)).setCell ⟨t,10,none⟩ (.slice b10_14 l10_14 c10_14):=⟨_,rfl⟩
     have hPL:W'=putL W (t) 0 (eL x0_14 x1_14 x2_14 y3_14 y4_14 y5_14 x6_14 x7_14 x8_14 y9_14 b10_14 l10_14 c10_14):=hW'
     refine wp_skip (w':=W') ?_ ⟨undef,rfl,trivial,fun _ _ h=>h,by rw [hPL];exact fx.store rfl hsn ha hn rfl ⟨_,rfl,z14⟩⟩
     rw [hW']
     clear hPL hW'
     unfold execOp
     simp [e5',f14,z0,z1,z2,z3,z4,z5,z6,z7,z8,z9,z10,z11,go_sem]
   · obtain ⟨_,e19,rfl⟩:=h.new 11 _ 19 rfl rfl (haf ⟨11,.phase⟩ (by simp) rfl)
     refine wp_val ?_ ⟨_,rfl,rfl,fun _ _ h=>h,fx.pure rfl⟩
     unfold execOp
     simp [e19,go_sem]
 · intro v W1 hv hs hg
   obtain ⟨hXS,hzz,t,ht5,htd,_,hk1,hf,_⟩:=Gy.fin rfl hg
   obtain ⟨u',hu',l',el,hl'⟩:=hf (by exact (by decide:(13:Nat)<15))
   have el':u'=l':=by injection el with el;simpa using congrArg Array.toList el
   subst el'
   obtain ⟨x0,x1,x2,x6,x7,x8,y3,y4,y5,y9,b10,l10,c10,rfl⟩:=hl'.form
   have e5:v 12=vP t 0:=Option.some.inj ((hs 12 _ 5 rfl rfl).symm.trans (ht5 (by exact (by decide:(12:Nat)<15))))
   have e6:v 14=vP g (o + 11):=hv 14 _ 6 rfl rfl
   have hzz':wr.heap.size<=W1.heap.size:=hzz
   have htw:wr.heap.size<=t:=htd (by exact (by decide:(12:Nat)<15))
   have htn':t≠w.heap.size:=by omega
   have HX2:Hid (XS w lb tb ob sb N q W1):=hXS
   have HT2:=hidC hu'
   have HW2:=hidC hl'
   have HR2:Hid (W1.heap[w.heap.size]?=some (.cells zA 29)):=hidC ((hk1 w.heap.size (by show w.heap.size<wr.heap.size;omega) (by show w.heap.size≠lb;omega) (by show w.heap.size≠sb;omega) (Ne.symm htn')).trans HR1.out)
   simp only [putAll,Act.put,List.setIfInBounds_toArray,List.set_cons_succ,List.set_cons_zero]
   rw [e5,e6]
   generalize v 0=s0,v 1=s1,v 2=s2,v 3=s3,v 4=s4,v 5=s5,v 6=s6,v 7=s7,v 8=s8,v 9=s9,v 10=s10,v 11=s11 at *
   clear hv hs hg hf hl' hXS hk1 ht5 htd hzz
   obtain ⟨c0q,c9q⟩:=HPQ.out W1 ⟨_,HX2.out⟩
   go_upto_region 3 with fail
   refine wp_region_slots (by kernel_rfl) (fun j v W=>match j with | 0=>v=(vP lb 0) | 1=>v=(vP g (o + 11)) | 2=>v=(vP g (o + 11)) | 3=>v=(vP g (o + 11 + 6)) | 4=>v=(vI ax) | 5=>v=(vP g (o + 11)) | 6=>v=(vP g (o + 11)) | 7=>v=(vP g (o + 11 + 7)) | 8=>v=(.agg #[vI tk,vS tn]) | _=>True) (Gy (⟨w,W1,lb,sb,w.heap.size,fun _=>False,fun k=>XS w lb tb ob sb N q,[9,10],11,1000,1001,998,zA,29,VZ,[false,false,false,false,false,false,false,false,false,true,false],[33,34,35,36,37,38,39,40,41,42,43],fun i=>match i with | 9=>VV (vI 0) | _=>VZ⟩:GxP)) (by kernel_rfl) (by kernel_rfl) (Gx.startB HX2.out (fun k=>XS.clo hlw hsw) (fun i=>by dsimp only;split <;> first | exact VZ.kept | exact VV.kept _ | exact VX.kept _ | exact VL.kept _ _ | exact VO.kept _ _ | exact VT.kept _ _) (VZ.kept) hlw hsw (Nat.le_refl _) (by show w.heap.size<W1.heap.size;omega) (fun _ q=>q.elim) HR2.out (by exact (by decide:(11:Nat)<=1000))) ?_ ?_
   · intro l a W i o hsz h ho hl haf
     obtain ⟨t,fx⟩:=h.more
     have hsn:l.size=11:=hsz
     have hts:a.tmps.size=70:=h.size.trans rfl
     have hi:i<11:=(gI ho).1
     obtain rfl | rfl | rfl | rfl | rfl | rfl | rfl | rfl | rfl | rfl | rfl:i=0\/i=1\/i=2\/i=3\/i=4\/i=5\/i=6\/i=7\/i=8\/i=9\/i=10:=by omega
     all_goals (obtain rfl:=Option.some.inj ho;rw [if_pos (want_none rfl)])
     · have e0:=h.given 0 _ rfl (by kernel_rfl)
       refine wp_val ?_ ⟨_,rfl,rfl,fun _ _ h=>h,fx.pure rfl⟩
       unfold execOp
       simp [e0,go_sem]
     · have e6:=h.given 6 _ rfl (by kernel_rfl)
       refine wp_val ?_ ⟨_,rfl,rfl,fun _ _ h=>h,fx.pure rfl⟩
       unfold execOp
       simp [e6,go_sem]
     · obtain ⟨_,e34,rfl⟩:=h.new 1 _ 34 rfl rfl (haf ⟨1,.data⟩ (by simp) rfl)
       refine wp_val ?_ ⟨_,rfl,rfl,fun _ _ h=>h,fx.pure rfl⟩
       unfold execOp
       simp [e34,go_sem]
     · obtain ⟨_,e35,rfl⟩:=h.new 2 _ 35 rfl rfl (haf ⟨2,.data⟩ (by simp) rfl)
       refine wp_val ?_ ⟨_,rfl,rfl,fun _ _ h=>h,fx.pure rfl⟩
       unfold execOp
       simp [e35,go_sem]
     · obtain ⟨_,e36,rfl⟩:=h.new 3 _ 36 rfl rfl (haf ⟨3,.data⟩ (by simp) rfl)
       obtain ⟨k_,_,hp_⟩:=fx.q
       obtain ⟨c6,c7,c8⟩:=HPR.out W ⟨_,hp_⟩
       refine wp_val ?_ ⟨_,rfl,rfl,fun _ _ h=>h,fx.pure rfl⟩
       unfold execOp
       simp [e36,c6,go_sem]
     · have e6:=h.given 6 _ rfl (by kernel_rfl)
       refine wp_val ?_ ⟨_,rfl,rfl,fun _ _ h=>h,fx.pure rfl⟩
       unfold execOp
       simp [e6,go_sem]
     · obtain ⟨_,e38,rfl⟩:=h.new 5 _ 38 rfl rfl (haf ⟨5,.data⟩ (by simp) rfl)
       refine wp_val ?_ ⟨_,rfl,rfl,fun _ _ h=>h,fx.pure rfl⟩
       unfold execOp
       simp [e38,go_sem]
     · obtain ⟨_,e39,rfl⟩:=h.new 6 _ 39 rfl rfl (haf ⟨6,.data⟩ (by simp) rfl)
       refine wp_val ?_ ⟨_,rfl,rfl,fun _ _ h=>h,fx.pure rfl⟩
       unfold execOp
       simp [e39,go_sem]
     · obtain ⟨_,e40,rfl⟩:=h.new 7 _ 40 rfl rfl (haf ⟨7,.data⟩ (by simp) rfl)
       obtain ⟨k_,_,hp_⟩:=fx.q
       obtain ⟨c6,c7,c8⟩:=HPR.out W ⟨_,hp_⟩
       refine wp_val ?_ ⟨_,rfl,rfl,fun _ _ h=>h,fx.pure rfl⟩
       unfold execOp
       simp [e40,c7,c8,go_sem]
     · obtain ⟨_,e37,rfl⟩:=h.new 4 _ 37 rfl rfl (haf ⟨4,.data⟩ (by simp) rfl)
       obtain ⟨_,e41,rfl⟩:=h.new 8 _ 41 rfl rfl (haf ⟨8,.data⟩ (by simp) rfl)
       obtain ⟨k,hq,hp⟩:=fx.q
       have hn:l.getD 9 false=false:=getD_ofX hl
       obtain rfl:k=0:=hq.at_ (j:=0) (by exact (by decide:(0:Nat)<2)) hn (.inl rfl)
       refine wp_enter (f:=67) (args:=#[vI ax,.agg #[vI tk,vS tn]]) (w':=W) ?_ ((CS.out W hp).mono ?_)
       · unfold execOp
         simp [e37,e41,go_sem]
       · rintro e W' ⟨rfl,hs_,hk_,hz_⟩
         exact ⟨_,rfl,_,rfl,trivial,fun _ _ h=>h,fx.call 0 (i:=9) (s:=42) rfl rfl hsn hq hs_ hk_ hz_ (by rw [hts];exact (by decide:(42:Nat)<70)) (fun _=>rfl)⟩
     · obtain ⟨_,e33,rfl⟩:=h.new 0 _ 33 rfl rfl (haf ⟨0,.data⟩ (by simp) rfl)
       obtain ⟨u42,e42,y42⟩:=fx.x 9 (by exact (by decide:(9:Nat)<11)) rfl (haf ⟨9,.chain⟩ (by simp) rfl)
       have e42':a.tmps[42]?=some u42:=e42
       have y42':u42=vI 0:=y42
       subst y42'
       have f42:a.tmps[42]?=some (vI 0):=e42
       obtain ⟨k,hq,hp⟩:=fx.q
       have hn:l.getD 10 false=false:=getD_ofX hl
       obtain rfl:k=1:=hq.at_ (j:=1) (by exact (by decide:(1:Nat)<2)) hn (.inr (haf ⟨9,.chain⟩ (by simp) rfl))
       refine wp_enter (f:=89) (args:=#[vP lb 0,vI 0]) (w':=W) ?_ ((refuse_ok HLS.out hp).mono ?_)
       · unfold execOp
         simp [e33,f42,go_sem]
       · rintro e W' ⟨rfl,hs_,hk_,hz_⟩
         exact ⟨_,rfl,_,rfl,trivial,fun _ _ h=>h,fx.call 1 (i:=10) (s:=43) rfl rfl hsn hq hs_ hk_ hz_ (by rw [hts];exact (by decide:(43:Nat)<70)) (fun _=>trivial)⟩
   · intro v W2 hv hs hg
     obtain ⟨hXS,hzz2,t',_,_,ht0,hk2,_,hzf,_⟩:=Gy.fin rfl hg
     have hzf:=hzf (by exact (by decide:(11:Nat)<=1001))
     obtain ht0:=ht0 (by exact (by decide:(11:Nat)<=1000))
     subst ht0
     have hzz2':W1.heap.size<=W2.heap.size:=hzz2
     have HK2:Hid (∀ c,c<W1.heap.size->c≠lb->c≠sb->c≠w.heap.size->W2.heap[c]?=W1.heap[c]?):=hk2
     have HX3:Hid (XS w lb tb ob sb N q W2):=hXS
     have htl:t<W1.heap.size:=(gI HT2.out).1
     have HT3:=hidC ((HK2.out t htl (by omega) (by omega) htn').trans HT2.out)
     have HR3:Hid (W2.heap[w.heap.size]?=some (.cells zA 29)):=hidC hzf
     have hS3:∀ b,(wr.heap.size<=b/\b<W1.heap.size/\b≠t)->b<W2.heap.size/\b≠lb/\b≠sb:=fun b q=>by omega
     have HW3:=hidC (Ex.W.keep (w':=W2) (S':=fun b=>wr.heap.size<=b/\b<W1.heap.size/\b≠t) (fun b q=>by rcases q.1 with q1 | q1;(· exact q1.elim);(· exact ⟨q1.1,q1.2,q.2⟩)) (fun b q=>by rcases q.1 with q1 | q1;(· exact q1.elim);(· have q3:wr.heap.size<=b:=q1.1;exact HK2.out b q1.2 (by omega) (by omega) (by omega))) HW2.out)
     have e10:v 10=.tuple #[]\/True:=.inr trivial
     simp only [putAll,Act.put,List.setIfInBounds_toArray,List.set_cons_succ,List.set_cons_zero]
     generalize v 0=r0,v 1=r1,v 2=r2,v 3=r3,v 4=r4,v 5=r5,v 6=r6,v 7=r7,v 8=r8,v 9=r9,v 10=r10 at *
     clear hv hs hg hXS hk2 hzz2 hzf
     obtain ⟨t0,t1,t2,t3,t4,t5,t6,t7,t8,t9,t10,t11,_⟩:=bk11 HT3.out
     go_wp2_with (go_at_call 90;refine (lstep_is hq htn HB.out HX3.out HCR.out hS3 HW3.out).mono ?_;rintro e W3 ⟨v3,hx3,rfl,hs3,hk3,hz3⟩;obtain ⟨X0,X1,X2,X6,X7,X8,Y3,Y4,Y5,Y9,B10,L10,C10,rfl⟩:=hx3.form;have HX4:Hid (XS w lb tb ob sb N (q + 1) W3):=hs3;have HW4:=hidC hx3;have HR4:=hidC ((hk3 w.heap.size (by omega) (by omega) (by omega)).trans HR3.out);have hz3':=hz3;obtain ⟨z0,z1,z2,z3,z4,z5,z6,z7,z8,z9,z10,z11,z12⟩:=bk11 HR4.out;clear hx3 hs3 hk3)
     generalize hW9:World.setCell _ _ _=W9
     have hW8:W9=putL W3 w.heap.size 0 (eL X0 X1 X2 Y3 Y4 Y5 X6 X7 X8 Y9 B10 L10 C10):=hW9.symm
     have HZ9:Hid (W9.heap[w.heap.size]?=some (.cells (eA X0 X1 X2 Y3 Y4 Y5 X6 X7 X8 Y9 B10 L10 C10) 29)):=by rw [hW8];exact putL_same HR4.out _ rfl
     have HS9:Hid (XS w lb tb ob sb N (q + 1) W9):=by rw [hW8];exact HX4.out.put (Nat.le_refl _) hlw hsw _
     have HW9:Hid ((exS ax tk tn X).W W9 (fun b=>w.heap.size<=b/\b<W9.heap.size) (eL X0 X1 X2 Y3 Y4 Y5 X6 X7 X8 Y9 B10 L10 C10)):=by
      rw [hW8]
      have hz:=(putL_below (B:=0) (b:=w.heap.size) (w0:=W3) (Nat.zero_le _) (eL X0 X1 X2 Y3 Y4 Y5 X6 X7 X8 Y9 B10 L10 C10) W3 0 (Below.refl _ _)).size
      exact Ex.W.keep (fun b q=>by rcases q with q | q;(· exact ⟨by omega,by omega⟩);(· exact ⟨by omega,by omega⟩)) (fun b q=>putL_other (by rcases q with q | q;(· omega);(· omega)) _ _ _) HW4.out
     clear hW9 hW8
     obtain ⟨y0',y1',y2',y3',y4',y5',y6',y7',y8',y9',y10',_,_⟩:=bk11 HZ9.out
     exact bodyPost_ret (v:=.agg (eA X0 X1 X2 Y3 Y4 Y5 X6 X7 X8 Y9 B10 L10 C10)) (by simp [results,Tryz.results54,go_sem,y0',y1',y2',y3',y4',y5',y6',y7',y8',y9',y10']) rfl ⟨(eL X0 X1 X2 Y3 Y4 Y5 X6 X7 X8 Y9 B10 L10 C10),HW9.out,rfl,HS9.out⟩
theorem expr_path {A:Nat->Ph} {it:It} {nm tn:ByteArray} {cn ax tk:Int} {N:ByteArray->Nat} {p q:Nat} {X:Ex} (hCA:∀ (W:World) (lb tb ob sb:Nat) (S:Nat->Prop) (pb po:Nat) (u:List Value),XB W lb tb ob sb->XS W lb tb ob sb N p W->PhIn W lb sb pb po (phN 21 it nm cn ax tk tn 2 A) S u->Calls Tryz.prog 53 #[vP lb 0,vP pb po] W fun e w'=>e=.returned (vI 0)/\Below W.heap.size W w') (h:RunF 54 (phN 21 it nm cn ax tk tn 2 A) N p q X):RunE (phN 21 it nm cn ax tk tn 2 A) N p q X:=by
 intro w lb tb ob sb S pb po u hB hX hP
 have HB:=HidOf hB
 have HX:=HidOf hX
 have HU:=HidOf hP
 have HH:=HidOf h
 have hll:=hB.ll
 have hsl:=hB.sl
 obtain ⟨aa,ac,a10,c10',hu,_⟩:=hP.v
 have hpw:=(hP.h pb hP.s).1
 have hpl:=(hP.h pb hP.s).2.1
 have CA:Hid (∀ W,XS w lb tb ob sb N p W->Calls Tryz.prog 53 #[vP lb 0,vP pb po] W fun e w'=>e=.returned (vI 0)/\Below W.heap.size W w'):=fun W hW=>hCA W lb tb ob sb S pb po u (hB.at hW) hW.here (hP.at hW)
 have HC0:Hid (∀ W,XS w lb tb ob sb N p W->W.cell? ⟨pb,po,none⟩=some (vI 21)):=fun W hW=>(phAt_c (hu ▸ (hP.at hW).c)).c0
 have hne:=hB.ls
 obtain ⟨_,_,_,_,l4,l5,l6⟩:=bk5 hX.l
 clear hB hX hP h hCA
 go_enter Tryz.func24,Tryz.ntmps24
 go_upto_region 3 with (go_at_call 53;refine (CA.out _ ?_).mono ?_;(· exact HX.out.alloc _);rintro e w1 ⟨rfl,hb1⟩;have HS0:Hid (XS w lb tb ob sb N p w1):=(HX.out.alloc _).below hb1;have HR0:Hid (w1.heap[w.heap.size]?=some (.cells zA 29)):=((hb1.block w.heap.size (by simp)).trans (heap_alloc_new _ _));obtain ⟨_,_,_,_,m4,m5,m6⟩:=bk5 HS0.out.l;clear hb1)
 obtain ⟨W1,hW1⟩:∃ W,W=w1.setCell ⟨lb,4,none⟩ (vI 0):=⟨_,rfl⟩
 have HS1:Hid (XS w lb tb ob sb N p W1):=by rw [hW1];exact HS0.out.zero hne
 have HR1:Hid (W1.heap[w.heap.size]?=some (.cells zA 29)):=by rw [hW1];exact sOth HR0.out (by omega)
 have hz1:w.heap.size<W1.heap.size:=(gI HR1.out).1
 have c0:=HC0.out W1 HS1.out
 have hpb1:pb<W1.heap.size:=by omega
 rw [<- hW1]
 clear hW1 m4 m5 m6 HS0 HR0 l4 l5
 obtain ⟨_,_,_,_,m4,m5,m6⟩:=bk5 HS1.out.l
 go_wp2_with (first
  | (go_at_call 54;refine (HH.out.use HB.out HS1.out HU.out).mono ?_;rintro e w2 ⟨x0,x1,x2,x6,x7,x8,y3,y4,y5,y9,b10,l10,c10,hx,rfl,hs,hk,hz⟩;have HS2:Hid (XS w lb tb ob sb N q w2):=hs;have HE2:Hid (X.W w2 (fun b=>w.heap.size + 1<=b/\b<w2.heap.size) (eL x0 x1 x2 y3 y4 y5 x6 x7 x8 y9 b10 l10 c10)):=Ex.W.keep (fun b q=>⟨by have:=hz1;omega,q.2⟩) (fun _ _=>rfl) hx;have HR2:Hid (w2.heap[w.heap.size]?=some (.cells zA 29)):=(hk w.heap.size hz1 (by omega) (by omega)).trans HR1.out;obtain ⟨z0,z1,z2,z3,z4,z5,z6,z7,z8,z9,z10,z11,z12⟩:=bk11 HR2.out;clear hs hx hk hz))
 generalize hW9:World.setCell _ _ _=W9
 have hW8:W9=putL w2 w.heap.size 0 (eL x0 x1 x2 y3 y4 y5 x6 x7 x8 y9 b10 l10 c10):=hW9.symm
 have HZ9:Hid (W9.heap[w.heap.size]?=some (.cells (eA x0 x1 x2 y3 y4 y5 x6 x7 x8 y9 b10 l10 c10) 29)):=by rw [hW8];exact putL_same HR2.out _ rfl
 have HS9:Hid (XS w lb tb ob sb N q W9):=by rw [hW8];exact HS2.out.put (Nat.le_refl _) hll hsl _
 have HE9:Hid (X.W W9 (fun b=>w.heap.size<=b/\b<W9.heap.size) (eL x0 x1 x2 y3 y4 y5 x6 x7 x8 y9 b10 l10 c10)):=by
  rw [hW8]
  have hz:=(putL_below (B:=0) (b:=w.heap.size) (w0:=w2) (Nat.zero_le _) (eL x0 x1 x2 y3 y4 y5 x6 x7 x8 y9 b10 l10 c10) w2 0 (Below.refl _ _)).size
  exact Ex.W.keep (fun b q=>⟨by omega,Nat.lt_of_lt_of_le q.2 hz⟩) (fun b q=>putL_other (by omega) _ _ _) HE2.out
 clear hW9 hW8
 obtain ⟨y0',y1',y2',y3',y4',y5',y6',y7',y8',y9',y10',_,_⟩:=bk11 HZ9.out
 exact bodyPost_ret (v:=.agg (eA x0 x1 x2 y3 y4 y5 x6 x7 x8 y9 b10 l10 c10)) (by simp [results,Tryz.results24,go_sem,y0',y1',y2',y3',y4',y5',y6',y7',y8',y9',y10']) rfl ⟨(eL x0 x1 x2 y3 y4 y5 x6 x7 x8 y9 b10 l10 c10),HE9.out,rfl,HS9.out⟩
theorem e_step {left:Ph} {ax tk:Int} {tn:ByteArray} {N:ByteArray->Nat} {p q:Nat} {X:Ex} (hL:RunE left N p q X) (hk:stepF ax tk=0) (htn:tn.size<=4000) (hq:q + 1<=700):RunE (pathP left (ph0 9 ⟨0,0,⟨#[]⟩⟩ ⟨#[]⟩ 0 ax tk tn)) N p (q + 1) (exS ax tk tn X) :=
 expr_path al_path (low_path (A:=fun i=>if i=0 then left else ph0 9 ⟨0,0,⟨#[]⟩⟩ ⟨#[]⟩ 0 ax tk tn) rfl rfl hL hk htn hq)
theorem leaf_root {it:It} {nm tn:ByteArray} {cn ax tk:Int} {N:ByteArray->Nat} {p:Nat} (hp:p + 1<=700):RunF 59 (ph0 11 it nm cn ax tk tn) N p (p + 1) (exN 11 ⟨0,0,⟨#[]⟩⟩ ⟨#[]⟩ ⟨#[]⟩ 0 0 (fun _=>.no)):=by
 intro w lb tb ob sb S pb po u hB hX hP
 have HX:=HidOf hX
 have HLS:=HidOf hB.ls
 have hlw:=hB.ll
 have hsw:=hB.sl
 obtain ⟨aa,ac,a10,c10',hu,_⟩:=hP.v
 have e0:=(phAt_c (hu ▸ hP.c)).c0
 have hpw:=(hP.h pb hP.s).1
 clear hP hB hX
 go_enter Tryz.func59,Tryz.ntmps59
 go_upto_region 10 with fail
 obtain ⟨W1,hW1⟩:∃ W,W=w.alloc (.cells zA 29):=⟨_,rfl⟩
 have HS1:Hid (XS w lb tb ob sb N p W1):=by rw [hW1];exact HX.out.alloc _
 have HR1:Hid (W1.heap[w.heap.size]?=some (.cells zA 29)):=by rw [hW1];exact aNew rfl
 have hz1:w.heap.size<W1.heap.size:=(gI HR1.out).1
 rw [<- hW1]
 clear hW1 e0
 go_wp2_with (go_at_call 101;refine (made_X HLS.out HS1.out hp 11 ⟨0,0,⟨#[]⟩⟩ ⟨#[]⟩ ⟨#[]⟩ 0 0 0 ⟨#[]⟩ none 0 0 none 0 0 (by decide) (by decide) (by decide) (by decide)).mono ?_;rintro e w2 ⟨rfl,hs,hk,hz⟩;have HS2:=hidC hs;have HR2:=hidC ((hk w.heap.size hz1 (by omega) (by omega)).trans HR1.out);obtain ⟨z0,z1,z2,z3,z4,z5,z6,z7,z8,z9,z10,z11,z12⟩:=bk11 HR2.out;clear hs hk hz)
 generalize hW9:World.setCell _ _ _=W9
 have hW8:W9=putL w2 w.heap.size 0 (eL 11 0 0 ⟨#[]⟩ ⟨#[]⟩ ⟨#[]⟩ 0 0 0 ⟨#[]⟩ none 0 0):=hW9.symm
 have HZ9:Hid (W9.heap[w.heap.size]?=some (.cells (eA 11 0 0 ⟨#[]⟩ ⟨#[]⟩ ⟨#[]⟩ 0 0 0 ⟨#[]⟩ none 0 0) 29)):=by rw [hW8];exact putL_same HR2.out _ rfl
 have HS9:Hid (XS w lb tb ob sb N (p + 1) W9):=by rw [hW8];exact HS2.out.put (Nat.le_refl _) hlw hsw _
 clear hW9 hW8
 obtain ⟨y0',y1',y2',y3',y4',y5',y6',y7',y8',y9',y10',_,_⟩:=bk11 HZ9.out
 exact bodyPost_ret (v:=.agg (eA 11 0 0 ⟨#[]⟩ ⟨#[]⟩ ⟨#[]⟩ 0 0 0 ⟨#[]⟩ none 0 0)) (by simp [results,Tryz.results59,go_sem,y0',y1',y2',y3',y4',y5',y6',y7',y8',y9',y10']) rfl ⟨(eL 11 0 0 ⟨#[]⟩ ⟨#[]⟩ ⟨#[]⟩ 0 0 0 ⟨#[]⟩ none 0 0),⟨none,0,rfl,⟨by decide,by decide,by decide⟩,Nat.le_refl _,by decide,fun h=>absurd h (by decide)⟩,rfl,HS9.out⟩
theorem expr_root {it:It} {nm tn:ByteArray} {cn ax tk:Int} {N:ByteArray->Nat} {p q:Nat} {X:Ex} (hCA:∀ (W:World) (lb tb ob sb:Nat) (S:Nat->Prop) (pb po:Nat) (u:List Value),XB W lb tb ob sb->XS W lb tb ob sb N p W->PhIn W lb sb pb po (ph0 11 it nm cn ax tk tn) S u->Calls Tryz.prog 53 #[vP lb 0,vP pb po] W fun e w'=>e=.returned (vI 0)/\Below W.heap.size W w') (h:RunF 59 (ph0 11 it nm cn ax tk tn) N p q X):RunE (ph0 11 it nm cn ax tk tn) N p q X:=by
 intro w lb tb ob sb S pb po u hB hX hP
 have HB:=HidOf hB
 have HX:=HidOf hX
 have HU:=HidOf hP
 have HH:=HidOf h
 have hll:=hB.ll
 have hsl:=hB.sl
 obtain ⟨aa,ac,a10,c10',hu,_⟩:=hP.v
 have hpw:=(hP.h pb hP.s).1
 have hpl:=(hP.h pb hP.s).2.1
 have CA:Hid (∀ W,XS w lb tb ob sb N p W->Calls Tryz.prog 53 #[vP lb 0,vP pb po] W fun e w'=>e=.returned (vI 0)/\Below W.heap.size W w'):=fun W hW=>hCA W lb tb ob sb S pb po u (hB.at hW) hW.here (hP.at hW)
 have HC0:Hid (∀ W,XS w lb tb ob sb N p W->W.cell? ⟨pb,po,none⟩=some (vI 11)):=fun W hW=>(phAt_c (hu ▸ (hP.at hW).c)).c0
 have hne:=hB.ls
 obtain ⟨_,_,_,_,l4,l5,l6⟩:=bk5 hX.l
 clear hB hX hP h hCA
 go_enter Tryz.func24,Tryz.ntmps24
 go_upto_region 3 with (go_at_call 53;refine (CA.out _ ?_).mono ?_;(· exact HX.out.alloc _);rintro e w1 ⟨rfl,hb1⟩;have HS0:Hid (XS w lb tb ob sb N p w1):=(HX.out.alloc _).below hb1;have HR0:Hid (w1.heap[w.heap.size]?=some (.cells zA 29)):=((hb1.block w.heap.size (by simp)).trans (heap_alloc_new _ _));obtain ⟨_,_,_,_,m4,m5,m6⟩:=bk5 HS0.out.l;clear hb1)
 obtain ⟨W1,hW1⟩:∃ W,W=w1.setCell ⟨lb,4,none⟩ (vI 0):=⟨_,rfl⟩
 have HS1:Hid (XS w lb tb ob sb N p W1):=by rw [hW1];exact HS0.out.zero hne
 have HR1:Hid (W1.heap[w.heap.size]?=some (.cells zA 29)):=by rw [hW1];exact sOth HR0.out (by omega)
 have hz1:w.heap.size<W1.heap.size:=(gI HR1.out).1
 have c0:=HC0.out W1 HS1.out
 have hpb1:pb<W1.heap.size:=by omega
 rw [<- hW1]
 clear hW1 m4 m5 m6 HS0 HR0 l4 l5
 obtain ⟨_,_,_,_,m4,m5,m6⟩:=bk5 HS1.out.l
 go_wp2_with (first
  | (go_at_call 59;refine (HH.out.use HB.out HS1.out HU.out).mono ?_;rintro e w2 ⟨x0,x1,x2,x6,x7,x8,y3,y4,y5,y9,b10,l10,c10,hx,rfl,hs,hk,hz⟩;have HS2:Hid (XS w lb tb ob sb N q w2):=hs;have HE2:Hid (X.W w2 (fun b=>w.heap.size + 1<=b/\b<w2.heap.size) (eL x0 x1 x2 y3 y4 y5 x6 x7 x8 y9 b10 l10 c10)):=Ex.W.keep (fun b q=>⟨by have:=hz1;omega,q.2⟩) (fun _ _=>rfl) hx;have HR2:Hid (w2.heap[w.heap.size]?=some (.cells zA 29)):=(hk w.heap.size hz1 (by omega) (by omega)).trans HR1.out;obtain ⟨z0,z1,z2,z3,z4,z5,z6,z7,z8,z9,z10,z11,z12⟩:=bk11 HR2.out;clear hs hx hk hz))
 generalize hW9:World.setCell _ _ _=W9
 have hW8:W9=putL w2 w.heap.size 0 (eL x0 x1 x2 y3 y4 y5 x6 x7 x8 y9 b10 l10 c10):=hW9.symm
 have HZ9:Hid (W9.heap[w.heap.size]?=some (.cells (eA x0 x1 x2 y3 y4 y5 x6 x7 x8 y9 b10 l10 c10) 29)):=by rw [hW8];exact putL_same HR2.out _ rfl
 have HS9:Hid (XS w lb tb ob sb N q W9):=by rw [hW8];exact HS2.out.put (Nat.le_refl _) hll hsl _
 have HE9:Hid (X.W W9 (fun b=>w.heap.size<=b/\b<W9.heap.size) (eL x0 x1 x2 y3 y4 y5 x6 x7 x8 y9 b10 l10 c10)):=by
  rw [hW8]
  have hz:=(putL_below (B:=0) (b:=w.heap.size) (w0:=w2) (Nat.zero_le _) (eL x0 x1 x2 y3 y4 y5 x6 x7 x8 y9 b10 l10 c10) w2 0 (Below.refl _ _)).size
  exact Ex.W.keep (fun b q=>⟨by omega,Nat.lt_of_lt_of_le q.2 hz⟩) (fun b q=>putL_other (by omega) _ _ _) HE2.out
 clear hW9 hW8
 obtain ⟨y0',y1',y2',y3',y4',y5',y6',y7',y8',y9',y10',_,_⟩:=bk11 HZ9.out
 exact bodyPost_ret (v:=.agg (eA x0 x1 x2 y3 y4 y5 x6 x7 x8 y9 b10 l10 c10)) (by simp [results,Tryz.results24,go_sem,y0',y1',y2',y3',y4',y5',y6',y7',y8',y9',y10']) rfl ⟨(eL x0 x1 x2 y3 y4 y5 x6 x7 x8 y9 b10 l10 c10),HE9.out,rfl,HS9.out⟩
theorem e_root {N:ByteArray->Nat} {p:Nat} (hp:p + 1<=700):RunE rootP N p (p + 1) (exN 11 ⟨0,0,⟨#[]⟩⟩ ⟨#[]⟩ ⟨#[]⟩ 0 0 (fun _=>.no)):=expr_root al_root (leaf_root hp)
end Go.Proofs.YtmcmbdkpfcibkaaGreatDoor
