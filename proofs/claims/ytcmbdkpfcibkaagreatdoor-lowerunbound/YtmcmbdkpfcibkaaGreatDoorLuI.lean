import Derived.Test.YtmcmbdkpfcibkaaGreatDoorRgIn
import Derived.Test.YtmcmbdkpfcibkaaGreatDoorLuH
set_option linter.unusedVariables false
set_option maxHeartbeats 6400000
namespace Go.Proofs.YtmcmbdkpfcibkaaGreatDoor
set_option maxRecDepth 100000
open Go.RowKit Go.WideShapes Go.Shelf
theorem let_bad {nm:ByteArray} {pv pc:Ph} {N:ByteArray->Nat} {p q1 r:Nat} {X0:Ex} (hv:RunE pv N p q1 X0) (hb:RunN 24 pc (inL N [nm]) q1 r) (hq1:q1<=699) (hnm:nm.size<=4000) (hN:∀ y,N y<=100000):RunN 57 (flwP 2 nm pv pc) N p r:=by
 intro w lb tb ob sb S pb po u hB hX hP
 obtain ⟨aa,ac,a10,cc,hu,hac,hcc,hacm,hccm,hel,hcl⟩:=hP.v
 obtain ⟨g,o,rfl,hg,hel2⟩:=hel (by decide)
 obtain ⟨ub,hb1,hb2⟩:=hel2 0 (by decide)
 rw [show o + 0 * 11=o by omega] at hb1
 obtain ⟨cb,co,rfl,hS,hcl2⟩:=hcl (by decide)
 obtain ⟨uc,hc1,hc2⟩:=hcl2 0 (by decide)
 rw [show co + 0 * 15=co by omega] at hc1
 have HCH:Hid (PhIn w lb sb g o pc S ub):=⟨hb1,hb2,hg,hP.h⟩
 have HCV:Hid (PhIn w lb sb cb (co + 4) pv S uc):=⟨hc1.behind,hc2,hS,hP.h⟩
 have HB:=HidOf hB
 have HX:=HidOf hX
 have HV:=HidOf hv
 have HY:=HidOf hb
 have HNN:=HidOf hN
 have HLS:=HidOf hB.ls
 have hlw:=hB.ll
 have hsw:=hB.sl
 have hls:=hB.ls
 have hpw:=(hP.h pb hP.s).1
 have hpl:=(hP.h pb hP.s).2.1
 have hps:=(hP.h pb hP.s).2.2
 have hcb:=(hP.h cb hS).1
 have hcbl:=(hP.h cb hS).2.1
 have hcbs:=(hP.h cb hS).2.2
 have HLN:Hid (∀ x ∈ [nm],x.size<=maxLen):=fun x hx=>by
  rcases List.mem_cons.1 hx with rfl | hx
  · exact Nat.le_trans hnm (by decide)
  · cases hx
 have HPX:Hid (∀ W,(∃ e N k,XG e w lb tb ob sb N k W)->W.cell? ⟨lb,2,none⟩=some (.map (some sb))/\W.cell? ⟨pb,po + 10,none⟩=some (vL cb co 1 cc)/\ClAt W cb co 2 nm ⟨#[]⟩):=fun W ⟨e,N',k,hW⟩=>by
  have e:=phAt_c (hu ▸ (hP.atG hW).c)
  have hc:=hc1.keep (hW.k.2.1 cb hcb hcbl hcbs)
  exact ⟨hW.k.2.2,e.c10,⟨hc 0 (by simp),hc 1 (by simp),hc 2 (by simp),Nat.le_trans hnm (by decide),by decide⟩⟩
 have HP9:Hid (∀ W,(∃ e N k,XG e w lb tb ob sb N k W)->W.cell? ⟨pb,po + 9,none⟩=some (vL g o 1 ac)):=fun W ⟨e,N',k,hW⟩=>(phAt_c (hu ▸ (hP.atG hW).c)).c9
 obtain ⟨i0,hi0,iz0,iz1,iz2⟩:=info_parts infoClU
 have c10:=(HPX.out w ⟨false,_,_,hX⟩).2.1
 clear hP hB hX hv hb hel hel2 hb1 hb2 hcl hcl2 hc1 hc2 hu hN
 go_enter Tryz.func57,Tryz.ntmps57
 go_wp2
 refine LoopN.wp 2 (LoopN.next ?_)
 go_upto_region 5 with fail
 obtain ⟨wr,hwr⟩:∃ W,W=w.alloc (.cells zA 29):=⟨_,rfl⟩
 have HX1:Hid (XS w lb tb ob sb N p wr):=by rw [hwr];exact HX.out.alloc _
 have HR1:Hid (wr.heap[w.heap.size]?=some (.cells zA 29)):=by rw [hwr];exact heap_alloc_new _ _
 have hz1r:w.heap.size<wr.heap.size:=by rw [hwr];simp
 rw [<- hwr]
 clear hwr c10 HX
 refine wp_region_slots (by kernel_rfl) (fun j v W=>match j with | 0=>v=(vP pb po) | 1=>v=(vP pb po) | 2=>v=(vP pb (po + 10)) | 3=>v=(vL cb co 1 cc) | 4=>v=(vI 0) | 5=>v=(vP cb co) | 6=>v=(vP lb 0) | 7=>v=(vP pb po) | 8=>v=(vP pb po) | 9=>v=(vP pb (po + 10)) | 10=>v=(vL cb co 1 cc) | 11=>v=(vI 0) | 12=>v=(vP cb co) | 13=>v=(vP cb (co + 4)) | _=>True) (Gy (⟨w,wr,lb,sb,w.heap.size,fun _=>False,fun k=>XG false w lb tb ob sb N (if k=0 then p else q1),[14],18,16,17,7,#[.pointer none,vI 0,vI 0,vI 0,vE,vE,vE,vI 0,vI 0,vI 0,vE,vN],135,VC X0 cb co,[false,false,false,false,false,false,false,false,false,false,false,false,false,false,true,true,false,false],[19,20,21,22,23,24,25,26,27,28,29,30,31,32,33,34,7,999],fun i=>match i with | 14=>VX X0 | 15=>VC X0 cb co | _=>VZ⟩:GxP)) (by kernel_rfl) (by kernel_rfl) (Gx.startA HX1.out (fun k=>XS.clo hlw hsw) (fun i=>by dsimp only;split <;> first | exact VZ.kept | exact VC.kept _ _ _ | exact VV.kept _ | exact VX.kept _ | exact VL.kept _ _ | exact VO.kept _ _ | exact VT.kept _ _) (VC.kept _ _ _) hlw hsw (Nat.le_refl _) (by show w.heap.size<wr.heap.size;omega) (fun _ q=>q.elim) (by exact (by decide:(16:Nat)<18))) ?_ ?_
 · intro l a W i o hsz h ho hl haf
   obtain ⟨t,fx⟩:=h.more
   have hsn:l.size=18:=hsz
   have hts:a.tmps.size=112:=h.size.trans rfl
   have hi:i<18:=(gI ho).1
   obtain rfl | rfl | rfl | rfl | rfl | rfl | rfl | rfl | rfl | rfl | rfl | rfl | rfl | rfl | rfl | rfl | rfl | rfl:i=0\/i=1\/i=2\/i=3\/i=4\/i=5\/i=6\/i=7\/i=8\/i=9\/i=10\/i=11\/i=12\/i=13\/i=14\/i=15\/i=16\/i=17:=by omega
   all_goals (obtain rfl:=Option.some.inj ho;rw [if_pos (want_none rfl)])
   · have e1:=h.given 1 _ rfl (by kernel_rfl)
     refine wp_val ?_ ⟨_,rfl,rfl,fun _ _ h=>h,fx.pure rfl⟩
     unfold execOp
     simp [e1,go_sem]
   · obtain ⟨_,e19,rfl⟩:=h.new 0 _ 19 rfl rfl (haf ⟨0,.data⟩ (by simp) rfl)
     refine wp_val ?_ ⟨_,rfl,rfl,fun _ _ h=>h,fx.pure rfl⟩
     unfold execOp
     simp [e19,go_sem]
   · obtain ⟨_,e20,rfl⟩:=h.new 1 _ 20 rfl rfl (haf ⟨1,.data⟩ (by simp) rfl)
     refine wp_val ?_ ⟨_,rfl,rfl,fun _ _ h=>h,fx.pure rfl⟩
     unfold execOp
     simp [e20,go_sem]
   · obtain ⟨_,e21,rfl⟩:=h.new 2 _ 21 rfl rfl (haf ⟨2,.data⟩ (by simp) rfl)
     obtain ⟨k_,_,hp_⟩:=fx.q
     obtain ⟨d2,d10,dcl⟩:=HPX.out W ⟨false,_,_,hp_⟩
     refine wp_val ?_ ⟨_,rfl,rfl,fun _ _ h=>h,fx.pure rfl⟩
     unfold execOp
     simp [e21,d10,go_sem]
   · have e6:=h.given 6 _ rfl (by kernel_rfl)
     refine wp_val ?_ ⟨_,rfl,rfl,fun _ _ h=>h,fx.pure rfl⟩
     unfold execOp
     simp [e6,go_sem]
   · obtain ⟨_,e22,rfl⟩:=h.new 3 _ 22 rfl rfl (haf ⟨3,.data⟩ (by simp) rfl)
     obtain ⟨_,e23,rfl⟩:=h.new 4 _ 23 rfl rfl (haf ⟨4,.data⟩ (by simp) rfl)
     refine wp_val ?_ ⟨_,rfl,rfl,fun _ _ h=>h,fx.pure rfl⟩
     unfold execOp
     simp [e22,e23,go_sem]
   · have e0:=h.given 0 _ rfl (by kernel_rfl)
     refine wp_val ?_ ⟨_,rfl,rfl,fun _ _ h=>h,fx.pure rfl⟩
     unfold execOp
     simp [e0,go_sem]
   · have e1:=h.given 1 _ rfl (by kernel_rfl)
     refine wp_val ?_ ⟨_,rfl,rfl,fun _ _ h=>h,fx.pure rfl⟩
     unfold execOp
     simp [e1,go_sem]
   · obtain ⟨_,e26,rfl⟩:=h.new 7 _ 26 rfl rfl (haf ⟨7,.data⟩ (by simp) rfl)
     refine wp_val ?_ ⟨_,rfl,rfl,fun _ _ h=>h,fx.pure rfl⟩
     unfold execOp
     simp [e26,go_sem]
   · obtain ⟨_,e27,rfl⟩:=h.new 8 _ 27 rfl rfl (haf ⟨8,.data⟩ (by simp) rfl)
     refine wp_val ?_ ⟨_,rfl,rfl,fun _ _ h=>h,fx.pure rfl⟩
     unfold execOp
     simp [e27,go_sem]
   · obtain ⟨_,e28,rfl⟩:=h.new 9 _ 28 rfl rfl (haf ⟨9,.data⟩ (by simp) rfl)
     obtain ⟨k_,_,hp_⟩:=fx.q
     obtain ⟨d2,d10,dcl⟩:=HPX.out W ⟨false,_,_,hp_⟩
     refine wp_val ?_ ⟨_,rfl,rfl,fun _ _ h=>h,fx.pure rfl⟩
     unfold execOp
     simp [e28,d10,go_sem]
   · have e6:=h.given 6 _ rfl (by kernel_rfl)
     refine wp_val ?_ ⟨_,rfl,rfl,fun _ _ h=>h,fx.pure rfl⟩
     unfold execOp
     simp [e6,go_sem]
   · obtain ⟨_,e29,rfl⟩:=h.new 10 _ 29 rfl rfl (haf ⟨10,.data⟩ (by simp) rfl)
     obtain ⟨_,e30,rfl⟩:=h.new 11 _ 30 rfl rfl (haf ⟨11,.data⟩ (by simp) rfl)
     refine wp_val ?_ ⟨_,rfl,rfl,fun _ _ h=>h,fx.pure rfl⟩
     unfold execOp
     simp [e29,e30,go_sem]
   · obtain ⟨_,e31,rfl⟩:=h.new 12 _ 31 rfl rfl (haf ⟨12,.data⟩ (by simp) rfl)
     refine wp_val ?_ ⟨_,rfl,rfl,fun _ _ h=>h,fx.pure rfl⟩
     unfold execOp
     simp [e31,go_sem]
   · obtain ⟨_,e25,rfl⟩:=h.new 6 _ 25 rfl rfl (haf ⟨6,.data⟩ (by simp) rfl)
     obtain ⟨_,e32,rfl⟩:=h.new 13 _ 32 rfl rfl (haf ⟨13,.data⟩ (by simp) rfl)
     obtain ⟨k,hq,hp⟩:=fx.q
     have hn:l.getD 14 false=false:=getD_ofX hl
     obtain rfl:k=0:=hq.at_ (j:=0) (by exact (by decide:(0:Nat)<1)) hn (.inl rfl)
     refine wp_enter (f:=24) (args:=#[vP lb 0,vP cb (co + 4)]) (w':=W) ?_ ((HV.out.use HB.out (show XS w lb tb ob sb N p W from hp) HCV.out).mono ?_)
     · unfold execOp
       simp [e25,e32,go_sem]
     · rintro e W' ⟨x0,x1,x2,x6,x7,x8,y3,y4,y5,y9,b10,l10,c10,hx_,rfl,hs_,hk_,hz_⟩
       exact ⟨_,rfl,_,rfl,trivial,fun _ _ h=>h,fx.call 0 (i:=14) (s:=33) rfl rfl hsn hq hs_ hk_ hz_ (by rw [hts];exact (by decide:(33:Nat)<112)) (fun _=>fx.fresh hz_ hx_)⟩
   · obtain ⟨_,e24,rfl⟩:=h.new 5 _ 24 rfl rfl (haf ⟨5,.data⟩ (by simp) rfl)
     obtain ⟨u33,e33,y33⟩:=fx.x 14 (by exact (by decide:(14:Nat)<18)) rfl (haf ⟨14,.data⟩ (by simp) rfl)
     have e33':a.tmps[33]?=some u33:=e33
     obtain ⟨l33,rfl,z33⟩:=y33
     obtain ⟨x0_33,x1_33,x2_33,x6_33,x7_33,x8_33,y3_33,y4_33,y5_33,y9_33,b10_33,l10_33,c10_33,rfl⟩:=z33.form
     have f33:a.tmps[33]?=some (.agg (eA x0_33 x1_33 x2_33 y3_33 y4_33 y5_33 x6_33 x7_33 x8_33 y9_33 b10_33 l10_33 c10_33)):=e33
     refine wp_val (v:=.agg #[vP cb co,vI x0_33,vI x1_33,vI x2_33,vS y3_33,vS y4_33,vS y5_33,vI x6_33,vI x7_33,vI x8_33,vS y9_33,.slice b10_33 l10_33 c10_33]) (w':=W) ?_ ⟨_,rfl,trivial,fun _ _ h=>h,fx.item (i:=15) rfl rfl (by rw [hts];exact (by decide:(34:Nat)<112)) ?_⟩
     · unfold execOp
       simp [e24,f33,go_sem]
     · exact ⟨_,rfl,z33⟩
   · have m17:=h.later 17 16 _ ⟨16,.phase⟩ rfl (by simp) rfl rfl hl
     refine wp_val (v:=vP W.heap.size 0) (w':=W.alloc (.cells #[.pointer none,vI 0,vI 0,vI 0,vE,vE,vE,vI 0,vI 0,vI 0,vE,vN] 135)) ?_ ⟨_,rfl,trivial,fun _ _ h=>h,fx.alloc rfl hsn (getD_ofX hl) m17 (by rw [hts];exact (by decide:(7:Nat)<112))⟩
     unfold execOp
     simp [go_sem]
   · have e7:=fx.b1 (haf ⟨16,.phase⟩ (by simp) rfl)
     have e7':a.tmps[7]?=some (vP t 0):=e7
     obtain ⟨u34,e34,y34⟩:=fx.x 15 (by exact (by decide:(15:Nat)<18)) rfl (haf ⟨15,.phase⟩ (by simp) rfl)
     have e34':a.tmps[34]?=some u34:=e34
     obtain ⟨l34,rfl,z34⟩:=y34
     obtain ⟨x0_34,x1_34,x2_34,x6_34,x7_34,x8_34,y3_34,y4_34,y5_34,y9_34,b10_34,l10_34,c10_34,rfl⟩:=z34.form
     have f34:a.tmps[34]?=some (.agg #[vP cb co,vI x0_34,vI x1_34,vI x2_34,vS y3_34,vS y4_34,vS y5_34,vI x6_34,vI x7_34,vI x8_34,vS y9_34,.slice b10_34 l10_34 c10_34]):=e34
     have hn:l.getD 17 false=false:=getD_ofX hl
     have ha:l.getD 16 true=true:=(getD_def (by omega) true).trans (haf ⟨16,.phase⟩ (by simp) rfl)
     have c_:=fx.bz ha hn
     obtain ⟨z0,z1,z2,z3,z4,z5,z6,z7,z8,z9,z10,z11,zf⟩:=bk12f c_
     obtain ⟨W',hW'⟩:∃ V,V=((((((((((((W).setCell ⟨t,0,none⟩ (vP cb co)).setCell ⟨t,1,none⟩ (vI x0_34)).setCell ⟨t,2,none⟩ (vI x1_34)).setCell ⟨t,3,none⟩ (vI x2_34)).setCell ⟨t,4,none⟩ (vS y3_34)).setCell ⟨t,5,none⟩ (vS y4_34)).setCell ⟨t,6,none⟩ (vS y5_34)).setCell ⟨t,7,none⟩ (vI x6_34)).setCell ⟨t,8,none⟩ (vI x7_34)).setCell ⟨t,9,none⟩ (vI x8_34)).setCell ⟨t,10,none⟩ (vS y9_34)).setCell ⟨t,11,none⟩ (.slice b10_34 l10_34 c10_34):=⟨_,rfl⟩
     have hPL:W'=putL W (t) 0 [vP cb co,vI x0_34,vI x1_34,vI x2_34,vS y3_34,vS y4_34,vS y5_34,vI x6_34,vI x7_34,vI x8_34,vS y9_34,.slice b10_34 l10_34 c10_34]:=hW'
     refine wp_skip (w':=W') ?_ ⟨undef,rfl,trivial,fun _ _ h=>h,by rw [hPL];exact fx.store rfl hsn ha hn rfl ⟨_,rfl,z34⟩⟩
     rw [hW']
     clear hPL hW'
     unfold execOp
     simp [e7',f34,z0,z1,z2,z3,z4,z5,z6,z7,z8,z9,z10,z11,zf,go_sem]
 · intro v W1 hv hs hg
   obtain ⟨hXS,hzz,T,S1,ht7,htd,_,hk1,_,hf,_,_⟩:=Gy.next rfl hg
   obtain ⟨u',hu',l',el,hl'⟩:=hf (by exact (by decide:(17:Nat)<18))
   have el':u'=vP cb co :: l':=by injection el with el;simpa using congrArg Array.toList el
   subst el'
   obtain ⟨x0_c,x1_c,x2_c,x6_c,x7_c,x8_c,y3_c,y4_c,y5_c,y9_c,b10_c,l10_c,c10_c,rfl⟩:=hl'.form
   have e16:v 16=vP T 0:=Option.some.inj ((hs 16 _ 7 rfl rfl).symm.trans (ht7 (by exact (by decide:(16:Nat)<18))))
   have hz1:wr.heap.size<=W1.heap.size:=hzz
   have hT:wr.heap.size<=T/\T<W1.heap.size:=htd (by exact (by decide:(16:Nat)<18))
   have HX2:Hid (XS w lb tb ob sb N q1 W1):=hXS
   have HT2:Hid (W1.heap[T]?=some (.cells #[vP cb co,vI x0_c,vI x1_c,vI x2_c,vS y3_c,vS y4_c,vS y5_c,vI x6_c,vI x7_c,vI x8_c,vS y9_c,.slice b10_c l10_c c10_c] 135)):=hu'
   have HR2:Hid (W1.heap[w.heap.size]?=some (.cells zA 29)):=hidC ((hk1 w.heap.size (by show w.heap.size<wr.heap.size;omega) (by show w.heap.size≠lb;omega) (by show w.heap.size≠sb;omega) (by omega)).trans HR1.out)
   have HONE:Hid (∀ u∈([vP cb co,vI x0_c,vI x1_c,vI x2_c,vS y3_c,vS y4_c,vS y5_c,vI x6_c,vI x7_c,vI x8_c,vS y9_c,.slice b10_c l10_c c10_c]:List Value),u.oneCell'=true):=hidC (rowU_one hl')
   simp only [putAll,Act.put,List.setIfInBounds_toArray,List.set_cons_succ,List.set_cons_zero]
   rw [e16]
   generalize v 0=s5_0,v 1=s5_1,v 2=s5_2,v 3=s5_3,v 4=s5_4,v 5=s5_5,v 6=s5_6,v 7=s5_7,v 8=s5_8,v 9=s5_9,v 10=s5_10,v 11=s5_11,v 12=s5_12,v 13=s5_13,v 14=s5_14,v 15=s5_15 at *
   clear hv hs hg hf hl' hXS hk1 ht7 htd hzz hu' e16
   obtain ⟨c0,c1,c2,c3,c4,c5,c6,c7,c8,c9,c10,c11⟩:=bk12 HT2.out
   go_upto_region 8 with (first
    | (go_at_call 96;refine (keeps_is lb _ _ _ q1 _ W1 HX2.out.l (by omega)).mono ?_;rintro e w2 ⟨rfl,hw2⟩;obtain rfl:=hw2.symm)
    | (at_builtin;go_loud (refine wpList_append_own _ rfl (.tmp 37) (.tmp 39) 130 rfl (w.heap.size + 1) 135 i0 _ 12 144 Tryz.underlying130 hi0 iz0 iz1 iz2 rfl (by decide) _ _ _ rfl (World.ownsRow_nil _ _ _ _) ⟨W1.heap.size,0,none⟩ 1 1 [vP cb co,vI x0_c,vI x1_c,vI x2_c,vS y3_c,vS y4_c,vS y5_c,vI x6_c,vI x7_c,vI x8_c,vS y9_c,.slice b10_c l10_c c10_c] rfl rfl (rowU_in [vP cb co,vI x0_c,vI x1_c,vI x2_c,vS y3_c,vS y4_c,vS y5_c,vI x6_c,vI x7_c,vI x8_c,vS y9_c,.slice b10_c l10_c c10_c]) HONE.out (by unfold maxLen;omega) (by omega) (by simp <;> omega) ?_;intro v6 w8 hown6 hgrow6 _;obtain ⟨va6,vc6,rfl⟩:=own_shapeU hown6)))
   have HBW8:Hid (Below W1.heap.size W1 w8):=(((Below.refl _ _).alloc (Nat.le_refl _) _).grown hgrow6 (by simp) (fun z hz=>by cases hz))
   have hz8:W1.heap.size<w8.heap.size:=by have:=hgrow6.size;simp at this;omega
   have HX8:=hidC (HX2.out.below HBW8.out)
   have HT8:=hidC ((HBW8.out.block T hT.2).trans HT2.out)
   have HR8:=hidC ((HBW8.out.block w.heap.size (by omega)).trans HR2.out)
   clear hown6 hgrow6 c0 c1 c2 c3 c4 c5 c6 c7 c8 c9 c10 c11
   refine wp_region_slots (by kernel_rfl) (fun j v W=>match j with | 0=>v=(vP lb 0) | 1=>v=(vP lb 0) | 2=>v=(vP lb 2) | 3=>v=(.map (some sb)) | 4=>v=(vP T 0) | 5=>v=(vP cb co) | _=>True) (Gy (⟨w,w8,lb,sb,w.heap.size,fun _=>False,fun k=>XG false w lb tb ob sb (if k<=1 then N else inL N [nm]) q1,[6,7],8,1000,1001,998,zA,29,VZ,[false,false,false,false,false,false,true,false],[41,42,43,44,45,46,47,48],fun i=>match i with | 6=>VT 1 [vS nm] | _=>VZ⟩:GxP)) (by kernel_rfl) (by kernel_rfl) (Gx.startB HX8.out (fun k=>XS.clo hlw hsw) (fun i=>by dsimp only;split <;> first | exact VZ.kept | exact VV.kept _ | exact VX.kept _ | exact VL.kept _ _ | exact VO.kept _ _ | exact VT.kept _ _) (VZ.kept) hlw hsw (Nat.le_refl _) (by show w.heap.size<w8.heap.size;omega) (fun _ q=>q.elim) HR8.out (by exact (by decide:(8:Nat)<=1000))) ?_ ?_
   · intro l a W i o hsz h ho hl haf
     obtain ⟨t,fx⟩:=h.more
     have hsn:l.size=8:=hsz
     have hts:a.tmps.size=112:=h.size.trans rfl
     have hi:i<8:=(gI ho).1
     obtain rfl | rfl | rfl | rfl | rfl | rfl | rfl | rfl:i=0\/i=1\/i=2\/i=3\/i=4\/i=5\/i=6\/i=7:=by omega
     all_goals (obtain rfl:=Option.some.inj ho;rw [if_pos (want_none rfl)])
     · have e0:=h.given 0 _ rfl (by kernel_rfl)
       refine wp_val ?_ ⟨_,rfl,rfl,fun _ _ h=>h,fx.pure rfl⟩
       unfold execOp
       simp [e0,go_sem]
     · obtain ⟨_,e41,rfl⟩:=h.new 0 _ 41 rfl rfl (haf ⟨0,.data⟩ (by simp) rfl)
       refine wp_val ?_ ⟨_,rfl,rfl,fun _ _ h=>h,fx.pure rfl⟩
       unfold execOp
       simp [e41,go_sem]
     · obtain ⟨_,e42,rfl⟩:=h.new 1 _ 42 rfl rfl (haf ⟨1,.data⟩ (by simp) rfl)
       refine wp_val ?_ ⟨_,rfl,rfl,fun _ _ h=>h,fx.pure rfl⟩
       unfold execOp
       simp [e42,go_sem]
     · obtain ⟨_,e43,rfl⟩:=h.new 2 _ 43 rfl rfl (haf ⟨2,.data⟩ (by simp) rfl)
       obtain ⟨k_,_,hp_⟩:=fx.q
       obtain ⟨d2,d10,dcl⟩:=HPX.out W ⟨false,_,_,hp_⟩
       refine wp_val ?_ ⟨_,rfl,rfl,fun _ _ h=>h,fx.pure rfl⟩
       unfold execOp
       simp [e43,d2,go_sem]
     · have e7:=h.given 7 _ rfl (by kernel_rfl)
       refine wp_val ?_ ⟨_,rfl,rfl,fun _ _ h=>h,fx.pure rfl⟩
       unfold execOp
       simp [e7,go_sem]
     · obtain ⟨_,e45,rfl⟩:=h.new 4 _ 45 rfl rfl (haf ⟨4,.data⟩ (by simp) rfl)
       have hbx:=(fx.same (c:=T) (by show T<w8.heap.size;omega) (by show T≠lb;omega) (by show T≠sb;omega) (by show T≠w.heap.size;omega)).trans HT8.out
       obtain ⟨z0,z1,z2,z3,z4,z5,z6,z7,z8,z9,z10,z11,zf⟩:=bk12f hbx
       refine wp_val ?_ ⟨_,rfl,rfl,fun _ _ h=>h,fx.pure rfl⟩
       unfold execOp
       simp [e45,z0,go_sem]
     · obtain ⟨_,e46,rfl⟩:=h.new 5 _ 46 rfl rfl (haf ⟨5,.data⟩ (by simp) rfl)
       obtain ⟨k,hq,hp⟩:=fx.q
       have hn:l.getD 6 false=false:=getD_ofX hl
       obtain rfl:k=0:=hq.at_ (j:=0) (by exact (by decide:(0:Nat)<2)) hn (.inl rfl)
       refine wp_enter (f:=97) (args:=#[vP cb co]) (w':=W) ?_ ((namesOf_let cb co nm ⟨#[]⟩ W (HPX.out W ⟨false,_,_,hp⟩).2.2).mono ?_)
       · unfold execOp
         simp [e46,go_sem]
       · rintro e W' ⟨n6,rfl,hb_,hn6_,hs6_⟩
         exact ⟨_,rfl,_,rfl,trivial,fun _ _ h=>h,fx.call 0 (i:=6) (s:=47) rfl rfl hsn hq (XG.below (e:=false) hp hb_) (fun b h1 _ _=>hb_.block b h1) hb_.size (by rw [hts];exact (by decide:(47:Nat)<112)) (fun _=>⟨n6,rfl,⟨.inr ⟨Nat.le_trans fx.z hn6_,(gI hs6_).1⟩,fun e=>by have:=(fx.b e).2;omega⟩,hs6_⟩)⟩
     · obtain ⟨_,e44,rfl⟩:=h.new 3 _ 44 rfl rfl (haf ⟨3,.data⟩ (by simp) rfl)
       obtain ⟨u47,e47,y47⟩:=fx.x 6 (by exact (by decide:(6:Nat)<8)) rfl (haf ⟨6,.chain⟩ (by simp) rfl)
       have e47':a.tmps[47]?=some u47:=e47
       have q47:=y47
       obtain ⟨g47,rfl,hg47⟩:=y47
       have f47:a.tmps[47]?=some (vL g47 0 1 1):=e47
       obtain ⟨k,hq,hp⟩:=fx.q
       have hn:l.getD 7 false=false:=getD_ofX hl
       obtain rfl:k=1:=hq.at_ (j:=1) (by exact (by decide:(1:Nat)<2)) hn (.inr (haf ⟨6,.chain⟩ (by simp) rfl))
       refine wp_enter (f:=37) (args:=#[.map (some sb),vL g47 0 1 1]) (w':=W) ?_ ((enterL (show XS w lb tb ob sb N q1 W from hp) HLS.out (VT.txts [nm] q47 (show (1:Nat)<=maxLen by decide)) HLN.out (show (1:Nat)<=1000 by decide) HNN.out).mono ?_)
       · unfold execOp
         simp [e44,f47,go_sem]
       · rintro e W' ⟨rfl,hs_,ht_⟩
         exact ⟨_,rfl,_,rfl,trivial,fun _ _ h=>h,fx.call 1 (i:=7) (s:=48) rfl rfl hsn hq hs_ (fun b _ _ h3=>ht_.2.1 b h3) (Nat.le_of_eq ht_.1.symm) (by rw [hts];exact (by decide:(48:Nat)<112)) (fun _=>trivial)⟩
   · intro v W9 hv hs hg
     obtain ⟨hXS,hzz,t',_,_,ht0,hk1,hf,hzf,_⟩:=Gy.fin rfl hg
     have ht0:t'=w.heap.size:=ht0 (by exact (by decide:(8:Nat)<=1000))
     subst ht0
     have hz9:w8.heap.size<=W9.heap.size:=hzz
     have HX9:Hid (XS w lb tb ob sb (inL N [nm]) q1 W9):=hXS
     have HR9:Hid (W9.heap[w.heap.size]?=some (.cells zA 29)):=hidC (hzf (by exact (by decide:(8:Nat)<=1001)))
     simp only [putAll,Act.put,List.setIfInBounds_toArray,List.set_cons_succ,List.set_cons_zero]
     generalize v 0=s8_0,v 1=s8_1,v 2=s8_2,v 3=s8_3,v 4=s8_4,v 5=s8_5,v 6=s8_6,v 7=s8_7 at *
     clear hv hs hg hf hzf hXS hk1 hzz
     have p9:=HP9.out W9 ⟨false,_,_,HX9.out⟩
     have hpw9:pb<W9.heap.size:=by omega
     go_wp2
     refine LoopN.next ?_
     go_wp2_with (go_at_call 24;refine (HY.out.use HB.out HX9.out HCH.out).mono ?_;rintro e w10 ⟨rfl,hs,hk,hz⟩;have HX10:=hidC hs;have HR10:=hidC ((hk w.heap.size (by omega) (by omega) (by omega)).trans HR9.out);have hz10:=hz;have p10:=(HPX.out w10 ⟨true,_,_,hs⟩).2.1;have hpw10:pb<w10.heap.size:=(by omega);clear hs hk hz p9)
     obtain ⟨wq,hwq⟩:∃ W,W=w10.alloc (.cells zA 29):=⟨_,rfl⟩
     have HXq:Hid (XN w lb tb ob sb (inL N [nm]) r wq):=hidC (by rw [hwq];exact HX10.out.alloc _)
     have HRq:Hid (wq.heap[w.heap.size]?=some (.cells zA 29)):=hidC (by rw [hwq];exact (Below.heap_alloc _ _ _ (by omega)).trans HR10.out)
     have hzq:w10.heap.size<wq.heap.size:=by rw [hwq];simp
     rw [<- hwq]
     clear hwq p10 HX10 HR10
     have pq:=(HPX.out wq ⟨true,_,_,HXq.out⟩).2.1
     have hpwq:pb<wq.heap.size:=by omega
     refine LoopN.wp 2 (LoopN.next ?_)
     go_upto_region 14 with fail
     refine wp_region_slots (by kernel_rfl) (fun j v W=>match j with | 0=>v=(vP lb 0) | 1=>v=(vP lb 0) | 2=>v=(vP lb 2) | 3=>v=(.map (some sb)) | 4=>v=(vP pb po) | 5=>v=(vP pb po) | 6=>v=(vP pb (po + 10)) | 7=>v=(vL cb co 1 cc) | 8=>v=(vI 0) | 9=>v=(vP cb co) | _=>True) (Gy (⟨w,wq,lb,sb,w.heap.size,fun _=>False,fun k=>XG true w lb tb ob sb (if k<=1 then inL N [nm] else N) r,[10,11],12,1000,1001,998,zA,29,VZ,[false,false,false,false,false,false,false,false,false,false,true,false],[65,66,67,68,69,70,71,72,73,74,75,76],fun i=>match i with | 10=>VT 1 [vS nm] | _=>VZ⟩:GxP)) (by kernel_rfl) (by kernel_rfl) (Gx.startB HXq.out (fun k=>XN.clo hlw hsw) (fun i=>by dsimp only;split <;> first | exact VZ.kept | exact VV.kept _ | exact VX.kept _ | exact VL.kept _ _ | exact VO.kept _ _ | exact VT.kept _ _) (VZ.kept) hlw hsw (Nat.le_refl _) (by show w.heap.size<wq.heap.size;omega) (fun _ q=>q.elim) HRq.out (by exact (by decide:(12:Nat)<=1000))) ?_ ?_
     · intro l a W i o hsz h ho hl haf
       obtain ⟨t,fx⟩:=h.more
       have hsn:l.size=12:=hsz
       have hts:a.tmps.size=112:=h.size.trans rfl
       have hi:i<12:=(gI ho).1
       obtain rfl | rfl | rfl | rfl | rfl | rfl | rfl | rfl | rfl | rfl | rfl | rfl:i=0\/i=1\/i=2\/i=3\/i=4\/i=5\/i=6\/i=7\/i=8\/i=9\/i=10\/i=11:=by omega
       all_goals (obtain rfl:=Option.some.inj ho;rw [if_pos (want_none rfl)])
       · have e0:=h.given 0 _ rfl (by kernel_rfl)
         refine wp_val ?_ ⟨_,rfl,rfl,fun _ _ h=>h,fx.pure rfl⟩
         unfold execOp
         simp [e0,go_sem]
       · obtain ⟨_,e65,rfl⟩:=h.new 0 _ 65 rfl rfl (haf ⟨0,.data⟩ (by simp) rfl)
         refine wp_val ?_ ⟨_,rfl,rfl,fun _ _ h=>h,fx.pure rfl⟩
         unfold execOp
         simp [e65,go_sem]
       · obtain ⟨_,e66,rfl⟩:=h.new 1 _ 66 rfl rfl (haf ⟨1,.data⟩ (by simp) rfl)
         refine wp_val ?_ ⟨_,rfl,rfl,fun _ _ h=>h,fx.pure rfl⟩
         unfold execOp
         simp [e66,go_sem]
       · obtain ⟨_,e67,rfl⟩:=h.new 2 _ 67 rfl rfl (haf ⟨2,.data⟩ (by simp) rfl)
         obtain ⟨k_,_,hp_⟩:=fx.q
         obtain ⟨d2,d10,dcl⟩:=HPX.out W ⟨true,_,_,hp_⟩
         refine wp_val ?_ ⟨_,rfl,rfl,fun _ _ h=>h,fx.pure rfl⟩
         unfold execOp
         simp [e67,d2,go_sem]
       · have e1:=h.given 1 _ rfl (by kernel_rfl)
         refine wp_val ?_ ⟨_,rfl,rfl,fun _ _ h=>h,fx.pure rfl⟩
         unfold execOp
         simp [e1,go_sem]
       · obtain ⟨_,e69,rfl⟩:=h.new 4 _ 69 rfl rfl (haf ⟨4,.data⟩ (by simp) rfl)
         refine wp_val ?_ ⟨_,rfl,rfl,fun _ _ h=>h,fx.pure rfl⟩
         unfold execOp
         simp [e69,go_sem]
       · obtain ⟨_,e70,rfl⟩:=h.new 5 _ 70 rfl rfl (haf ⟨5,.data⟩ (by simp) rfl)
         refine wp_val ?_ ⟨_,rfl,rfl,fun _ _ h=>h,fx.pure rfl⟩
         unfold execOp
         simp [e70,go_sem]
       · obtain ⟨_,e71,rfl⟩:=h.new 6 _ 71 rfl rfl (haf ⟨6,.data⟩ (by simp) rfl)
         obtain ⟨k_,_,hp_⟩:=fx.q
         obtain ⟨d2,d10,dcl⟩:=HPX.out W ⟨true,_,_,hp_⟩
         refine wp_val ?_ ⟨_,rfl,rfl,fun _ _ h=>h,fx.pure rfl⟩
         unfold execOp
         simp [e71,d10,go_sem]
       · have e9:=h.given 9 _ rfl (by kernel_rfl)
         refine wp_val ?_ ⟨_,rfl,rfl,fun _ _ h=>h,fx.pure rfl⟩
         unfold execOp
         simp [e9,go_sem]
       · obtain ⟨_,e72,rfl⟩:=h.new 7 _ 72 rfl rfl (haf ⟨7,.data⟩ (by simp) rfl)
         obtain ⟨_,e73,rfl⟩:=h.new 8 _ 73 rfl rfl (haf ⟨8,.data⟩ (by simp) rfl)
         refine wp_val ?_ ⟨_,rfl,rfl,fun _ _ h=>h,fx.pure rfl⟩
         unfold execOp
         simp [e72,e73,go_sem]
       · obtain ⟨_,e74,rfl⟩:=h.new 9 _ 74 rfl rfl (haf ⟨9,.data⟩ (by simp) rfl)
         obtain ⟨k,hq,hp⟩:=fx.q
         have hn:l.getD 10 false=false:=getD_ofX hl
         obtain rfl:k=0:=hq.at_ (j:=0) (by exact (by decide:(0:Nat)<2)) hn (.inl rfl)
         refine wp_enter (f:=97) (args:=#[vP cb co]) (w':=W) ?_ ((namesOf_let cb co nm ⟨#[]⟩ W (HPX.out W ⟨true,_,_,hp⟩).2.2).mono ?_)
         · unfold execOp
           simp [e74,go_sem]
         · rintro e W' ⟨n6,rfl,hb_,hn6_,hs6_⟩
           exact ⟨_,rfl,_,rfl,trivial,fun _ _ h=>h,fx.call 0 (i:=10) (s:=75) rfl rfl hsn hq (XG.below (e:=true) hp hb_) (fun b h1 _ _=>hb_.block b h1) hb_.size (by rw [hts];exact (by decide:(75:Nat)<112)) (fun _=>⟨n6,rfl,⟨.inr ⟨Nat.le_trans fx.z hn6_,(gI hs6_).1⟩,fun e=>by have:=(fx.b e).2;omega⟩,hs6_⟩)⟩
       · obtain ⟨_,e68,rfl⟩:=h.new 3 _ 68 rfl rfl (haf ⟨3,.data⟩ (by simp) rfl)
         obtain ⟨u75,e75,y75⟩:=fx.x 10 (by exact (by decide:(10:Nat)<12)) rfl (haf ⟨10,.chain⟩ (by simp) rfl)
         have e75':a.tmps[75]?=some u75:=e75
         have q75:=y75
         obtain ⟨g75,rfl,hg75⟩:=y75
         have f75:a.tmps[75]?=some (vL g75 0 1 1):=e75
         obtain ⟨k,hq,hp⟩:=fx.q
         have hn:l.getD 11 false=false:=getD_ofX hl
         obtain rfl:k=1:=hq.at_ (j:=1) (by exact (by decide:(1:Nat)<2)) hn (.inr (haf ⟨10,.chain⟩ (by simp) rfl))
         refine wp_enter (f:=38) (args:=#[.map (some sb),vL g75 0 1 1]) (w':=W) ?_ ((leaveLN (show XN w lb tb ob sb (inL N [nm]) r W from hp) HLS.out (VT.txts [nm] q75 (show (1:Nat)<=maxLen by decide)) HLN.out (show (1:Nat)<=1000 by decide) HNN.out).mono ?_)
         · unfold execOp
           simp [e68,f75,go_sem]
         · rintro e W' ⟨rfl,hs_,ht_⟩
           exact ⟨_,rfl,_,rfl,trivial,fun _ _ h=>h,fx.call 1 (i:=11) (s:=76) rfl rfl hsn hq hs_ (fun b _ _ h3=>ht_.2.1 b h3) (Nat.le_of_eq ht_.1.symm) (by rw [hts];exact (by decide:(76:Nat)<112)) (fun _=>trivial)⟩
     · intro v W11 hv hs hg
       obtain ⟨hXS,hzz,t',_,_,ht0,hk1,hf,hzf,_⟩:=Gy.fin rfl hg
       have ht0:t'=w.heap.size:=ht0 (by exact (by decide:(12:Nat)<=1000))
       subst ht0
       have HX11:Hid (XN w lb tb ob sb N r W11):=hXS
       have HR11:Hid (W11.heap[w.heap.size]?=some (.cells zA 29)):=hidC (hzf (by exact (by decide:(12:Nat)<=1001)))
       simp only [putAll,Act.put,List.setIfInBounds_toArray,List.set_cons_succ,List.set_cons_zero]
       generalize v 0=s14_0,v 1=s14_1,v 2=s14_2,v 3=s14_3,v 4=s14_4,v 5=s14_5,v 6=s14_6,v 7=s14_7,v 8=s14_8,v 9=s14_9,v 10=s14_10,v 11=s14_11 at *
       clear hv hs hg hf hzf hXS hk1 hzz
       obtain ⟨z0,z1,z2,z3,z4,z5,z6,z7,z8,z9,z10,z11,z12⟩:=bk11 HR11.out
       go_wp2
       refine LoopN.next ?_
       go_wp2_with (go_at_call 96;refine (keeps_no lb _ _ _ (r:Int) _ W11 HX11.out.l).mono ?_;rintro e w12 ⟨rfl,hw12⟩;obtain rfl:=hw12.symm)
       generalize hW13:World.setCell _ _ _=W13
       have hP13:W13=putL W11 w.heap.size 0 zL:=hW13.symm
       have HZ13:Hid (W13.heap[w.heap.size]?=some (.cells zA 29)):=hidC (by rw [hP13];exact putL_same HR11.out _ rfl)
       have HX13:Hid (XN w lb tb ob sb N r W13):=hidC (by rw [hP13];exact HX11.out.put (Nat.le_refl _) hlw hsw _)
       clear hW13 hP13
       obtain ⟨y0',y1',y2',y3',y4',y5',y6',y7',y8',y9',y10',_,_⟩:=bk11 HZ13.out
       exact bodyPost_ret (v:=.agg zA) (by simp [results,Tryz.results57,go_sem,y0',y1',y2',y3',y4',y5',y6',y7',y8',y9',y10']) rfl ⟨rfl,HX13.out⟩
end Go.Proofs.YtmcmbdkpfcibkaaGreatDoor
