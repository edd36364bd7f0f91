import Derived.Test.YtmcmbdkpfcibkaaGreatDoorLxE
import Derived.Test.YtmcmbdkpfcibkaaGreatDoorLxP
import Derived.Test.YtmcmbdkpfcibkaaGreatDoorLxV
set_option linter.unusedVariables false
set_option maxHeartbeats 6400000
namespace Go.Proofs.YtmcmbdkpfcibkaaGreatDoor
set_option maxRecDepth 100000
open Go.RowKit Go.WideShapes Go.Shelf
theorem flwor_for {nm:ByteArray} {n:Int} {ph:Ph} {N:ByteArray->Nat} {p q1 q:Nat} {X0 X:Ex} (hv:RunE (litN n) N p q1 X0) (hb:RunE ph (inN N nm) q1 q X) (hq1:q1<=699) (hq:q + 1<=700) (hn:nm.size<=4000) (hN:∀ y,N y<=100000):RunF 57 (forP nm n ph) N p (q + 1) (exN 5 ⟨0,0,⟨#[]⟩⟩ nm ⟨#[]⟩ 0 2 (fun j=>if j=0 then X0 else X)):=by
 intro w lb tb ob sb S pb po u hB hX hP
 obtain ⟨aa,ac,a10,cc,hu,hac,hcc,hacm,hccm,hel,hcl⟩:=hP.v
 obtain ⟨g,o,rfl,hg,hel2⟩:=hel (by decide)
 obtain ⟨ub,hb1,hb2⟩:=hel2 0 (by decide)
 rw [show o + 0 * 11=o by omega] at hb1
 obtain ⟨cb,co,rfl,hS,hcl2⟩:=hcl (by decide)
 obtain ⟨uc,hc1,hc2⟩:=hcl2 0 (by decide)
 rw [show co + 0 * 15=co by omega] at hc1
 obtain ⟨B0,⟨hB1,hB2⟩,_⟩:=hB.u
 have HCH:Hid (PhIn w lb sb g o ph S ub):=⟨hb1,hb2,hg,hP.h⟩
 have HCV:Hid (PhIn w lb sb cb (co + 4) (litN n) S uc):=⟨hc1.behind,hc2,hS,hP.h⟩
 have HB:=HidOf hB
 have HX:=HidOf hX
 have HV:Hid (RunF 24 (litN n) N p q1 X0):=hv
 have HY:Hid (RunF 24 ph (inN N nm) q1 q X):=hb
 have hlw:=hB.ll
 have hsw:=hB.sl
 have hls:=hB.ls
 have hpw:=(hP.h pb hP.s).1
 have hpl:=(hP.h pb hP.s).2.1
 have hps:=(hP.h pb hP.s).2.2
 have hcb:=(hP.h cb hS).1
 have hcbl:=(hP.h cb hS).2.1
 have hcbs:=(hP.h cb hS).2.2
 have HLN:Hid (∀ x ∈ [nm,⟨#[]⟩],x.size<=maxLen):=fun x hx=>by
  rcases List.mem_cons.1 hx with rfl | hx
  · exact Nat.le_trans hn (by decide)
  · rcases List.mem_cons.1 hx with rfl | hx
    · decide
    · cases hx
 have HNN:Hid (∀ y,N y + [nm,⟨#[]⟩].length<=4611686018427387904):=fun y=>by have:=hN y;show N y + 2<=_;omega
 have HPX:Hid (∀ W,XQ w lb tb ob sb W->W.cell? ⟨pb,po + 9,none⟩=some (vL g o 1 ac)/\W.cell? ⟨pb,po + 10,none⟩=some (vL cb co 1 cc)/\ClAt W cb co 1 nm ⟨#[]⟩):=fun W hW=>by
  obtain ⟨N',p',hW⟩:=hW
  have e:=phAt_c (hu ▸ (hP.at hW).c)
  have hk:=hW.k cb hcb hcbl hcbs
  have hc:=hc1.keep hk
  exact ⟨e.c9,e.c10,⟨hc 0 (by simp),hc 1 (by simp),hc 2 (by simp),Nat.le_trans hn (by decide),by decide⟩⟩
 obtain ⟨i0,hi0,iz0,iz1,iz2⟩:=info_parts infoClU
 have c10:=(HPX.out w ⟨_,_,hX⟩).2.1
 clear hP hB hX hv hb hel hel2 hb1 hb2 hcl hcl2 hc1 hc2 hu hN
 go_enter Tryz.func57,Tryz.ntmps57
 go_wp2
 refine LoopN.wp 2 (LoopN.next ?_)
 go_upto_region 5 with fail
 obtain ⟨wr,hwr⟩:∃ W,W=w.alloc (.cells zA 29):=⟨_,rfl⟩
 have HX1:Hid (XS w lb tb ob sb N p wr):=by rw [hwr];exact HX.out.alloc _
 have HR1:Hid (wr.heap[w.heap.size]?=some (.cells zA 29)):=by rw [hwr];exact heap_alloc_new _ _
 have hz1r:w.heap.size + 1<=wr.heap.size:=by rw [hwr];simp
 rw [<- hwr]
 clear hwr c10 HX
 refine wp_region_slots (by kernel_rfl) (fun j v W=>match j with | 0=>v=(vP pb po) | 1=>v=(vP pb po) | 2=>v=(vP pb (po + 10)) | 3=>v=(vL cb co 1 cc) | 4=>v=(vI 0) | 5=>v=(vP cb co) | 6=>v=(vP lb 0) | 7=>v=(vP pb po) | 8=>v=(vP pb po) | 9=>v=(vP pb (po + 10)) | 10=>v=(vL cb co 1 cc) | 11=>v=(vI 0) | 12=>v=(vP cb co) | 13=>v=(vP cb (co + 4)) | _=>True) (FxU w lb tb ob sb N p q1 X0 cb co wr) (by kernel_rfl) (by kernel_rfl) (FxT.start HX1.out) ?_ ?_
 · intro l a W i o hsz h ho hl haf
   obtain ⟨t,fx⟩:=h.more
   have hts:a.tmps.size=112:=h.size.trans rfl
   have hi:i<18:=(gI ho).1
   obtain rfl | rfl | rfl | rfl | rfl | rfl | rfl | rfl | rfl | rfl | rfl | rfl | rfl | rfl | rfl | rfl | rfl | rfl:i=0\/i=1\/i=2\/i=3\/i=4\/i=5\/i=6\/i=7\/i=8\/i=9\/i=10\/i=11\/i=12\/i=13\/i=14\/i=15\/i=16\/i=17:=by omega
   all_goals (obtain rfl:=Option.some.inj ho;rw [if_pos (want_none rfl)])
   · have e1:=h.given 1 _ rfl (by kernel_rfl)
     refine wp_val (v:=vP pb po) (w':=W) ?_ ⟨_,rfl,rfl,fun _ _ h=>h,fx.pure (by decide) (by decide)⟩
     unfold execOp
     simp [e1,go_sem]
   · obtain ⟨u19,e19,x19⟩:=h.new 0 _ 19 rfl rfl (haf ⟨0,.data⟩ (by simp) rfl)
     have y19:u19=(vP pb po):=x19
     subst y19
     refine wp_val (v:=vP pb po) (w':=W) ?_ ⟨_,rfl,rfl,fun _ _ h=>h,fx.pure (by decide) (by decide)⟩
     unfold execOp
     simp [e19,go_sem]
   · obtain ⟨u20,e20,x20⟩:=h.new 1 _ 20 rfl rfl (haf ⟨1,.data⟩ (by simp) rfl)
     have y20:u20=(vP pb po):=x20
     subst y20
     refine wp_val (v:=vP pb (po + 10)) (w':=W) ?_ ⟨_,rfl,rfl,fun _ _ h=>h,fx.pure (by decide) (by decide)⟩
     unfold execOp
     simp [e20,go_sem]
   · obtain ⟨u21,e21,x21⟩:=h.new 2 _ 21 rfl rfl (haf ⟨2,.data⟩ (by simp) rfl)
     have y21:u21=(vP pb (po + 10)):=x21
     subst y21
     have c_:=(HPX.out W fx.xk).2.1
     refine wp_val (v:=vL cb co 1 cc) (w':=W) ?_ ⟨_,rfl,rfl,fun _ _ h=>h,fx.pure (by decide) (by decide)⟩
     unfold execOp
     simp [e21,c_,go_sem]
   · have e6:=h.given 6 _ rfl (by kernel_rfl)
     refine wp_val (v:=vI 0) (w':=W) ?_ ⟨_,rfl,rfl,fun _ _ h=>h,fx.pure (by decide) (by decide)⟩
     unfold execOp
     simp [e6,go_sem]
   · obtain ⟨u22,e22,x22⟩:=h.new 3 _ 22 rfl rfl (haf ⟨3,.data⟩ (by simp) rfl)
     have y22:u22=(vL cb co 1 cc):=x22
     subst y22
     obtain ⟨u23,e23,x23⟩:=h.new 4 _ 23 rfl rfl (haf ⟨4,.data⟩ (by simp) rfl)
     have y23:u23=(vI 0):=x23
     subst y23
     refine wp_val (v:=vP cb co) (w':=W) ?_ ⟨_,rfl,rfl,fun _ _ h=>h,fx.pure (by decide) (by decide)⟩
     unfold execOp
     simp [e22,e23,go_sem]
   · have e0:=h.given 0 _ rfl (by kernel_rfl)
     refine wp_val (v:=vP lb 0) (w':=W) ?_ ⟨_,rfl,rfl,fun _ _ h=>h,fx.pure (by decide) (by decide)⟩
     unfold execOp
     simp [e0,go_sem]
   · have e1:=h.given 1 _ rfl (by kernel_rfl)
     refine wp_val (v:=vP pb po) (w':=W) ?_ ⟨_,rfl,rfl,fun _ _ h=>h,fx.pure (by decide) (by decide)⟩
     unfold execOp
     simp [e1,go_sem]
   · obtain ⟨u26,e26,x26⟩:=h.new 7 _ 26 rfl rfl (haf ⟨7,.data⟩ (by simp) rfl)
     have y26:u26=(vP pb po):=x26
     subst y26
     refine wp_val (v:=vP pb po) (w':=W) ?_ ⟨_,rfl,rfl,fun _ _ h=>h,fx.pure (by decide) (by decide)⟩
     unfold execOp
     simp [e26,go_sem]
   · obtain ⟨u27,e27,x27⟩:=h.new 8 _ 27 rfl rfl (haf ⟨8,.data⟩ (by simp) rfl)
     have y27:u27=(vP pb po):=x27
     subst y27
     refine wp_val (v:=vP pb (po + 10)) (w':=W) ?_ ⟨_,rfl,rfl,fun _ _ h=>h,fx.pure (by decide) (by decide)⟩
     unfold execOp
     simp [e27,go_sem]
   · obtain ⟨u28,e28,x28⟩:=h.new 9 _ 28 rfl rfl (haf ⟨9,.data⟩ (by simp) rfl)
     have y28:u28=(vP pb (po + 10)):=x28
     subst y28
     have c_:=(HPX.out W fx.xk).2.1
     refine wp_val (v:=vL cb co 1 cc) (w':=W) ?_ ⟨_,rfl,rfl,fun _ _ h=>h,fx.pure (by decide) (by decide)⟩
     unfold execOp
     simp [e28,c_,go_sem]
   · have e6:=h.given 6 _ rfl (by kernel_rfl)
     refine wp_val (v:=vI 0) (w':=W) ?_ ⟨_,rfl,rfl,fun _ _ h=>h,fx.pure (by decide) (by decide)⟩
     unfold execOp
     simp [e6,go_sem]
   · obtain ⟨u29,e29,x29⟩:=h.new 10 _ 29 rfl rfl (haf ⟨10,.data⟩ (by simp) rfl)
     have y29:u29=(vL cb co 1 cc):=x29
     subst y29
     obtain ⟨u30,e30,x30⟩:=h.new 11 _ 30 rfl rfl (haf ⟨11,.data⟩ (by simp) rfl)
     have y30:u30=(vI 0):=x30
     subst y30
     refine wp_val (v:=vP cb co) (w':=W) ?_ ⟨_,rfl,rfl,fun _ _ h=>h,fx.pure (by decide) (by decide)⟩
     unfold execOp
     simp [e29,e30,go_sem]
   · obtain ⟨u31,e31,x31⟩:=h.new 12 _ 31 rfl rfl (haf ⟨12,.data⟩ (by simp) rfl)
     have y31:u31=(vP cb co):=x31
     subst y31
     refine wp_val (v:=vP cb (co + 4)) (w':=W) ?_ ⟨_,rfl,rfl,fun _ _ h=>h,fx.pure (by decide) (by decide)⟩
     unfold execOp
     simp [e31,go_sem]
   · obtain ⟨u25,e25,x25⟩:=h.new 6 _ 25 rfl rfl (haf ⟨6,.data⟩ (by simp) rfl)
     have y25:u25=(vP lb 0):=x25
     subst y25
     obtain ⟨u32,e32,x32⟩:=h.new 13 _ 32 rfl rfl (haf ⟨13,.data⟩ (by simp) rfl)
     have y32:u32=(vP cb (co + 4)):=x32
     subst y32
     have m14:l.getD 14 false=false:=getD_of hl
     have m15:=h.later 15 14 _ ⟨14,.data⟩ rfl (by simp) rfl rfl hl
     have m17:=h.later 17 14 _ ⟨14,.chain⟩ rfl (by simp) rfl rfl hl
     refine wp_enter (f:=24) (args:=#[vP lb 0,vP cb (co + 4)]) (w':=W) ?_ ((HV.out.use HB.out (fx.s0 m14) HCV.out).mono ?_)
     · unfold execOp
       simp [e25,e32,go_sem]
     · rintro e W' ⟨x0,x1,x2,x6,x7,x8,y3,y4,y5,y9,b10,l10,m10,hx,rfl,hs,hk,hz⟩
       exact ⟨_,rfl,_,rfl,trivial,fun _ _ h=>h,fx.call hsz hts m14 m15 m17 (u:=(eL x0 x1 x2 y3 y4 y5 x6 x7 x8 y9 b10 l10 m10)) hx hs hk hz hlw hsw⟩
   · obtain ⟨u24,e24,x24⟩:=h.new 5 _ 24 rfl rfl (haf ⟨5,.data⟩ (by simp) rfl)
     have y24:u24=(vP cb co):=x24
     subst y24
     obtain ⟨u,e33,hxu⟩:=fx.x (haf ⟨14,.data⟩ (by simp) rfl)
     obtain ⟨x0,x1,x2,x6,x7,x8,y3,y4,y5,y9,b10,l10,m10,rfl⟩:=hxu.form
     have m17:=h.later 17 15 _ ⟨15,.data⟩ rfl (by simp) rfl rfl hl
     refine wp_val (v:=.agg #[vP cb co,vI (x0),vI (x1),vI (x2),vS y3,vS y4,vS y5,vI (x6),vI (x7),vI (x8),vS y9,.slice b10 l10 m10]) (w':=W) ?_ ⟨_,rfl,trivial,fun _ _ h=>h,fx.build hsz hts m17 hxu⟩
     unfold execOp
     simp [e24,e33,go_sem]
   · have m17:=h.later 17 16 _ ⟨16,.data⟩ rfl (by simp) rfl rfl hl
     refine wp_val (v:=vP W.heap.size 0) (w':=W.alloc (.cells #[.pointer none,vI 0,vI 0,vI 0,vE,vE,vE,vI 0,vI 0,vI 0,vE,vN] 135)) ?_ ⟨_,rfl,trivial,fun _ _ h=>h,fx.alloc hsz hts (getD_of hl) m17⟩
     unfold execOp
     simp [go_sem]
   · have m17:l.getD 17 false=false:=getD_of hl
     have h16:l.getD 16 false=true:=haf ⟨16,.data⟩ (by simp) rfl
     have et:=(fx.b h16).1
     have c_:=fx.bz h16 m17
     obtain ⟨u,e34,hxu⟩:=fx.y (haf ⟨15,.data⟩ (by simp) rfl)
     obtain ⟨x0,x1,x2,x6,x7,x8,y3,y4,y5,y9,b10,l10,m10,rfl⟩:=hxu.form
     have e34':a.tmps[34]?=some (.agg #[vP cb co,vI (x0),vI (x1),vI (x2),vS y3,vS y4,vS y5,vI (x6),vI (x7),vI (x8),vS y9,.slice b10 l10 m10]):=e34
     obtain ⟨z0,z1,z2,z3,z4,z5,z6,z7,z8,z9,z10,z11,zf⟩:=bk12f c_
     obtain ⟨W',hW'⟩:∃ V,V=((((((((((((W).setCell ⟨t,0,none⟩ (vP cb co)).setCell ⟨t,1,none⟩ (vI (x0))).setCell ⟨t,2,none⟩ (vI (x1))).setCell ⟨t,3,none⟩ (vI (x2))).setCell ⟨t,4,none⟩ (vS y3)).setCell ⟨t,5,none⟩ (vS y4)).setCell ⟨t,6,none⟩ (vS y5)).setCell ⟨t,7,none⟩ (vI (x6))).setCell ⟨t,8,none⟩ (vI (x7))).setCell ⟨t,9,none⟩ (vI (x8))).setCell ⟨t,10,none⟩ (vS y9)).setCell ⟨t,11,none⟩ (.slice b10 l10 m10):=⟨_,rfl⟩
     have hP:W'=putL W t 0 [vP cb co,vI (x0),vI (x1),vI (x2),vS y3,vS y4,vS y5,vI (x6),vI (x7),vI (x8),vS y9,.slice b10 l10 m10]:=hW'
     refine wp_skip (w':=W') ?_ ⟨undef,rfl,trivial,fun _ _ h=>h,by rw [hP];exact fx.store hsz h16 m17 hlw hsw hxu⟩
     rw [hW']
     clear hP hW'
     unfold execOp
     simp [et,e34',z0,z1,z2,z3,z4,z5,z6,z7,z8,z9,z10,z11,zf,go_sem]
 · intro v W1 hv hs hg
   obtain ⟨T,e7,hT0,hT1,u1,hT2,hXu,hX1,hk1,hz1⟩:=FxU.fin (n:=18) (by decide) hg
   obtain ⟨x0,x1,x2,x6,x7,x8,y3,y4,y5,y9,b10,l10,m10,rfl⟩:=hXu.form
   have e16:v 16=vP T 0:=Option.some.inj ((hs 16 _ 7 rfl rfl).symm.trans e7)
   have HT2:Hid (W1.heap[T]?=some (.cells #[vP cb co,vI (x0),vI (x1),vI (x2),vS y3,vS y4,vS y5,vI (x6),vI (x7),vI (x8),vS y9,.slice b10 l10 m10] 135)):=hT2
   have HU2:=hidC hXu
   have HX2:=hidC hX1
   have HK2:=hidC hk1
   simp only [putAll,Act.put,List.setIfInBounds_toArray,List.set_cons_succ,List.set_cons_zero]
   rw [e16]
   generalize v 0=s0,v 1=s1,v 2=s2,v 3=s3,v 4=s4,v 5=s5,v 6=s6,v 7=s7,v 8=s8,v 9=s9,v 10=s10,v 11=s11,v 12=s12,v 13=s13,v 14=s14,v 15=s15 at *
   obtain ⟨c0,c1,c2,c3,c4,c5,c6,c7,c8,c9,c10,c11⟩:=bk12 hT2
   clear hv hs hg e7 e16 hT2 hXu hX1 hk1
   go_wp2_with (first
    | (go_at_call 96;refine (keeps_is lb _ _ _ q1 _ W1 HX2.out.l (by omega)).mono ?_;rintro e w2 ⟨rfl,hw2⟩;obtain rfl:=hw2.symm)
    | (at_builtin;go_loud (refine wpList_append_own _ rfl (.tmp 37) (.tmp 39) 130 rfl (w.heap.size + 1) 135 i0 _ 12 144 Tryz.underlying130 hi0 iz0 iz1 iz2 rfl (by decide) _ _ _ rfl (World.ownsRow_nil _ _ _ _) ⟨W1.heap.size,0,none⟩ 1 1 [vP cb co,vI (x0),vI (x1),vI (x2),vS y3,vS y4,vS y5,vI (x6),vI (x7),vI (x8),vS y9,.slice b10 l10 m10] rfl rfl (rowU_in [vP cb co,vI (x0),vI (x1),vI (x2),vS y3,vS y4,vS y5,vI (x6),vI (x7),vI (x8),vS y9,.slice b10 l10 m10]) (rowU_one HU2.out) (by unfold maxLen;omega) (by omega) (by simp <;> omega) ?_;intro v6 w8 hown6 hgrow6 _;obtain ⟨va6,vc6,rfl⟩:=own_shapeU hown6)))
   have HV8:Hid (w8.ownsRow (w.heap.size + 1) 135 12 (.slice va6 1 vc6) 1 [vP cb co,vI (x0),vI (x1),vI (x2),vS y3,vS y4,vS y5,vI (x6),vI (x7),vI (x8),vS y9,.slice b10 l10 m10]):=hown6
   have HBW8:Hid (Below W1.heap.size W1 w8):=(((Below.refl _ _).alloc (Nat.le_refl _) _).grown hgrow6 (by simp) (fun z hz=>by cases hz))
   have hz8:W1.heap.size + 1<=w8.heap.size:=by have:=hgrow6.size;simp at this;omega
   have HX8:=hidC (HX2.out.below HBW8.out)
   have HT8:=hidC ((HBW8.out.block T hT1).trans HT2.out)
   have HL8:=hidC HX8.out.l
   have HSM8:=hidC HX8.out.s
   have HCLJ:Hid (∀ W:World,(∀ c,c<w8.heap.size->c≠sb->W.heap[c]?=w8.heap[c]?)->w8.heap.size<=W.heap.size->ClAt W cb co 1 nm ⟨#[]⟩):=fun W h1 h2=>(HPX.out w8 ⟨_,_,HX8.out⟩).2.2.block (h1 cb (by have:=HX8.out.z;omega) hcbs)
   have hB0:B0<=w8.heap.size:=by omega
   clear hown6 hgrow6 HX2 HT2 c0 c1 c2 c3 c4 c5 c6 c7 c8 c9 c10 c11
   refine wp_region_slots (by kernel_rfl) (fun j v W=>(match j with | 0=>v=(vP lb 0) | 1=>v=(vP lb 0) | 2=>v=(vP lb 2) | 3=>v=(.map (some sb)) | 4=>v=(vP T 0) | 5=>v=(vP cb co) | 7=>v=(.tuple #[]) | _=>True)/\(j=6->∃ n6:Nat,v=(vL n6 0 2 2)/\w8.heap.size<=n6/\W.heap[n6]?=some (.cells #[vS nm,vE] 9))) (fun l a W=>Below B0 w8 W/\w8.heap.size<=W.heap.size/\W.heap[lb]?=some (.cells #[.map (some tb),.map (some ob),.map (some sb),vI (((q1:Nat):Int)),vI 0] 73)/\W.heap[T]?=some (.cells #[vP cb co,vI (x0),vI (x1),vI (x2),vS y3,vS y4,vS y5,vI (x6),vI (x7),vI (x8),vS y9,.slice b10 l10 m10] 135)/\(∀ c,c<w8.heap.size->c≠sb->W.heap[c]?=w8.heap[c]?)/\((l.getD 7 false=false->SMap W sb N)/\(l.getD 7 false=true->SMap W sb (inN N nm)))) (by kernel_rfl) (by kernel_rfl) ⟨(Below.refl _ _).trans ⟨rfl,rfl,rfl,Nat.le_refl _,fun _ _=>rfl⟩,Nat.le_refl _,HL8.out,HT8.out,fun c _ _=>rfl,⟨fun _=>HSM8.out,fun e7=>by rw [Array.getD_eq_getD_getElem?,Array.getElem?_replicate] at e7;split at e7 <;> cases e7⟩⟩ ?_ ?_
   · intro l a W i o hsz h ho hl haf
     obtain ⟨g1,g0,b0,b1,gr,ex⟩:=h.more
     have gz:B0<=W.heap.size:=Nat.le_trans (by first | exact Nat.le_refl _ | omega) g0
     have hi:i<8:=(gI ho).1
     obtain rfl | rfl | rfl | rfl | rfl | rfl | rfl | rfl:i=0\/i=1\/i=2\/i=3\/i=4\/i=5\/i=6\/i=7:=by omega
     all_goals (obtain rfl:=Option.some.inj ho;rw [if_pos (want_none rfl)])
     · have e0:=h.given 0 _ rfl (by kernel_rfl)
       have m1:=h.later 1 0 _ ⟨0,.data⟩ rfl (by simp) rfl rfl hl
       have m2:=h.later2 2 1 _ ⟨1,.data⟩ rfl (by simp) rfl rfl m1
       have m3:=h.later2 3 2 _ ⟨2,.data⟩ rfl (by simp) rfl rfl m2
       have m7:=h.later2 7 3 _ ⟨3,.data⟩ rfl (by simp) rfl rfl m3
       refine wp_val (v:=vP lb 0) (w':=W) ?_ ⟨_,rfl,⟨rfl,fun e=>absurd e (by decide)⟩,fun _ _ h=>h,g1,g0,b0,b1,(fun c h1 h2=>gr c h1 h2),⟨fun _=>(ex.1 m7).keep (rfl),fun e7=>absurd ((set_other_get (show 0≠7 by decide)).symm.trans e7) (by rw [m7];decide)⟩⟩
       unfold execOp
       simp [e0,go_sem]
     · obtain ⟨u41,e41,x41⟩:=h.new 0 _ 41 rfl rfl (haf ⟨0,.data⟩ (by simp) rfl)
       have y41:u41=(vP lb 0):=x41.1
       subst y41
       have m2:=h.later 2 1 _ ⟨1,.data⟩ rfl (by simp) rfl rfl hl
       have m3:=h.later2 3 2 _ ⟨2,.data⟩ rfl (by simp) rfl rfl m2
       have m7:=h.later2 7 3 _ ⟨3,.data⟩ rfl (by simp) rfl rfl m3
       refine wp_val (v:=vP lb 0) (w':=W) ?_ ⟨_,rfl,⟨rfl,fun e=>absurd e (by decide)⟩,fun _ _ h=>h,g1,g0,b0,b1,(fun c h1 h2=>gr c h1 h2),⟨fun _=>(ex.1 m7).keep (rfl),fun e7=>absurd ((set_other_get (show 1≠7 by decide)).symm.trans e7) (by rw [m7];decide)⟩⟩
       unfold execOp
       simp [e41,go_sem]
     · obtain ⟨u42,e42,x42⟩:=h.new 1 _ 42 rfl rfl (haf ⟨1,.data⟩ (by simp) rfl)
       have y42:u42=(vP lb 0):=x42.1
       subst y42
       have m3:=h.later 3 2 _ ⟨2,.data⟩ rfl (by simp) rfl rfl hl
       have m7:=h.later2 7 3 _ ⟨3,.data⟩ rfl (by simp) rfl rfl m3
       refine wp_val (v:=vP lb 2) (w':=W) ?_ ⟨_,rfl,⟨rfl,fun e=>absurd e (by decide)⟩,fun _ _ h=>h,g1,g0,b0,b1,(fun c h1 h2=>gr c h1 h2),⟨fun _=>(ex.1 m7).keep (rfl),fun e7=>absurd ((set_other_get (show 2≠7 by decide)).symm.trans e7) (by rw [m7];decide)⟩⟩
       unfold execOp
       simp [e42,go_sem]
     · obtain ⟨u43,e43,x43⟩:=h.new 2 _ 43 rfl rfl (haf ⟨2,.data⟩ (by simp) rfl)
       have y43:u43=(vP lb 2):=x43.1
       subst y43
       have m7:=h.later 7 3 _ ⟨3,.data⟩ rfl (by simp) rfl rfl hl
       have c_:=b0
       obtain ⟨c0,c1,c2,c3,c4,_,_⟩:=bk5 c_
       refine wp_val (v:=.map (some sb)) (w':=W) ?_ ⟨_,rfl,⟨rfl,fun e=>absurd e (by decide)⟩,fun _ _ h=>h,g1,g0,b0,b1,(fun c h1 h2=>gr c h1 h2),⟨fun _=>(ex.1 m7).keep (rfl),fun e7=>absurd ((set_other_get (show 3≠7 by decide)).symm.trans e7) (by rw [m7];decide)⟩⟩
       unfold execOp
       simp [e43,c2,go_sem]
     · have e7:=h.given 7 _ rfl (by kernel_rfl)
       have m5:=h.later 5 4 _ ⟨4,.data⟩ rfl (by simp) rfl rfl hl
       have m6:=h.later2 6 5 _ ⟨5,.data⟩ rfl (by simp) rfl rfl m5
       have m7:=h.later2 7 6 _ ⟨6,.chain⟩ rfl (by simp) rfl rfl m6
       refine wp_val (v:=vP T 0) (w':=W) ?_ ⟨_,rfl,⟨rfl,fun e=>absurd e (by decide)⟩,fun _ _ h=>h,g1,g0,b0,b1,(fun c h1 h2=>gr c h1 h2),⟨fun _=>(ex.1 m7).keep (rfl),fun e7=>absurd ((set_other_get (show 4≠7 by decide)).symm.trans e7) (by rw [m7];decide)⟩⟩
       unfold execOp
       simp [e7,go_sem]
     · obtain ⟨u45,e45,x45⟩:=h.new 4 _ 45 rfl rfl (haf ⟨4,.data⟩ (by simp) rfl)
       have y45:u45=(vP T 0):=x45.1
       subst y45
       have m6:=h.later 6 5 _ ⟨5,.data⟩ rfl (by simp) rfl rfl hl
       have m7:=h.later2 7 6 _ ⟨6,.chain⟩ rfl (by simp) rfl rfl m6
       have c_:=b1
       obtain ⟨c0,c1,c2,c3,c4,c5,c6,c7,c8,c9,c10,c11⟩:=bk12 c_
       refine wp_val (v:=vP cb co) (w':=W) ?_ ⟨_,rfl,⟨rfl,fun e=>absurd e (by decide)⟩,fun _ _ h=>h,g1,g0,b0,b1,(fun c h1 h2=>gr c h1 h2),⟨fun _=>(ex.1 m7).keep (rfl),fun e7=>absurd ((set_other_get (show 5≠7 by decide)).symm.trans e7) (by rw [m7];decide)⟩⟩
       unfold execOp
       simp [e45,c0,go_sem]
     · obtain ⟨u46,e46,x46⟩:=h.new 5 _ 46 rfl rfl (haf ⟨5,.data⟩ (by simp) rfl)
       have y46:u46=(vP cb co):=x46.1
       subst y46
       have m7:=h.later 7 6 _ ⟨6,.chain⟩ rfl (by simp) rfl rfl hl
       refine wp_enter (f:=97) (args:=#[vP cb co]) (w':=W) ?_ ((namesOf_forU cb co nm ⟨#[]⟩ W (HCLJ.out W gr g0)).mono ?_)
       · unfold execOp
         simp [e46,go_sem]
       · rintro e W' ⟨n6,rfl,hb,q1,hs6⟩
         exact ⟨_,rfl,_,rfl,⟨trivial,fun _=>⟨n6,rfl,by omega,hs6⟩⟩,fun j u hd=>⟨hd.1,fun e=>by obtain ⟨n6,ev,p_n6,f_n6⟩:=hd.2 e;exact ⟨n6,ev,p_n6,blC hb (gI (f_n6)).1 (f_n6)⟩⟩,g1.trans (hb.mono gz),Nat.le_trans g0 hb.size,blC hb (gI (b0)).1 (b0),blC hb (gI (b1)).1 (b1),(fun c h1 h2=>(hb.block c (Nat.lt_of_lt_of_le h1 g0)).trans (gr c h1 h2)),⟨fun _=>(ex.1 m7).keep (hb.block _ (ex.1 m7).lt),fun e7=>absurd ((set_other_get (show 6≠7 by decide)).symm.trans e7) (by rw [m7];decide)⟩⟩
     · obtain ⟨u44,e44,x44⟩:=h.new 3 _ 44 rfl rfl (haf ⟨3,.data⟩ (by simp) rfl)
       have y44:u44=(.map (some sb)):=x44.1
       subst y44
       obtain ⟨u47,e47,x47⟩:=h.new 6 _ 47 rfl rfl (haf ⟨6,.chain⟩ (by simp) rfl)
       obtain ⟨n6,rfl,p_n6,f_n6⟩:=x47.2 rfl
       have m7:l.getD 7 false=false:=by rw [Array.getD_eq_getD_getElem?] at hl ⊢;cases hx:l[7]? with | none=>rfl | some bb=>rw [hx] at hl;exact hl
       refine wp_enter (f:=37) (args:=#[.map (some sb),vL n6 0 2 2]) (w':=W) ?_ ((enter_is sb N [nm,⟨#[]⟩] _ W (ex.1 m7) (txts_two f_n6) HLN.out HNN.out).mono ?_)
       · unfold execOp
         simp [e44,e47,go_sem]
       · rintro e W' ⟨rfl,hs,ht⟩
         exact ⟨_,rfl,_,rfl,⟨rfl,fun e=>absurd e (by decide)⟩,fun j u hd=>⟨hd.1,fun e=>by obtain ⟨n6,ev,p_n6,f_n6⟩:=hd.2 e;exact ⟨n6,ev,p_n6,(ht.2.1 _ (by omega)).trans (f_n6)⟩⟩,g1.trans (ht.below (by omega)),Nat.le_trans g0 (Nat.le_of_eq ht.1.symm),(ht.2.1 _ (by omega)).trans (b0),(ht.2.1 _ (by omega)).trans (b1),(fun c h1 h2=>(ht.2.1 c h2).trans (gr c h1 h2)),⟨fun e7=>absurd ((set_this_get (i:=7) (n:=8) hsz (by decide)).symm.trans e7) (by decide),fun _=>hs⟩⟩
   · intro v W9 hv hs hg
     obtain ⟨u1,u0',yl,yT,yr,ex⟩:=hg
     simp only [putAll,Act.put,List.setIfInBounds_toArray,List.set_cons_succ,List.set_cons_zero]
     generalize v 0=r0,v 1=r1,v 2=r2,v 3=r3,v 4=r4,v 5=r5,v 6=r6,v 7=r7 at *
     have HX9:Hid (XS w lb tb ob sb (inN N nm) q1 W9):=⟨yl,ex.2 rfl,Nat.le_trans HX8.out.z u0',u1.os.trans HX8.out.os,u1.tape.trans HX8.out.tape,u1.output.trans HX8.out.output,fun b h0 h1 h2=>(yr b (by have:=HX8.out.z;omega) h2).trans (HX8.out.k b h0 h1 h2)⟩
     have HM9:Hid (∀ c,c<W1.heap.size->c≠sb->W9.heap[c]?=W1.heap[c]?):=fun c h1 h2=>(yr c (by omega) h2).trans (HBW8.out.block c h1)
     have HV9:=hidC (ownsRow_keptU HV8.out (fun b h1 h2=>yr b h2 (by omega)))
     have hz9:w8.heap.size<=W9.heap.size:=u0'
     have p9:=(HPX.out W9 ⟨_,_,HX9.out⟩).1
     have hpw9:pb<W9.heap.size:=by omega
     clear hv hs u1 u0' yl yT yr ex HV8 HX8 HBW8 HT8 HL8 HSM8 HCLJ
     go_wp2
     refine LoopN.next ?_
     go_wp2_with (go_at_call 24;refine (HY.out.use HB.out HX9.out HCH.out).mono ?_;rintro e w10 ⟨X0',X1,X2,X6,X7,X8,Y3,Y4,Y5,Y9,B10,L10,M10,hx,rfl,hs,hk,hz⟩;have HX10:=hidC hs;have HK10:=hidC hk;have HW10:=hidC hx;have hz10:=hz;have p10:=(HPX.out w10 ⟨_,_,hs⟩).2.1;have hpw10:pb<w10.heap.size:=(by omega);clear hx hs hk hz p9)
     obtain ⟨wq,hwq⟩:∃ W,W=w10.alloc (.cells (eA X0' X1 X2 Y3 Y4 Y5 X6 X7 X8 Y9 B10 L10 M10) 29):=⟨_,rfl⟩
     have HXq:Hid (XS w lb tb ob sb (inN N nm) q wq):=hidC (by rw [hwq];exact HX10.out.alloc _)
     have HYq:Hid (wq.heap[w10.heap.size]?=some (.cells (eA X0' X1 X2 Y3 Y4 Y5 X6 X7 X8 Y9 B10 L10 M10) 29)):=hidC (by rw [hwq];exact aNew rfl)
     have hzq:wq.heap.size=w10.heap.size + 1:=by rw [hwq];simp
     have HMq:Hid (∀ c,c<W1.heap.size->c≠lb->c≠sb->wq.heap[c]?=W1.heap[c]?):=hidC (fun c h1 h2 h3=>by rw [hwq];exact (Below.heap_alloc _ _ c (by omega)).trans ((HK10.out c (by omega) h2 h3).trans (HM9.out c h1 h3)))
     have HVq:=hidC (ownsRow_keptU (w':=wq) HV9.out (fun b h1 h2=>by rw [hwq];exact (Below.heap_alloc _ _ b (by omega)).trans (HK10.out b h2 (by omega) (by omega))))
     have HWq:Hid (X.W wq (fun b=>W9.heap.size<=b/\b<w10.heap.size) (eL X0' X1 X2 Y3 Y4 Y5 X6 X7 X8 Y9 B10 L10 M10)):=hidC (Ex.W.keep (fun b q=>q) (fun b q=>by rw [hwq];exact Below.heap_alloc _ _ b q.2) HW10.out)
     rw [<- hwq]
     clear hwq p10 HX10 HK10 HW10 HV9 HX9 HM9
     have HLq:=hidC HXq.out.l
     have HSMq:=hidC HXq.out.s
     obtain ⟨obp,hobp⟩:∃ o,wq.heap[pb]?=some o:=⟨_,Array.getElem?_eq_getElem (by omega)⟩
     have HOQ:=hidC hobp
     have pq:=(HPX.out wq ⟨_,_,HXq.out⟩).2.1
     have PQ:=hidC pq
     have HCLK:Hid (∀ W:World,(∀ c,c<wq.heap.size->c≠sb->W.heap[c]?=wq.heap[c]?)->wq.heap.size<=W.heap.size->ClAt W cb co 1 nm ⟨#[]⟩):=fun W h1 h2=>(HPX.out wq ⟨_,_,HXq.out⟩).2.2.block (h1 cb (by have:=HXq.out.z;omega) hcbs)
     have hB0q:B0<=wq.heap.size:=by omega
     refine LoopN.wp 2 (LoopN.next ?_)
     go_upto_region 14 with fail
     clear hobp pq
     refine wp_region_slots (by kernel_rfl) (fun j v W=>(match j with | 0=>v=(vP lb 0) | 1=>v=(vP lb 0) | 2=>v=(vP lb 2) | 3=>v=(.map (some sb)) | 4=>v=(vP pb po) | 5=>v=(vP pb po) | 6=>v=(vP pb (po + 10)) | 7=>v=(vL cb co 1 cc) | 8=>v=(vI 0) | 9=>v=(vP cb co) | 11=>v=(.tuple #[]) | _=>True)/\(j=10->∃ n10:Nat,v=(vL n10 0 2 2)/\wq.heap.size<=n10/\W.heap[n10]?=some (.cells #[vS nm,vE] 9))) (fun l a W=>Below B0 wq W/\wq.heap.size<=W.heap.size/\W.heap[lb]?=some (.cells #[.map (some tb),.map (some ob),.map (some sb),vI (((q:Nat):Int)),vI 0] 73)/\W.heap[pb]?=some (obp)/\(∀ c,c<wq.heap.size->c≠sb->W.heap[c]?=wq.heap[c]?)/\((l.getD 11 false=false->SMap W sb (inN N nm))/\(l.getD 11 false=true->SMap W sb N))) (by kernel_rfl) (by kernel_rfl) ⟨(Below.refl _ _).trans ⟨rfl,rfl,rfl,Nat.le_refl _,fun _ _=>rfl⟩,Nat.le_refl _,HLq.out,HOQ.out,fun c _ _=>rfl,⟨fun _=>HSMq.out,fun e7=>by rw [Array.getD_eq_getD_getElem?,Array.getElem?_replicate] at e7;split at e7 <;> cases e7⟩⟩ ?_ ?_
     · intro l a W i o hsz h ho hl haf
       obtain ⟨g1,g0,b0,b1,gr,ex⟩:=h.more
       have gz:B0<=W.heap.size:=Nat.le_trans (by first | exact Nat.le_refl _ | omega) g0
       have hi:i<12:=(gI ho).1
       obtain rfl | rfl | rfl | rfl | rfl | rfl | rfl | rfl | rfl | rfl | rfl | rfl:i=0\/i=1\/i=2\/i=3\/i=4\/i=5\/i=6\/i=7\/i=8\/i=9\/i=10\/i=11:=by omega
       all_goals (obtain rfl:=Option.some.inj ho;rw [if_pos (want_none rfl)])
       · have e0:=h.given 0 _ rfl (by kernel_rfl)
         have m1:=h.later 1 0 _ ⟨0,.data⟩ rfl (by simp) rfl rfl hl
         have m2:=h.later2 2 1 _ ⟨1,.data⟩ rfl (by simp) rfl rfl m1
         have m3:=h.later2 3 2 _ ⟨2,.data⟩ rfl (by simp) rfl rfl m2
         have m11:=h.later2 11 3 _ ⟨3,.data⟩ rfl (by simp) rfl rfl m3
         refine wp_val (v:=vP lb 0) (w':=W) ?_ ⟨_,rfl,⟨rfl,fun e=>absurd e (by decide)⟩,fun _ _ h=>h,g1,g0,b0,b1,(fun c h1 h2=>gr c h1 h2),⟨fun _=>(ex.1 m11).keep (rfl),fun e7=>absurd ((set_other_get (show 0≠11 by decide)).symm.trans e7) (by rw [m11];decide)⟩⟩
         unfold execOp
         simp [e0,go_sem]
       · obtain ⟨u65,e65,x65⟩:=h.new 0 _ 65 rfl rfl (haf ⟨0,.data⟩ (by simp) rfl)
         have y65:u65=(vP lb 0):=x65.1
         subst y65
         have m2:=h.later 2 1 _ ⟨1,.data⟩ rfl (by simp) rfl rfl hl
         have m3:=h.later2 3 2 _ ⟨2,.data⟩ rfl (by simp) rfl rfl m2
         have m11:=h.later2 11 3 _ ⟨3,.data⟩ rfl (by simp) rfl rfl m3
         refine wp_val (v:=vP lb 0) (w':=W) ?_ ⟨_,rfl,⟨rfl,fun e=>absurd e (by decide)⟩,fun _ _ h=>h,g1,g0,b0,b1,(fun c h1 h2=>gr c h1 h2),⟨fun _=>(ex.1 m11).keep (rfl),fun e7=>absurd ((set_other_get (show 1≠11 by decide)).symm.trans e7) (by rw [m11];decide)⟩⟩
         unfold execOp
         simp [e65,go_sem]
       · obtain ⟨u66,e66,x66⟩:=h.new 1 _ 66 rfl rfl (haf ⟨1,.data⟩ (by simp) rfl)
         have y66:u66=(vP lb 0):=x66.1
         subst y66
         have m3:=h.later 3 2 _ ⟨2,.data⟩ rfl (by simp) rfl rfl hl
         have m11:=h.later2 11 3 _ ⟨3,.data⟩ rfl (by simp) rfl rfl m3
         refine wp_val (v:=vP lb 2) (w':=W) ?_ ⟨_,rfl,⟨rfl,fun e=>absurd e (by decide)⟩,fun _ _ h=>h,g1,g0,b0,b1,(fun c h1 h2=>gr c h1 h2),⟨fun _=>(ex.1 m11).keep (rfl),fun e7=>absurd ((set_other_get (show 2≠11 by decide)).symm.trans e7) (by rw [m11];decide)⟩⟩
         unfold execOp
         simp [e66,go_sem]
       · obtain ⟨u67,e67,x67⟩:=h.new 2 _ 67 rfl rfl (haf ⟨2,.data⟩ (by simp) rfl)
         have y67:u67=(vP lb 2):=x67.1
         subst y67
         have m11:=h.later 11 3 _ ⟨3,.data⟩ rfl (by simp) rfl rfl hl
         have c_:=b0
         obtain ⟨c0,c1,c2,c3,c4,_,_⟩:=bk5 c_
         refine wp_val (v:=.map (some sb)) (w':=W) ?_ ⟨_,rfl,⟨rfl,fun e=>absurd e (by decide)⟩,fun _ _ h=>h,g1,g0,b0,b1,(fun c h1 h2=>gr c h1 h2),⟨fun _=>(ex.1 m11).keep (rfl),fun e7=>absurd ((set_other_get (show 3≠11 by decide)).symm.trans e7) (by rw [m11];decide)⟩⟩
         unfold execOp
         simp [e67,c2,go_sem]
       · have e1:=h.given 1 _ rfl (by kernel_rfl)
         have m5:=h.later 5 4 _ ⟨4,.data⟩ rfl (by simp) rfl rfl hl
         have m6:=h.later2 6 5 _ ⟨5,.data⟩ rfl (by simp) rfl rfl m5
         have m7:=h.later2 7 6 _ ⟨6,.data⟩ rfl (by simp) rfl rfl m6
         have m9:=h.later2 9 7 _ ⟨7,.data⟩ rfl (by simp) rfl rfl m7
         have m10:=h.later2 10 9 _ ⟨9,.data⟩ rfl (by simp) rfl rfl m9
         have m11:=h.later2 11 10 _ ⟨10,.chain⟩ rfl (by simp) rfl rfl m10
         refine wp_val (v:=vP pb po) (w':=W) ?_ ⟨_,rfl,⟨rfl,fun e=>absurd e (by decide)⟩,fun _ _ h=>h,g1,g0,b0,b1,(fun c h1 h2=>gr c h1 h2),⟨fun _=>(ex.1 m11).keep (rfl),fun e7=>absurd ((set_other_get (show 4≠11 by decide)).symm.trans e7) (by rw [m11];decide)⟩⟩
         unfold execOp
         simp [e1,go_sem]
       · obtain ⟨u69,e69,x69⟩:=h.new 4 _ 69 rfl rfl (haf ⟨4,.data⟩ (by simp) rfl)
         have y69:u69=(vP pb po):=x69.1
         subst y69
         have m6:=h.later 6 5 _ ⟨5,.data⟩ rfl (by simp) rfl rfl hl
         have m7:=h.later2 7 6 _ ⟨6,.data⟩ rfl (by simp) rfl rfl m6
         have m9:=h.later2 9 7 _ ⟨7,.data⟩ rfl (by simp) rfl rfl m7
         have m10:=h.later2 10 9 _ ⟨9,.data⟩ rfl (by simp) rfl rfl m9
         have m11:=h.later2 11 10 _ ⟨10,.chain⟩ rfl (by simp) rfl rfl m10
         refine wp_val (v:=vP pb po) (w':=W) ?_ ⟨_,rfl,⟨rfl,fun e=>absurd e (by decide)⟩,fun _ _ h=>h,g1,g0,b0,b1,(fun c h1 h2=>gr c h1 h2),⟨fun _=>(ex.1 m11).keep (rfl),fun e7=>absurd ((set_other_get (show 5≠11 by decide)).symm.trans e7) (by rw [m11];decide)⟩⟩
         unfold execOp
         simp [e69,go_sem]
       · obtain ⟨u70,e70,x70⟩:=h.new 5 _ 70 rfl rfl (haf ⟨5,.data⟩ (by simp) rfl)
         have y70:u70=(vP pb po):=x70.1
         subst y70
         have m7:=h.later 7 6 _ ⟨6,.data⟩ rfl (by simp) rfl rfl hl
         have m9:=h.later2 9 7 _ ⟨7,.data⟩ rfl (by simp) rfl rfl m7
         have m10:=h.later2 10 9 _ ⟨9,.data⟩ rfl (by simp) rfl rfl m9
         have m11:=h.later2 11 10 _ ⟨10,.chain⟩ rfl (by simp) rfl rfl m10
         refine wp_val (v:=vP pb (po + 10)) (w':=W) ?_ ⟨_,rfl,⟨rfl,fun e=>absurd e (by decide)⟩,fun _ _ h=>h,g1,g0,b0,b1,(fun c h1 h2=>gr c h1 h2),⟨fun _=>(ex.1 m11).keep (rfl),fun e7=>absurd ((set_other_get (show 6≠11 by decide)).symm.trans e7) (by rw [m11];decide)⟩⟩
         unfold execOp
         simp [e70,go_sem]
       · obtain ⟨u71,e71,x71⟩:=h.new 6 _ 71 rfl rfl (haf ⟨6,.data⟩ (by simp) rfl)
         have y71:u71=(vP pb (po + 10)):=x71.1
         subst y71
         have m9:=h.later 9 7 _ ⟨7,.data⟩ rfl (by simp) rfl rfl hl
         have m10:=h.later2 10 9 _ ⟨9,.data⟩ rfl (by simp) rfl rfl m9
         have m11:=h.later2 11 10 _ ⟨10,.chain⟩ rfl (by simp) rfl rfl m10
         have c_:=b1
         have c_1:=(cellq (o:=po + 10) (c_.trans HOQ.out.symm)).trans PQ.out
         refine wp_val (v:=vL cb co 1 cc) (w':=W) ?_ ⟨_,rfl,⟨rfl,fun e=>absurd e (by decide)⟩,fun _ _ h=>h,g1,g0,b0,b1,(fun c h1 h2=>gr c h1 h2),⟨fun _=>(ex.1 m11).keep (rfl),fun e7=>absurd ((set_other_get (show 7≠11 by decide)).symm.trans e7) (by rw [m11];decide)⟩⟩
         unfold execOp
         simp [e71,c_1,go_sem]
       · have e9:=h.given 9 _ rfl (by kernel_rfl)
         have m9:=h.later 9 8 _ ⟨8,.data⟩ rfl (by simp) rfl rfl hl
         have m10:=h.later2 10 9 _ ⟨9,.data⟩ rfl (by simp) rfl rfl m9
         have m11:=h.later2 11 10 _ ⟨10,.chain⟩ rfl (by simp) rfl rfl m10
         refine wp_val (v:=vI 0) (w':=W) ?_ ⟨_,rfl,⟨rfl,fun e=>absurd e (by decide)⟩,fun _ _ h=>h,g1,g0,b0,b1,(fun c h1 h2=>gr c h1 h2),⟨fun _=>(ex.1 m11).keep (rfl),fun e7=>absurd ((set_other_get (show 8≠11 by decide)).symm.trans e7) (by rw [m11];decide)⟩⟩
         unfold execOp
         simp [e9,go_sem]
       · obtain ⟨u72,e72,x72⟩:=h.new 7 _ 72 rfl rfl (haf ⟨7,.data⟩ (by simp) rfl)
         have y72:u72=(vL cb co 1 cc):=x72.1
         subst y72
         obtain ⟨u73,e73,x73⟩:=h.new 8 _ 73 rfl rfl (haf ⟨8,.data⟩ (by simp) rfl)
         have y73:u73=(vI 0):=x73.1
         subst y73
         have m10:=h.later 10 9 _ ⟨9,.data⟩ rfl (by simp) rfl rfl hl
         have m11:=h.later2 11 10 _ ⟨10,.chain⟩ rfl (by simp) rfl rfl m10
         refine wp_val (v:=vP cb co) (w':=W) ?_ ⟨_,rfl,⟨rfl,fun e=>absurd e (by decide)⟩,fun _ _ h=>h,g1,g0,b0,b1,(fun c h1 h2=>gr c h1 h2),⟨fun _=>(ex.1 m11).keep (rfl),fun e7=>absurd ((set_other_get (show 9≠11 by decide)).symm.trans e7) (by rw [m11];decide)⟩⟩
         unfold execOp
         simp [e72,e73,go_sem]
       · obtain ⟨u74,e74,x74⟩:=h.new 9 _ 74 rfl rfl (haf ⟨9,.data⟩ (by simp) rfl)
         have y74:u74=(vP cb co):=x74.1
         subst y74
         have m11:=h.later 11 10 _ ⟨10,.chain⟩ rfl (by simp) rfl rfl hl
         refine wp_enter (f:=97) (args:=#[vP cb co]) (w':=W) ?_ ((namesOf_forU cb co nm ⟨#[]⟩ W (HCLK.out W gr g0)).mono ?_)
         · unfold execOp
           simp [e74,go_sem]
         · rintro e W' ⟨n10,rfl,hb,q1,hs6⟩
           exact ⟨_,rfl,_,rfl,⟨trivial,fun _=>⟨n10,rfl,by omega,hs6⟩⟩,fun j u hd=>⟨hd.1,fun e=>by obtain ⟨n10,ev,p_n10,f_n10⟩:=hd.2 e;exact ⟨n10,ev,p_n10,blC hb (gI (f_n10)).1 (f_n10)⟩⟩,g1.trans (hb.mono gz),Nat.le_trans g0 hb.size,blC hb (gI (b0)).1 (b0),blC hb (gI (b1)).1 (b1),(fun c h1 h2=>(hb.block c (Nat.lt_of_lt_of_le h1 g0)).trans (gr c h1 h2)),⟨fun _=>(ex.1 m11).keep (hb.block _ (ex.1 m11).lt),fun e7=>absurd ((set_other_get (show 10≠11 by decide)).symm.trans e7) (by rw [m11];decide)⟩⟩
       · obtain ⟨u68,e68,x68⟩:=h.new 3 _ 68 rfl rfl (haf ⟨3,.data⟩ (by simp) rfl)
         have y68:u68=(.map (some sb)):=x68.1
         subst y68
         obtain ⟨u75,e75,x75⟩:=h.new 10 _ 75 rfl rfl (haf ⟨10,.chain⟩ (by simp) rfl)
         obtain ⟨n10,rfl,p_n10,f_n10⟩:=x75.2 rfl
         have m11:l.getD 11 false=false:=by rw [Array.getD_eq_getD_getElem?] at hl ⊢;cases hx:l[11]? with | none=>rfl | some bb=>rw [hx] at hl;exact hl
         refine wp_enter (f:=38) (args:=#[.map (some sb),vL n10 0 2 2]) (w':=W) ?_ ((leave_is sb N [nm,⟨#[]⟩] _ W (ex.1 m11) (txts_two f_n10) HLN.out HNN.out).mono ?_)
         · unfold execOp
           simp [e68,e75,go_sem]
         · rintro e W' ⟨rfl,hs,ht⟩
           exact ⟨_,rfl,_,rfl,⟨rfl,fun e=>absurd e (by decide)⟩,fun j u hd=>⟨hd.1,fun e=>by obtain ⟨n10,ev,p_n10,f_n10⟩:=hd.2 e;exact ⟨n10,ev,p_n10,(ht.2.1 _ (by omega)).trans (f_n10)⟩⟩,g1.trans (ht.below (by omega)),Nat.le_trans g0 (Nat.le_of_eq ht.1.symm),(ht.2.1 _ (by omega)).trans (b0),(ht.2.1 _ (by omega)).trans (b1),(fun c h1 h2=>(ht.2.1 c h2).trans (gr c h1 h2)),⟨fun e7=>absurd ((set_this_get (i:=11) (n:=12) hsz (by decide)).symm.trans e7) (by decide),fun _=>hs⟩⟩
     · intro v W11 hv hs hg
       obtain ⟨u1,u0',yl,yP,yr,ex⟩:=hg
       simp only [putAll,Act.put,List.setIfInBounds_toArray,List.set_cons_succ,List.set_cons_zero]
       generalize v 0=t0,v 1=t1,v 2=t2,v 3=t3,v 4=t4,v 5=t5,v 6=t6,v 7=t7,v 8=t8,v 9=t9,v 10=t10,v 11=t11 at *
       have HX11:Hid (XS w lb tb ob sb N q W11):=⟨yl,ex.2 rfl,Nat.le_trans HXq.out.z u0',u1.os.trans HXq.out.os,u1.tape.trans HXq.out.tape,u1.output.trans HXq.out.output,fun b h0 h1 h2=>(yr b (by have:=HXq.out.z;omega) h2).trans (HXq.out.k b h0 h1 h2)⟩
       have HM11:Hid (∀ c,c<W1.heap.size->c≠lb->c≠sb->W11.heap[c]?=W1.heap[c]?):=fun c h1 h2 h3=>(yr c (by omega) h3).trans (HMq.out c h1 h2 h3)
       have HV11:=hidC (ownsRow_keptU HVq.out (fun b h1 h2=>yr b h2 (by omega)))
       have HY11:=hidC ((yr w10.heap.size (by omega) (by omega)).trans HYq.out)
       have HW11:Hid (X.W W11 (fun b=>W9.heap.size<=b/\b<w10.heap.size) (eL X0' X1 X2 Y3 Y4 Y5 X6 X7 X8 Y9 B10 L10 M10)):=Ex.W.keep (fun b q=>q) (fun b q=>yr b (by omega) (by omega)) HWq.out
       have hz11:wq.heap.size<=W11.heap.size:=u0'
       have HR11:Hid (W11.heap[w.heap.size]?=some (.cells zA 29)):=(HM11.out w.heap.size (by omega) (by omega) (by omega)).trans ((HK2.out w.heap.size (by omega) (by omega) (by omega)).trans HR1.out)
       obtain ⟨B,rfl,hB1',hB2'⟩:∃ B,va6=some ⟨B,0,none⟩/\w.heap.size + 1<=B/\B<W11.heap.size:=by
        obtain ⟨_,⟨h1,h2⟩ | ⟨B,cap,cur,h1,h2,h3,h4,h5⟩⟩:=HV11.out
        · cases h2
        · cases h1;exact ⟨B,rfl,h2,(gI h3).1⟩
       have hcv:CvAt W11 B 0 ⟨cb,co,x0,⟨x1,x2,y3⟩,y4,y5,x6,x7,x8,y9,b10,l10,m10⟩:=⟨(World.ownsRow.cellAt HV11.out 0 (by decide)).trans rfl,(World.ownsRow.cellAt HV11.out 1 (by decide)).trans rfl,(World.ownsRow.cellAt HV11.out 2 (by decide)).trans rfl,(World.ownsRow.cellAt HV11.out 3 (by decide)).trans rfl,(World.ownsRow.cellAt HV11.out 4 (by decide)).trans rfl,(World.ownsRow.cellAt HV11.out 5 (by decide)).trans rfl,(World.ownsRow.cellAt HV11.out 6 (by decide)).trans rfl,(World.ownsRow.cellAt HV11.out 7 (by decide)).trans rfl,(World.ownsRow.cellAt HV11.out 8 (by decide)).trans rfl,(World.ownsRow.cellAt HV11.out 9 (by decide)).trans rfl,(World.ownsRow.cellAt HV11.out 10 (by decide)).trans rfl,(World.ownsRow.cellAt HV11.out 11 (by decide)).trans rfl⟩
       have hcl:=(HPX.out W11 ⟨_,_,HX11.out⟩).2.2
       have HCV11:=hidC hcv
       have HCL11:=hidC hcl
       have d0:W11.cell? ⟨B,0,none⟩=some (vP cb co):=hcv.c0
       have q0:W11.cell? ⟨cb,co,none⟩=some (vI 1):=hcl.c0
       have hcb11:cb<W11.heap.size:=by omega
       obtain ⟨g0,g1,g2,g3,g4,g5,g6,g7,g8,g9,g10,_,_⟩:=bk11 HY11.out
       clear hv hs u1 u0' yl yP yr ex hcv hcl HVq HYq HWq HXq HMq HLq HSMq HOQ PQ HCLK HV11
       go_wp2
       refine LoopN.next ?_
       go_wp2_with (first
        | (go_at_call 96;refine (keeps_is lb _ _ _ q _ W11 HX11.out.l (by omega)).mono ?_;rintro e w2 ⟨rfl,hw2⟩;obtain rfl:=hw2.symm)
        | (go_at_call 99;refine (around_for lb (.map (some tb)) (.map (some ob)) (.map (some sb)) q ⟨cb,co,x0,⟨x1,x2,y3⟩,y4,y5,x6,x7,x8,y9,b10,l10,m10⟩ nm ⟨#[]⟩ B 0 vc6 X0' ⟨X1,X2,Y3⟩ Y4 Y5 X6 X7 X8 Y9 B10 L10 M10 W11 HX11.out.l hq HCV11.out hB2' (by omega) HCL11.out.c0 hcb11 hcbl HCL11.out.c1 HCL11.out.c2 hn (by decide)).mono ?_;rintro e w12 ⟨n14,rfl,hk12,hn14,hc14⟩;have HK12:=hidC hk12;have HC14:=hidC hc14;have HR12:Hid (w12.heap[w.heap.size]?=some (.cells zA 29)):=(hk12.2.1 w.heap.size (by omega) (by omega)).trans HR11.out;obtain ⟨z0,z1,z2,z3,z4,z5,z6,z7,z8,z9,z10,z11,z12⟩:=bk11 HR12.out;clear hk12 hc14))
       generalize hW13:World.setCell _ _ _=W13
       have hP13:W13=putL w12 w.heap.size 0 (eL 5 0 0 ⟨#[]⟩ nm ⟨#[]⟩ 0 0 0 ⟨#[]⟩ (some ⟨n14,0,none⟩) 2 2):=hW13.symm
       have HZ13:Hid (W13.heap[w.heap.size]?=some (.cells (eA 5 0 0 ⟨#[]⟩ nm ⟨#[]⟩ 0 0 0 ⟨#[]⟩ (some ⟨n14,0,none⟩) 2 2) 29)):=hidC (by rw [hP13];exact putL_same HR12.out _ rfl)
       have hl11:=(gI HX11.out.l).1
       have hz12:=HK12.out.2.2.size
       have HX13:Hid (XS w lb tb ob sb N (q + 1) W13):=hidC (by rw [hP13];exact (HX11.out.trans (HX11.out.here.ofKp hls HK12.out)).put (Nat.le_refl _) hlw hsw _)
       have h14:W13.heap[n14]?=some (.cells #[vI (x0),vI (x1),vI (x2),vS y3,vS y4,vS y5,vI (x6),vI (x7),vI (x8),vS y9,.slice b10 l10 m10,vI (X0'),vI (X1),vI (X2),vS Y3,vS Y4,vS Y5,vI (X6),vI (X7),vI (X8),vS Y9,.slice B10 L10 M10] 29):=by rw [hP13];exact (putL_other (by omega) _ _ _).trans HC14.out
       have hn13:n14<W13.heap.size:=(gI h14).1
       have hz13:w12.heap.size<=W13.heap.size:=by rw [hP13];exact (putL_below (B:=0) (w0:=w12) (Nat.zero_le _) _ _ _ (Below.refl _ _)).size
       have HE0:Hid (X0.W W13 (fun b=>w.heap.size<=b/\b<W13.heap.size) (eL x0 x1 x2 y3 y4 y5 x6 x7 x8 y9 b10 l10 m10)):=hidC (Ex.W.keep (fun b q=>⟨by have:=q.1;omega,by have:=q.2.1;omega⟩) (fun b q=>by rw [hP13];exact (putL_other (by have:=q.1;omega) _ _ _).trans ((HK12.out.2.1 b (by have:=q.2.1;omega) (by have:=q.1;omega)).trans (HM11.out b q.2.1 (by have:=q.1;omega) (by have:=q.1;omega)))) HU2.out)
       have HE1:Hid (X.W W13 (fun b=>w.heap.size<=b/\b<W13.heap.size) (eL X0' X1 X2 Y3 Y4 Y5 X6 X7 X8 Y9 B10 L10 M10)):=hidC (Ex.W.keep (fun b q=>⟨by have:=q.1;omega,by have:=q.2;omega⟩) (fun b q=>by rw [hP13];exact (putL_other (by have:=q.1;omega) _ _ _).trans (HK12.out.2.1 b (by have:=q.2;omega) (by have:=q.1;omega))) HW11.out)
       clear hW13 hP13 z0 z1 z2 z3 z4 z5 z6 z7 z8 z9 z10 z11 z12
       go_wp2
       obtain ⟨v0,v1,v2,v3,v4,v5,v6,v7,v8,v9,v10,_,_⟩:=bk11 HZ13.out
       refine bodyPost_ret (v:=.agg (eA 5 0 0 ⟨#[]⟩ nm ⟨#[]⟩ 0 0 0 ⟨#[]⟩ (some ⟨n14,0,none⟩) 2 2)) (by simp [results,Tryz.results57,go_sem,v0,v1,v2,v3,v4,v5,v6,v7,v8,v9,v10]) rfl ⟨(eL 5 0 0 ⟨#[]⟩ nm ⟨#[]⟩ 0 0 0 ⟨#[]⟩ (some ⟨n14,0,none⟩) 2 2),⟨some ⟨n14,0,none⟩,2,rfl,⟨by decide,Nat.le_trans hn (by decide),by decide⟩,Nat.le_refl _,by decide,fun _=>⟨n14,0,rfl,⟨by omega,hn13⟩,fun i hi=>?_⟩⟩,rfl,HX13.out⟩
       rcases (show i=0\/i=1 by omega) with rfl | rfl
       · refine ⟨(eL x0 x1 x2 y3 y4 y5 x6 x7 x8 y9 b10 l10 m10),fun j hj=>?_,HE0.out⟩
         rw [show 0 + 0 * 11 + j=j by omega]
         have hj':j<11:=hj
         rw [World.cell?,h14]
         match j,hj' with
         | 0,_ | 1,_ | 2,_ | 3,_ | 4,_ | 5,_ | 6,_ | 7,_ | 8,_ | 9,_ | 10,_=>rfl
       · refine ⟨(eL X0' X1 X2 Y3 Y4 Y5 X6 X7 X8 Y9 B10 L10 M10),fun j hj=>?_,HE1.out⟩
         have hj':j<11:=hj
         rw [World.cell?,h14]
         match j,hj' with
         | 0,_ | 1,_ | 2,_ | 3,_ | 4,_ | 5,_ | 6,_ | 7,_ | 8,_ | 9,_ | 10,_=>rfl
end Go.Proofs.YtmcmbdkpfcibkaaGreatDoor
