import Derived.Test.YtmcmbdkpfcibkaaGreatDoorRgIn
import Derived.Test.YtmcmbdkpfcibkaaGreatDoorLvE
set_option linter.unusedVariables false
set_option maxHeartbeats 6400000
namespace Go.Proofs.YtmcmbdkpfcibkaaGreatDoor
set_option maxRecDepth 100000
open Go.RowKit Go.WideShapes Go.Shelf
def exFil (X Pd:Ex):Ex:=exN 4 ⟨0,0,⟨#[]⟩⟩ ⟨#[46,97,108,108]⟩ ⟨#[]⟩ 0 2 (ex2 X (exN 4 ⟨0,0,⟨#[]⟩⟩ ⟨#[46,108,97,115,116]⟩ ⟨#[]⟩ 0 2 (ex2 (exC ⟨#[99,111,117,110,116]⟩ 1 (fun _=>exV ⟨#[46,97,108,108]⟩)) (exN 5 ⟨0,0,⟨#[]⟩⟩ ⟨#[46]⟩ ⟨#[46,97,116]⟩ 0 2 (ex2 (exV ⟨#[46,97,108,108]⟩) (exN 7 ⟨0,0,⟨#[]⟩⟩ ⟨#[]⟩ ⟨#[]⟩ 0 3 (ex3 (exC ⟨#[104,111,108,100,115]⟩ 2 (ex2 Pd (exV ⟨#[46,97,116]⟩))) (exV ⟨#[46]⟩) exNo)))))))
theorem vl_one0 {X:Ex} {u:List Value} {W:World} (hx:X.W W (fun _=>False) u):VL 1 (fun _=>X) (W.alloc (.cells u.toArray 29)) (fun b=>W.heap.size<=b/\b<(W.alloc (.cells u.toArray 29)).heap.size) (vL W.heap.size 0 1 1):=by
 have hl:=hx.len
 refine ⟨W.heap.size,rfl,⟨Nat.le_refl _,by simp⟩,fun i hi=>⟨u,fun j hj=>?_,hx.keep (fun b q=>q.elim) (fun b q=>q.elim)⟩⟩
 obtain rfl:i=0:=by omega
 rw [World.cell?,heap_alloc_new]
 simp [hj]
theorem filtered_X {w U:World} {lb tb ob sb:Nat} {N:ByteArray->Nat} {p:Nat} (hB:XB w lb tb ob sb) (h:XS w lb tb ob sb N p U) (hp7:p + 11<=700) {S0:Nat->Prop} (hS0:∀ b,S0 b->b<U.heap.size/\b≠lb/\b≠sb) {X Pd:Ex} {x0_1 x1_1 x2_1 x6_1 x7_1 x8_1:Int} {y3_1 y4_1 y5_1 y9_1:ByteArray} {b10_1:Option Addr} {l10_1 c10_1:Nat} {x0_2 x1_2 x2_2 x6_2 x7_2 x8_2:Int} {y3_2 y4_2 y5_2 y9_2:ByteArray} {b10_2:Option Addr} {l10_2 c10_2:Nat} (hx1:X.W U S0 (eL x0_1 x1_1 x2_1 y3_1 y4_1 y5_1 x6_1 x7_1 x8_1 y9_1 b10_1 l10_1 c10_1)) (hx2:Pd.W U S0 (eL x0_2 x1_2 x2_2 y3_2 y4_2 y5_2 x6_2 x7_2 x8_2 y9_2 b10_2 l10_2 c10_2)) :
 Calls Tryz.prog 93 #[vP lb 0,.agg (eA x0_1 x1_1 x2_1 y3_1 y4_1 y5_1 x6_1 x7_1 x8_1 y9_1 b10_1 l10_1 c10_1),.agg (eA x0_2 x1_2 x2_2 y3_2 y4_2 y5_2 x6_2 x7_2 x8_2 y9_2 b10_2 l10_2 c10_2)] U fun e w'=>∃ v,e=.returned v/\VX (exFil X Pd) w' (fun b=>S0 b\/(U.heap.size<=b/\b<w'.heap.size)) v/\XS w lb tb ob sb N (p + 11) w'/\(∀ b,b<U.heap.size->b≠lb->b≠sb->w'.heap[b]?=U.heap[b]?)/\U.heap.size<=w'.heap.size:=by
 have HX:=HidOf h
 have HX_1:=HidOf hx1
 have HX_2:=HidOf hx2
 have HLS:=HidOf hB.ls
 have hlw:=hB.ll
 have hsw:=hB.sl
 have hwz:=h.z
 clear hB h hx1 hx2
 go_enter Tryz.func93,Tryz.ntmps93
 go_upto_region 1 with fail
 obtain ⟨wr,hwr⟩:∃ V,V=((U.alloc (.cells (eA x0_1 x1_1 x2_1 y3_1 y4_1 y5_1 x6_1 x7_1 x8_1 y9_1 b10_1 l10_1 c10_1) 29)).alloc (.cells (eA x0_2 x1_2 x2_2 y3_2 y4_2 y5_2 x6_2 x7_2 x8_2 y9_2 b10_2 l10_2 c10_2) 29)).alloc (.cells zA 29):=⟨_,rfl⟩
 have HX_wr:Hid (XS w lb tb ob sb N p wr):=by rw [hwr];exact ((HX.out.alloc _).alloc _).alloc _
 have HB_1:Hid (wr.heap[U.heap.size]?=some (.cells (eA x0_1 x1_1 x2_1 y3_1 y4_1 y5_1 x6_1 x7_1 x8_1 y9_1 b10_1 l10_1 c10_1) 29)):=by rw [hwr];exact aOld (aOld (aNew rfl))
 have HB_2:Hid (wr.heap[U.heap.size + 1]?=some (.cells (eA x0_2 x1_2 x2_2 y3_2 y4_2 y5_2 x6_2 x7_2 x8_2 y9_2 b10_2 l10_2 c10_2) 29)):=by rw [hwr];exact aOld (aNew (by simp))
 have HR:Hid (wr.heap[U.heap.size + 2]?=some (.cells zA 29)):=by rw [hwr];exact aNew (by simp)
 have hz1:wr.heap.size=U.heap.size + 3:=by rw [hwr];simp
 have HO1:Hid (∀ b,b<U.heap.size->wr.heap[b]?=U.heap[b]?):=by rw [hwr];exact fun b hb=>(Below.heap_alloc _ _ _ (by simp;omega)).trans ((Below.heap_alloc _ _ _ (by simp;omega)).trans (Below.heap_alloc _ _ _ hb))
 have HX_1:=hidC (Ex.W.keep (w':=wr) (fun b q=>q) (fun b q=>HO1.out b (hS0 b q).1) HX_1.out)
 have HX_2:=hidC (Ex.W.keep (w':=wr) (fun b q=>q) (fun b q=>HO1.out b (hS0 b q).1) HX_2.out)
 rw [<- hwr]
 clear hwr HX
 refine wp_region_slots (by kernel_rfl) (fun j v W=>match j with | 0=>v=(vP lb 0) | 1=>v=(.agg (eA x0_2 x1_2 x2_2 y3_2 y4_2 y5_2 x6_2 x7_2 x8_2 y9_2 b10_2 l10_2 c10_2)) | 2=>v=(vP lb 0) | _=>True) (Gy (⟨w,wr,lb,sb,(U.heap.size + 2),S0,fun k=>XS w lb tb ob sb N (p + k),[3,5],8,6,7,7,zA,29,VX (exC ⟨#[104,111,108,100,115]⟩ 2 (ex2 Pd (exV ⟨#[46,97,116]⟩))),[false,false,false,true,true,true,false,false],[11,12,13,14,15,16,7,999],fun i=>match i with | 3=>VX (exV ⟨#[46,97,116]⟩) | 4=>VL 2 (ex2 Pd (exV ⟨#[46,97,116]⟩)) | 5=>VX (exC ⟨#[104,111,108,100,115]⟩ 2 (ex2 Pd (exV ⟨#[46,97,116]⟩))) | _=>VZ⟩:GxP)) (by kernel_rfl) (by kernel_rfl) (Gx.startA HX_wr.out (fun k=>XS.clo hlw hsw) (fun i=>by dsimp only;split <;> first | exact VZ.kept | exact VV.kept _ | exact VX.kept _ | exact VL.kept _ _ | exact VO.kept _ _ | exact VT.kept _ _) (VX.kept _) hlw hsw (by show w.heap.size<=(U.heap.size + 2);omega) (by show (U.heap.size + 2)<wr.heap.size;omega) (fun b q=>by have:=hS0 b q;show b<wr.heap.size/\b≠lb/\b≠sb/\b≠U.heap.size + 2;omega) (by exact (by decide:(6:Nat)<8))) ?_ ?_
 · intro l a W i o hsz h ho hl haf
   obtain ⟨t,fx⟩:=h.more
   have hsn:l.size=8:=hsz
   have hts:a.tmps.size=41:=h.size.trans rfl
   have hi:i<8:=(gI ho).1
   obtain rfl | rfl | rfl | rfl | rfl | rfl | rfl | rfl:i=0\/i=1\/i=2\/i=3\/i=4\/i=5\/i=6\/i=7:=by omega
   all_goals (obtain rfl:=Option.some.inj ho;rw [if_pos (want_none rfl)])
   · have e0:=h.given 0 _ rfl (by kernel_rfl)
     refine wp_val ?_ ⟨_,rfl,rfl,fun _ _ h=>h,fx.pure rfl⟩
     unfold execOp
     simp [e0,go_sem]
   · have e5:=h.given 5 _ rfl (by kernel_rfl)
     have hbx:=(fx.same (c:=U.heap.size + 1) (by show U.heap.size + 1<wr.heap.size;have:=(gI HB_2.out).1;omega) (by show U.heap.size + 1≠lb;omega) (by show U.heap.size + 1≠sb;omega) (by show U.heap.size + 1≠(U.heap.size + 2);omega)).trans HB_2.out
     obtain ⟨z0,z1,z2,z3,z4,z5,z6,z7,z8,z9,z10,z11,z12⟩:=bk11 hbx
     refine wp_val ?_ ⟨_,rfl,rfl,fun _ _ h=>h,fx.pure rfl⟩
     unfold execOp
     simp [e5,z0,z1,z2,z3,z4,z5,z6,z7,z8,z9,z10,go_sem]
   · have e0:=h.given 0 _ rfl (by kernel_rfl)
     refine wp_val ?_ ⟨_,rfl,rfl,fun _ _ h=>h,fx.pure rfl⟩
     unfold execOp
     simp [e0,go_sem]
   · obtain ⟨_,e13,rfl⟩:=h.new 2 _ 13 rfl rfl (haf ⟨2,.data⟩ (by simp) rfl)
     obtain ⟨k,hq,hp⟩:=fx.q
     have hn:l.getD 3 false=false:=getD_ofX hl
     obtain rfl:k=0:=hq.at_ (j:=0) (by exact (by decide:(0:Nat)<2)) hn (.inl rfl)
     refine wp_enter (f:=106) (args:=#[vP lb 0,vS ⟨#[46,97,116]⟩]) (w':=W) ?_ ((variable_X HLS.out hp (by omega) ⟨#[46,97,116]⟩ (by decide)).mono ?_)
     · unfold execOp
       simp [e13,go_sem]
     · rintro e W' ⟨v_,rfl,hv_,hs_,hk_,hz_⟩
       exact ⟨_,rfl,_,rfl,trivial,fun _ _ h=>h,fx.call 0 (i:=3) (s:=14) rfl rfl hsn hq hs_ hk_ hz_ (by rw [hts];exact (by decide:(14:Nat)<41)) (fun _=>hv_ _ _)⟩
   · obtain ⟨_,e12,rfl⟩:=h.new 1 _ 12 rfl rfl (haf ⟨1,.data⟩ (by simp) rfl)
     obtain ⟨u14,e14,y14⟩:=fx.x 3 (by exact (by decide:(3:Nat)<8)) rfl (haf ⟨3,.data⟩ (by simp) rfl)
     have e14':a.tmps[14]?=some u14:=e14
     obtain ⟨l14,rfl,z14⟩:=y14
     obtain ⟨x0_14,x1_14,x2_14,x6_14,x7_14,x8_14,y3_14,y4_14,y5_14,y9_14,b10_14,l10_14,c10_14,rfl⟩:=z14.form
     have f14:a.tmps[14]?=some (.agg (eA x0_14 x1_14 x2_14 y3_14 y4_14 y5_14 x6_14 x7_14 x8_14 y9_14 b10_14 l10_14 c10_14)):=e14
     refine wp_val (v:=vL W.heap.size 0 2 2) (w':=W.alloc (.cells #[vI x0_2,vI x1_2,vI x2_2,vS y3_2,vS y4_2,vS y5_2,vI x6_2,vI x7_2,vI x8_2,vS y9_2,.slice b10_2 l10_2 c10_2,vI x0_14,vI x1_14,vI x2_14,vS y3_14,vS y4_14,vS y5_14,vI x6_14,vI x7_14,vI x8_14,vS y9_14,.slice b10_14 l10_14 c10_14] 29)) ?_ ⟨_,rfl,trivial,fun _ _ h=>h,fx.list (i:=4) rfl rfl (by rw [hts];exact (by decide:(15:Nat)<41)) ?_⟩
     · unfold execOp
       simp [e12,f14,go_sem]
     · exact vl_two fx (fx.old HX_2.out) z14
   · obtain ⟨_,e11,rfl⟩:=h.new 0 _ 11 rfl rfl (haf ⟨0,.data⟩ (by simp) rfl)
     obtain ⟨u15,e15,y15⟩:=fx.x 4 (by exact (by decide:(4:Nat)<8)) rfl (haf ⟨4,.data⟩ (by simp) rfl)
     have e15':a.tmps[15]?=some u15:=e15
     have q15:=y15
     obtain ⟨g15,rfl,hg15⟩:=y15
     have f15:a.tmps[15]?=some (vL g15 0 2 2):=e15
     obtain ⟨k,hq,hp⟩:=fx.q
     have hn:l.getD 5 false=false:=getD_ofX hl
     obtain rfl:k=1:=hq.at_ (j:=1) (by exact (by decide:(1:Nat)<2)) hn (.inr (haf ⟨3,.chain⟩ (by simp) rfl))
     refine wp_enter (f:=91) (args:=#[vP lb 0,vS ⟨#[104,111,108,100,115]⟩,vL g15 0 2 2]) (w':=W) ?_ ((call_X HLS.out hp (by omega) ⟨#[104,111,108,100,115]⟩ (by decide) fx.lt3 q15 (by decide)).mono ?_)
     · unfold execOp
       simp [e11,f15,go_sem]
     · rintro e W' ⟨v_,rfl,hv_,hs_,hk_,hz_⟩
       exact ⟨_,rfl,_,rfl,trivial,fun _ _ h=>h,fx.call 1 (i:=5) (s:=16) rfl rfl hsn hq hs_ hk_ hz_ (by rw [hts];exact (by decide:(16:Nat)<41)) (fun _=>fx.joined (VX.kept _) hz_ hv_)⟩
   · have m7:=h.later 7 6 _ ⟨6,.phase⟩ rfl (by simp) rfl rfl hl
     refine wp_val (v:=vP W.heap.size 0) (w':=W.alloc (.cells zA 29)) ?_ ⟨_,rfl,trivial,fun _ _ h=>h,fx.alloc rfl hsn (getD_ofX hl) m7 (by rw [hts];exact (by decide:(7:Nat)<41))⟩
     unfold execOp
     simp [go_sem]
   · have e7:=fx.b1 (haf ⟨6,.phase⟩ (by simp) rfl)
     have e7':a.tmps[7]?=some (vP t 0):=e7
     obtain ⟨u16,e16,y16⟩:=fx.x 5 (by exact (by decide:(5:Nat)<8)) rfl (haf ⟨5,.phase⟩ (by simp) rfl)
     have e16':a.tmps[16]?=some u16:=e16
     obtain ⟨l16,rfl,z16⟩:=y16
     obtain ⟨x0_16,x1_16,x2_16,x6_16,x7_16,x8_16,y3_16,y4_16,y5_16,y9_16,b10_16,l10_16,c10_16,rfl⟩:=z16.form
     have f16:a.tmps[16]?=some (.agg (eA x0_16 x1_16 x2_16 y3_16 y4_16 y5_16 x6_16 x7_16 x8_16 y9_16 b10_16 l10_16 c10_16)):=e16
     have hn:l.getD 7 false=false:=getD_ofX hl
     have ha:l.getD 6 true=true:=(getD_def (by omega) true).trans (haf ⟨6,.phase⟩ (by simp) rfl)
     have c_:=fx.bz ha hn
     obtain ⟨z0,z1,z2,z3,z4,z5,z6,z7,z8,z9,z10,z11,z12⟩:=bk11 c_
     obtain ⟨W',hW'⟩:∃ V,V=(((((((((((W).setCell ⟨t,0,none⟩ (vI x0_16)).setCell ⟨t,1,none⟩ (vI x1_16)).setCell ⟨t,2,none⟩ (vI x2_16)).setCell ⟨t,3,none⟩ (vS y3_16)).setCell ⟨t,4,none⟩ (vS y4_16)).setCell ⟨t,5,none⟩ (vS y5_16)).setCell ⟨t,6,none⟩ (vI x6_16)).setCell ⟨t,7,none⟩ (vI x7_16)).setCell ⟨t,8,none⟩ (vI x8_16)).setCell ⟨t,9,none⟩ (vS y9_16)).setCell ⟨t,10,none⟩ (.slice b10_16 l10_16 c10_16):=⟨_,rfl⟩
     have hPL:W'=putL W (t) 0 (eL x0_16 x1_16 x2_16 y3_16 y4_16 y5_16 x6_16 x7_16 x8_16 y9_16 b10_16 l10_16 c10_16):=hW'
     refine wp_skip (w':=W') ?_ ⟨undef,rfl,trivial,fun _ _ h=>h,by rw [hPL];exact fx.store rfl hsn ha hn rfl ⟨_,rfl,z16⟩⟩
     rw [hW']
     clear hPL hW'
     unfold execOp
     simp [e7',f16,z0,z1,z2,z3,z4,z5,z6,z7,z8,z9,z10,z11,go_sem]
 · intro v W1 hv hs hg
   obtain ⟨hXS,hzz,t1,S1,ht5,htd,_,hk1,hS1,hf,_,hold⟩:=Gy.next rfl hg
   obtain ⟨u',hu',l',el,hl'⟩:=hf (by exact (by decide:(7:Nat)<8))
   have el':u'=l':=by injection el with el;simpa using congrArg Array.toList el
   subst el'
   obtain ⟨x0_h,x1_h,x2_h,x6_h,x7_h,x8_h,y3_h,y4_h,y5_h,y9_h,b10_h,l10_h,c10_h,rfl⟩:=hl'.form
   have e5:v 6=vP t1 0:=Option.some.inj ((hs 6 _ 7 rfl rfl).symm.trans (ht5 (by exact (by decide:(6:Nat)<8))))
   have hz_W1:wr.heap.size<=W1.heap.size:=hzz
   have ht_W1:wr.heap.size<=t1/\t1<W1.heap.size:=htd (by exact (by decide:(6:Nat)<8))
   have HS_W1:Hid (∀ b,S1 b->b<W1.heap.size/\b≠lb/\b≠sb/\b≠(U.heap.size + 2)/\b≠t1/\((S0) b\/wr.heap.size<=b)):=hS1
   have HK_W1:Hid (∀ c,c<wr.heap.size->c≠lb->c≠sb->c≠t1->W1.heap[c]?=wr.heap[c]?):=hk1
   have HX_W1:Hid (XS w lb tb ob sb N (p + 2) W1):=hXS
   have HT_W1:Hid (W1.heap[t1]?=some (.cells (eA x0_h x1_h x2_h y3_h y4_h y5_h x6_h x7_h x8_h y9_h b10_h l10_h c10_h) 29)):=hu'
   have HV_W1:Hid (((exC ⟨#[104,111,108,100,115]⟩ 2 (ex2 Pd (exV ⟨#[46,97,116]⟩)))).W W1 S1 (eL x0_h x1_h x2_h y3_h y4_h y5_h x6_h x7_h x8_h y9_h b10_h l10_h c10_h)):=hl'
   have O0_W1:Hid ((X).W W1 S1 (eL x0_1 x1_1 x2_1 y3_1 y4_1 y5_1 x6_1 x7_1 x8_1 y9_1 b10_1 l10_1 c10_1)):=hidC (hold _ _ HX_1.out)
   have O1_W1:Hid ((Pd).W W1 S1 (eL x0_2 x1_2 x2_2 y3_2 y4_2 y5_2 x6_2 x7_2 x8_2 y9_2 b10_2 l10_2 c10_2)):=hidC (hold _ _ HX_2.out)
   have B0_W1:Hid (W1.heap[U.heap.size]?=some (.cells (eA x0_1 x1_1 x2_1 y3_1 y4_1 y5_1 x6_1 x7_1 x8_1 y9_1 b10_1 l10_1 c10_1) 29)):=hidC ((HK_W1.out (U.heap.size) (by have:=(gI HB_1.out).1;omega) (by omega) (by omega) (by have:=(gI HB_1.out).1;omega)).trans HB_1.out)
   have B1_W1:Hid (W1.heap[(U.heap.size + 1)]?=some (.cells (eA x0_2 x1_2 x2_2 y3_2 y4_2 y5_2 x6_2 x7_2 x8_2 y9_2 b10_2 l10_2 c10_2) 29)):=hidC ((HK_W1.out ((U.heap.size + 1)) (by have:=(gI HB_2.out).1;omega) (by omega) (by omega) (by have:=(gI HB_2.out).1;omega)).trans HB_2.out)
   have B2_W1:Hid (W1.heap[(U.heap.size + 2)]?=some (.cells zA 29)):=hidC ((HK_W1.out ((U.heap.size + 2)) (by have:=(gI HR.out).1;omega) (by omega) (by omega) (by have:=(gI HR.out).1;omega)).trans HR.out)
   simp only [putAll,Act.put,List.setIfInBounds_toArray,List.set_cons_succ,List.set_cons_zero]
   rw [e5]
   generalize v 0=sW1_0,v 1=sW1_1,v 2=sW1_2,v 3=sW1_3,v 4=sW1_4,v 5=sW1_5 at *
   clear hv hs hg hf hl' hXS hk1 hS1 hold ht5 htd hzz hu'
   go_upto_region 2 with fail
   refine wp_region_slots (by kernel_rfl) (fun j v W=>match j with | 0=>v=(vP lb 0) | 1=>v=(.agg (eA x0_h x1_h x2_h y3_h y4_h y5_h x6_h x7_h x8_h y9_h b10_h l10_h c10_h)) | 2=>v=(vP lb 0) | 4=>v=(vP lb 0) | _=>True) (Gy (⟨w,W1,lb,sb,(U.heap.size + 2),S1,fun k=>XS w lb tb ob sb N (p + 2 + k),[3,5,6],9,7,8,8,zA,29,VX (exN 7 ⟨0,0,⟨#[]⟩⟩ ⟨#[]⟩ ⟨#[]⟩ 0 3 (ex3 (exC ⟨#[104,111,108,100,115]⟩ 2 (ex2 Pd (exV ⟨#[46,97,116]⟩))) (exV ⟨#[46]⟩) exNo)),[false,false,false,true,false,true,true,false,false],[17,18,19,20,21,22,23,8,999],fun i=>match i with | 3=>VX (exV ⟨#[46]⟩) | 5=>VX exNo | 6=>VX (exN 7 ⟨0,0,⟨#[]⟩⟩ ⟨#[]⟩ ⟨#[]⟩ 0 3 (ex3 (exC ⟨#[104,111,108,100,115]⟩ 2 (ex2 Pd (exV ⟨#[46,97,116]⟩))) (exV ⟨#[46]⟩) exNo)) | _=>VZ⟩:GxP)) (by kernel_rfl) (by kernel_rfl) (Gx.startA HX_W1.out (fun k=>XS.clo hlw hsw) (fun i=>by dsimp only;split <;> first | exact VZ.kept | exact VV.kept _ | exact VX.kept _ | exact VL.kept _ _ | exact VO.kept _ _ | exact VT.kept _ _) (VX.kept _) hlw hsw (by show w.heap.size<=(U.heap.size + 2);omega) (by show (U.heap.size + 2)<W1.heap.size;omega) (fun b q=>by have:=HS_W1.out b q;exact ⟨this.1,this.2.1,this.2.2.1,this.2.2.2.1⟩) (by exact (by decide:(7:Nat)<9))) ?_ ?_
   · intro l a W i o hsz h ho hl haf
     obtain ⟨t,fx⟩:=h.more
     have hsn:l.size=9:=hsz
     have hts:a.tmps.size=41:=h.size.trans rfl
     have hi:i<9:=(gI ho).1
     obtain rfl | rfl | rfl | rfl | rfl | rfl | rfl | rfl | rfl:i=0\/i=1\/i=2\/i=3\/i=4\/i=5\/i=6\/i=7\/i=8:=by omega
     all_goals (obtain rfl:=Option.some.inj ho;rw [if_pos (want_none rfl)])
     · have e0:=h.given 0 _ rfl (by kernel_rfl)
       refine wp_val ?_ ⟨_,rfl,rfl,fun _ _ h=>h,fx.pure rfl⟩
       unfold execOp
       simp [e0,go_sem]
     · have e7:=h.given 7 _ rfl (by kernel_rfl)
       have hbx:=(fx.same (c:=t1) (by show t1<W1.heap.size;have:=(gI HT_W1.out).1;omega) (by show t1≠lb;omega) (by show t1≠sb;omega) (by show t1≠(U.heap.size + 2);omega)).trans HT_W1.out
       obtain ⟨z0,z1,z2,z3,z4,z5,z6,z7,z8,z9,z10,z11,z12⟩:=bk11 hbx
       refine wp_val ?_ ⟨_,rfl,rfl,fun _ _ h=>h,fx.pure rfl⟩
       unfold execOp
       simp [e7,z0,z1,z2,z3,z4,z5,z6,z7,z8,z9,z10,go_sem]
     · have e0:=h.given 0 _ rfl (by kernel_rfl)
       refine wp_val ?_ ⟨_,rfl,rfl,fun _ _ h=>h,fx.pure rfl⟩
       unfold execOp
       simp [e0,go_sem]
     · obtain ⟨_,e19,rfl⟩:=h.new 2 _ 19 rfl rfl (haf ⟨2,.data⟩ (by simp) rfl)
       obtain ⟨k,hq,hp⟩:=fx.q
       have hn:l.getD 3 false=false:=getD_ofX hl
       obtain rfl:k=0:=hq.at_ (j:=0) (by exact (by decide:(0:Nat)<3)) hn (.inl rfl)
       refine wp_enter (f:=106) (args:=#[vP lb 0,vS ⟨#[46]⟩]) (w':=W) ?_ ((variable_X HLS.out hp (by omega) ⟨#[46]⟩ (by decide)).mono ?_)
       · unfold execOp
         simp [e19,go_sem]
       · rintro e W' ⟨v_,rfl,hv_,hs_,hk_,hz_⟩
         exact ⟨_,rfl,_,rfl,trivial,fun _ _ h=>h,fx.call 0 (i:=3) (s:=20) rfl rfl hsn hq hs_ hk_ hz_ (by rw [hts];exact (by decide:(20:Nat)<41)) (fun _=>hv_ _ _)⟩
     · have e0:=h.given 0 _ rfl (by kernel_rfl)
       refine wp_val ?_ ⟨_,rfl,rfl,fun _ _ h=>h,fx.pure rfl⟩
       unfold execOp
       simp [e0,go_sem]
     · obtain ⟨_,e21,rfl⟩:=h.new 4 _ 21 rfl rfl (haf ⟨4,.data⟩ (by simp) rfl)
       obtain ⟨k,hq,hp⟩:=fx.q
       have hn:l.getD 5 false=false:=getD_ofX hl
       obtain rfl:k=1:=hq.at_ (j:=1) (by exact (by decide:(1:Nat)<3)) hn (.inr (haf ⟨3,.chain⟩ (by simp) rfl))
       refine wp_enter (f:=125) (args:=#[vP lb 0]) (w':=W) ?_ ((nothing_X HLS.out hp (by omega)).mono ?_)
       · unfold execOp
         simp [e21,go_sem]
       · rintro e W' ⟨v_,rfl,hv_,hs_,hk_,hz_⟩
         exact ⟨_,rfl,_,rfl,trivial,fun _ _ h=>h,fx.call 1 (i:=5) (s:=22) rfl rfl hsn hq hs_ hk_ hz_ (by rw [hts];exact (by decide:(22:Nat)<41)) (fun _=>hv_ _ _)⟩
     · obtain ⟨_,e17,rfl⟩:=h.new 0 _ 17 rfl rfl (haf ⟨0,.data⟩ (by simp) rfl)
       obtain ⟨_,e18,rfl⟩:=h.new 1 _ 18 rfl rfl (haf ⟨1,.data⟩ (by simp) rfl)
       obtain ⟨u20,e20,y20⟩:=fx.x 3 (by exact (by decide:(3:Nat)<9)) rfl (haf ⟨3,.data⟩ (by simp) rfl)
       have e20':a.tmps[20]?=some u20:=e20
       obtain ⟨l20,rfl,z20⟩:=y20
       obtain ⟨x0_20,x1_20,x2_20,x6_20,x7_20,x8_20,y3_20,y4_20,y5_20,y9_20,b10_20,l10_20,c10_20,rfl⟩:=z20.form
       have f20:a.tmps[20]?=some (.agg (eA x0_20 x1_20 x2_20 y3_20 y4_20 y5_20 x6_20 x7_20 x8_20 y9_20 b10_20 l10_20 c10_20)):=e20
       obtain ⟨u22,e22,y22⟩:=fx.x 5 (by exact (by decide:(5:Nat)<9)) rfl (haf ⟨5,.chain⟩ (by simp) rfl)
       have e22':a.tmps[22]?=some u22:=e22
       obtain ⟨l22,rfl,z22⟩:=y22
       obtain ⟨x0_22,x1_22,x2_22,x6_22,x7_22,x8_22,y3_22,y4_22,y5_22,y9_22,b10_22,l10_22,c10_22,rfl⟩:=z22.form
       have f22:a.tmps[22]?=some (.agg (eA x0_22 x1_22 x2_22 y3_22 y4_22 y5_22 x6_22 x7_22 x8_22 y9_22 b10_22 l10_22 c10_22)):=e22
       obtain ⟨k,hq,hp⟩:=fx.q
       have hn:l.getD 6 false=false:=getD_ofX hl
       obtain rfl:k=2:=hq.at_ (j:=2) (by exact (by decide:(2:Nat)<3)) hn (.inr (haf ⟨5,.chain⟩ (by simp) rfl))
       refine wp_enter (f:=100) (args:=#[vP lb 0,.agg (eA x0_h x1_h x2_h y3_h y4_h y5_h x6_h x7_h x8_h y9_h b10_h l10_h c10_h),.agg (eA x0_20 x1_20 x2_20 y3_20 y4_20 y5_20 x6_20 x7_20 x8_20 y9_20 b10_20 l10_20 c10_20),.agg (eA x0_22 x1_22 x2_22 y3_22 y4_22 y5_22 x6_22 x7_22 x8_22 y9_22 b10_22 l10_22 c10_22)]) (w':=W) ?_ ((cond_X HLS.out hp (by omega) fx.lt3 (fx.old HV_W1.out) z20 z22).mono ?_)
       · unfold execOp
         simp [e17,e18,f20,f22,go_sem]
       · rintro e W' ⟨v_,rfl,hv_,hs_,hk_,hz_⟩
         exact ⟨_,rfl,_,rfl,trivial,fun _ _ h=>h,fx.call 2 (i:=6) (s:=23) rfl rfl hsn hq hs_ hk_ hz_ (by rw [hts];exact (by decide:(23:Nat)<41)) (fun _=>fx.joined (VX.kept _) hz_ hv_)⟩
     · have m8:=h.later 8 7 _ ⟨7,.phase⟩ rfl (by simp) rfl rfl hl
       refine wp_val (v:=vP W.heap.size 0) (w':=W.alloc (.cells zA 29)) ?_ ⟨_,rfl,trivial,fun _ _ h=>h,fx.alloc rfl hsn (getD_ofX hl) m8 (by rw [hts];exact (by decide:(8:Nat)<41))⟩
       unfold execOp
       simp [go_sem]
     · have e8:=fx.b1 (haf ⟨7,.phase⟩ (by simp) rfl)
       have e8':a.tmps[8]?=some (vP t 0):=e8
       obtain ⟨u23,e23,y23⟩:=fx.x 6 (by exact (by decide:(6:Nat)<9)) rfl (haf ⟨6,.phase⟩ (by simp) rfl)
       have e23':a.tmps[23]?=some u23:=e23
       obtain ⟨l23,rfl,z23⟩:=y23
       obtain ⟨x0_23,x1_23,x2_23,x6_23,x7_23,x8_23,y3_23,y4_23,y5_23,y9_23,b10_23,l10_23,c10_23,rfl⟩:=z23.form
       have f23:a.tmps[23]?=some (.agg (eA x0_23 x1_23 x2_23 y3_23 y4_23 y5_23 x6_23 x7_23 x8_23 y9_23 b10_23 l10_23 c10_23)):=e23
       have hn:l.getD 8 false=false:=getD_ofX hl
       have ha:l.getD 7 true=true:=(getD_def (by omega) true).trans (haf ⟨7,.phase⟩ (by simp) rfl)
       have c_:=fx.bz ha hn
       obtain ⟨z0,z1,z2,z3,z4,z5,z6,z7,z8,z9,z10,z11,z12⟩:=bk11 c_
       obtain ⟨W',hW'⟩:∃ V,V=(((((((((((W).setCell ⟨t,0,none⟩ (vI x0_23)).setCell ⟨t,1,none⟩ (vI x1_23)).setCell ⟨t,2,none⟩ (vI x2_23)).setCell ⟨t,3,none⟩ (vS y3_23)).setCell ⟨t,4,none⟩ (vS y4_23)).setCell ⟨t,5,none⟩ (vS y5_23)).setCell ⟨t,6,none⟩ (vI x6_23)).setCell ⟨t,7,none⟩ (vI x7_23)).setCell ⟨t,8,none⟩ (vI x8_23)).setCell ⟨t,9,none⟩ (vS y9_23)).setCell ⟨t,10,none⟩ (.slice b10_23 l10_23 c10_23):=⟨_,rfl⟩
       have hPL:W'=putL W (t) 0 (eL x0_23 x1_23 x2_23 y3_23 y4_23 y5_23 x6_23 x7_23 x8_23 y9_23 b10_23 l10_23 c10_23):=hW'
       refine wp_skip (w':=W') ?_ ⟨undef,rfl,trivial,fun _ _ h=>h,by rw [hPL];exact fx.store rfl hsn ha hn rfl ⟨_,rfl,z23⟩⟩
       rw [hW']
       clear hPL hW'
       unfold execOp
       simp [e8',f23,z0,z1,z2,z3,z4,z5,z6,z7,z8,z9,z10,z11,go_sem]
   · intro v W2 hv hs hg
     obtain ⟨hXS,hzz,t2,S2,ht5,htd,_,hk1,hS1,hf,_,hold⟩:=Gy.next rfl hg
     obtain ⟨u',hu',l',el,hl'⟩:=hf (by exact (by decide:(8:Nat)<9))
     have el':u'=l':=by injection el with el;simpa using congrArg Array.toList el
     subst el'
     obtain ⟨x0_k,x1_k,x2_k,x6_k,x7_k,x8_k,y3_k,y4_k,y5_k,y9_k,b10_k,l10_k,c10_k,rfl⟩:=hl'.form
     have e5:v 7=vP t2 0:=Option.some.inj ((hs 7 _ 8 rfl rfl).symm.trans (ht5 (by exact (by decide:(7:Nat)<9))))
     have hz_W2:W1.heap.size<=W2.heap.size:=hzz
     have ht_W2:W1.heap.size<=t2/\t2<W2.heap.size:=htd (by exact (by decide:(7:Nat)<9))
     have HS_W2:Hid (∀ b,S2 b->b<W2.heap.size/\b≠lb/\b≠sb/\b≠(U.heap.size + 2)/\b≠t2/\((S1) b\/W1.heap.size<=b)):=hS1
     have HK_W2:Hid (∀ c,c<W1.heap.size->c≠lb->c≠sb->c≠t2->W2.heap[c]?=W1.heap[c]?):=hk1
     have HX_W2:Hid (XS w lb tb ob sb N (p + 2 + 3) W2):=hXS
     have HT_W2:Hid (W2.heap[t2]?=some (.cells (eA x0_k x1_k x2_k y3_k y4_k y5_k x6_k x7_k x8_k y9_k b10_k l10_k c10_k) 29)):=hu'
     have HV_W2:Hid (((exN 7 ⟨0,0,⟨#[]⟩⟩ ⟨#[]⟩ ⟨#[]⟩ 0 3 (ex3 (exC ⟨#[104,111,108,100,115]⟩ 2 (ex2 Pd (exV ⟨#[46,97,116]⟩))) (exV ⟨#[46]⟩) exNo))).W W2 S2 (eL x0_k x1_k x2_k y3_k y4_k y5_k x6_k x7_k x8_k y9_k b10_k l10_k c10_k)):=hl'
     have O0_W2:Hid (((exC ⟨#[104,111,108,100,115]⟩ 2 (ex2 Pd (exV ⟨#[46,97,116]⟩)))).W W2 S2 (eL x0_h x1_h x2_h y3_h y4_h y5_h x6_h x7_h x8_h y9_h b10_h l10_h c10_h)):=hidC (hold _ _ HV_W1.out)
     have O1_W2:Hid ((X).W W2 S2 (eL x0_1 x1_1 x2_1 y3_1 y4_1 y5_1 x6_1 x7_1 x8_1 y9_1 b10_1 l10_1 c10_1)):=hidC (hold _ _ O0_W1.out)
     have O2_W2:Hid ((Pd).W W2 S2 (eL x0_2 x1_2 x2_2 y3_2 y4_2 y5_2 x6_2 x7_2 x8_2 y9_2 b10_2 l10_2 c10_2)):=hidC (hold _ _ O1_W1.out)
     have B0_W2:Hid (W2.heap[t1]?=some (.cells (eA x0_h x1_h x2_h y3_h y4_h y5_h x6_h x7_h x8_h y9_h b10_h l10_h c10_h) 29)):=hidC ((HK_W2.out (t1) (by have:=(gI HT_W1.out).1;omega) (by omega) (by omega) (by have:=(gI HT_W1.out).1;omega)).trans HT_W1.out)
     have B1_W2:Hid (W2.heap[U.heap.size]?=some (.cells (eA x0_1 x1_1 x2_1 y3_1 y4_1 y5_1 x6_1 x7_1 x8_1 y9_1 b10_1 l10_1 c10_1) 29)):=hidC ((HK_W2.out (U.heap.size) (by have:=(gI B0_W1.out).1;omega) (by omega) (by omega) (by have:=(gI B0_W1.out).1;omega)).trans B0_W1.out)
     have B2_W2:Hid (W2.heap[(U.heap.size + 1)]?=some (.cells (eA x0_2 x1_2 x2_2 y3_2 y4_2 y5_2 x6_2 x7_2 x8_2 y9_2 b10_2 l10_2 c10_2) 29)):=hidC ((HK_W2.out ((U.heap.size + 1)) (by have:=(gI B1_W1.out).1;omega) (by omega) (by omega) (by have:=(gI B1_W1.out).1;omega)).trans B1_W1.out)
     have B3_W2:Hid (W2.heap[(U.heap.size + 2)]?=some (.cells zA 29)):=hidC ((HK_W2.out ((U.heap.size + 2)) (by have:=(gI B2_W1.out).1;omega) (by omega) (by omega) (by have:=(gI B2_W1.out).1;omega)).trans B2_W1.out)
     simp only [putAll,Act.put,List.setIfInBounds_toArray,List.set_cons_succ,List.set_cons_zero]
     rw [e5]
     generalize v 0=sW2_0,v 1=sW2_1,v 2=sW2_2,v 3=sW2_3,v 4=sW2_4,v 5=sW2_5,v 6=sW2_6 at *
     clear hv hs hg hf hl' hXS hk1 hS1 hold ht5 htd hzz hu'
     go_upto_region 3 with fail
     refine wp_region_slots (by kernel_rfl) (fun j v W=>match j with | 0=>v=(vP lb 0) | 1=>v=(vP lb 0) | 3=>v=(.agg (eA x0_k x1_k x2_k y3_k y4_k y5_k x6_k x7_k x8_k y9_k b10_k l10_k c10_k)) | _=>True) (Gy (⟨w,W2,lb,sb,(U.heap.size + 2),S2,fun k=>XS w lb tb ob sb N (p + 5 + k),[2,4],7,5,6,9,zA,29,VX (exN 5 ⟨0,0,⟨#[]⟩⟩ ⟨#[46]⟩ ⟨#[46,97,116]⟩ 0 2 (ex2 (exV ⟨#[46,97,108,108]⟩) (exN 7 ⟨0,0,⟨#[]⟩⟩ ⟨#[]⟩ ⟨#[]⟩ 0 3 (ex3 (exC ⟨#[104,111,108,100,115]⟩ 2 (ex2 Pd (exV ⟨#[46,97,116]⟩))) (exV ⟨#[46]⟩) exNo)))),[false,false,true,false,true,false,false],[24,25,26,27,28,9,999],fun i=>match i with | 2=>VX (exV ⟨#[46,97,108,108]⟩) | 4=>VX (exN 5 ⟨0,0,⟨#[]⟩⟩ ⟨#[46]⟩ ⟨#[46,97,116]⟩ 0 2 (ex2 (exV ⟨#[46,97,108,108]⟩) (exN 7 ⟨0,0,⟨#[]⟩⟩ ⟨#[]⟩ ⟨#[]⟩ 0 3 (ex3 (exC ⟨#[104,111,108,100,115]⟩ 2 (ex2 Pd (exV ⟨#[46,97,116]⟩))) (exV ⟨#[46]⟩) exNo)))) | _=>VZ⟩:GxP)) (by kernel_rfl) (by kernel_rfl) (Gx.startA HX_W2.out (fun k=>XS.clo hlw hsw) (fun i=>by dsimp only;split <;> first | exact VZ.kept | exact VV.kept _ | exact VX.kept _ | exact VL.kept _ _ | exact VO.kept _ _ | exact VT.kept _ _) (VX.kept _) hlw hsw (by show w.heap.size<=(U.heap.size + 2);omega) (by show (U.heap.size + 2)<W2.heap.size;omega) (fun b q=>by have:=HS_W2.out b q;exact ⟨this.1,this.2.1,this.2.2.1,this.2.2.2.1⟩) (by exact (by decide:(5:Nat)<7))) ?_ ?_
     · intro l a W i o hsz h ho hl haf
       obtain ⟨t,fx⟩:=h.more
       have hsn:l.size=7:=hsz
       have hts:a.tmps.size=41:=h.size.trans rfl
       have hi:i<7:=(gI ho).1
       obtain rfl | rfl | rfl | rfl | rfl | rfl | rfl:i=0\/i=1\/i=2\/i=3\/i=4\/i=5\/i=6:=by omega
       all_goals (obtain rfl:=Option.some.inj ho;rw [if_pos (want_none rfl)])
       · have e0:=h.given 0 _ rfl (by kernel_rfl)
         refine wp_val ?_ ⟨_,rfl,rfl,fun _ _ h=>h,fx.pure rfl⟩
         unfold execOp
         simp [e0,go_sem]
       · have e0:=h.given 0 _ rfl (by kernel_rfl)
         refine wp_val ?_ ⟨_,rfl,rfl,fun _ _ h=>h,fx.pure rfl⟩
         unfold execOp
         simp [e0,go_sem]
       · obtain ⟨_,e25,rfl⟩:=h.new 1 _ 25 rfl rfl (haf ⟨1,.data⟩ (by simp) rfl)
         obtain ⟨k,hq,hp⟩:=fx.q
         have hn:l.getD 2 false=false:=getD_ofX hl
         obtain rfl:k=0:=hq.at_ (j:=0) (by exact (by decide:(0:Nat)<2)) hn (.inl rfl)
         refine wp_enter (f:=106) (args:=#[vP lb 0,vS ⟨#[46,97,108,108]⟩]) (w':=W) ?_ ((variable_X HLS.out hp (by omega) ⟨#[46,97,108,108]⟩ (by decide)).mono ?_)
         · unfold execOp
           simp [e25,go_sem]
         · rintro e W' ⟨v_,rfl,hv_,hs_,hk_,hz_⟩
           exact ⟨_,rfl,_,rfl,trivial,fun _ _ h=>h,fx.call 0 (i:=2) (s:=26) rfl rfl hsn hq hs_ hk_ hz_ (by rw [hts];exact (by decide:(26:Nat)<41)) (fun _=>hv_ _ _)⟩
       · have e8:=h.given 8 _ rfl (by kernel_rfl)
         have hbx:=(fx.same (c:=t2) (by show t2<W2.heap.size;have:=(gI HT_W2.out).1;omega) (by show t2≠lb;omega) (by show t2≠sb;omega) (by show t2≠(U.heap.size + 2);omega)).trans HT_W2.out
         obtain ⟨z0,z1,z2,z3,z4,z5,z6,z7,z8,z9,z10,z11,z12⟩:=bk11 hbx
         refine wp_val ?_ ⟨_,rfl,rfl,fun _ _ h=>h,fx.pure rfl⟩
         unfold execOp
         simp [e8,z0,z1,z2,z3,z4,z5,z6,z7,z8,z9,z10,go_sem]
       · obtain ⟨_,e24,rfl⟩:=h.new 0 _ 24 rfl rfl (haf ⟨0,.data⟩ (by simp) rfl)
         obtain ⟨u26,e26,y26⟩:=fx.x 2 (by exact (by decide:(2:Nat)<7)) rfl (haf ⟨2,.chain⟩ (by simp) rfl)
         have e26':a.tmps[26]?=some u26:=e26
         obtain ⟨l26,rfl,z26⟩:=y26
         obtain ⟨x0_26,x1_26,x2_26,x6_26,x7_26,x8_26,y3_26,y4_26,y5_26,y9_26,b10_26,l10_26,c10_26,rfl⟩:=z26.form
         have f26:a.tmps[26]?=some (.agg (eA x0_26 x1_26 x2_26 y3_26 y4_26 y5_26 x6_26 x7_26 x8_26 y9_26 b10_26 l10_26 c10_26)):=e26
         obtain ⟨_,e27,rfl⟩:=h.new 3 _ 27 rfl rfl (haf ⟨3,.data⟩ (by simp) rfl)
         obtain ⟨k,hq,hp⟩:=fx.q
         have hn:l.getD 4 false=false:=getD_ofX hl
         obtain rfl:k=1:=hq.at_ (j:=1) (by exact (by decide:(1:Nat)<2)) hn (.inr (haf ⟨2,.chain⟩ (by simp) rfl))
         refine wp_enter (f:=92) (args:=#[vP lb 0,vS ⟨#[46]⟩,vS ⟨#[46,97,116]⟩,.agg (eA x0_26 x1_26 x2_26 y3_26 y4_26 y5_26 x6_26 x7_26 x8_26 y9_26 b10_26 l10_26 c10_26),.agg (eA x0_k x1_k x2_k y3_k y4_k y5_k x6_k x7_k x8_k y9_k b10_k l10_k c10_k)]) (w':=W) ?_ ((loop_X HLS.out hp (by omega) ⟨#[46]⟩ ⟨#[46,97,116]⟩ (by decide) (by decide) fx.lt3 z26 (fx.old HV_W2.out)).mono ?_)
         · unfold execOp
           simp [e24,f26,e27,go_sem]
         · rintro e W' ⟨v_,rfl,hv_,hs_,hk_,hz_⟩
           exact ⟨_,rfl,_,rfl,trivial,fun _ _ h=>h,fx.call 1 (i:=4) (s:=28) rfl rfl hsn hq hs_ hk_ hz_ (by rw [hts];exact (by decide:(28:Nat)<41)) (fun _=>fx.joined (VX.kept _) hz_ hv_)⟩
       · have m6:=h.later 6 5 _ ⟨5,.phase⟩ rfl (by simp) rfl rfl hl
         refine wp_val (v:=vP W.heap.size 0) (w':=W.alloc (.cells zA 29)) ?_ ⟨_,rfl,trivial,fun _ _ h=>h,fx.alloc rfl hsn (getD_ofX hl) m6 (by rw [hts];exact (by decide:(9:Nat)<41))⟩
         unfold execOp
         simp [go_sem]
       · have e9:=fx.b1 (haf ⟨5,.phase⟩ (by simp) rfl)
         have e9':a.tmps[9]?=some (vP t 0):=e9
         obtain ⟨u28,e28,y28⟩:=fx.x 4 (by exact (by decide:(4:Nat)<7)) rfl (haf ⟨4,.phase⟩ (by simp) rfl)
         have e28':a.tmps[28]?=some u28:=e28
         obtain ⟨l28,rfl,z28⟩:=y28
         obtain ⟨x0_28,x1_28,x2_28,x6_28,x7_28,x8_28,y3_28,y4_28,y5_28,y9_28,b10_28,l10_28,c10_28,rfl⟩:=z28.form
         have f28:a.tmps[28]?=some (.agg (eA x0_28 x1_28 x2_28 y3_28 y4_28 y5_28 x6_28 x7_28 x8_28 y9_28 b10_28 l10_28 c10_28)):=e28
         have hn:l.getD 6 false=false:=getD_ofX hl
         have ha:l.getD 5 true=true:=(getD_def (by omega) true).trans (haf ⟨5,.phase⟩ (by simp) rfl)
         have c_:=fx.bz ha hn
         obtain ⟨z0,z1,z2,z3,z4,z5,z6,z7,z8,z9,z10,z11,z12⟩:=bk11 c_
         obtain ⟨W',hW'⟩:∃ V,V=(((((((((((W).setCell ⟨t,0,none⟩ (vI x0_28)).setCell ⟨t,1,none⟩ (vI x1_28)).setCell ⟨t,2,none⟩ (vI x2_28)).setCell ⟨t,3,none⟩ (vS y3_28)).setCell ⟨t,4,none⟩ (vS y4_28)).setCell ⟨t,5,none⟩ (vS y5_28)).setCell ⟨t,6,none⟩ (vI x6_28)).setCell ⟨t,7,none⟩ (vI x7_28)).setCell ⟨t,8,none⟩ (vI x8_28)).setCell ⟨t,9,none⟩ (vS y9_28)).setCell ⟨t,10,none⟩ (.slice b10_28 l10_28 c10_28):=⟨_,rfl⟩
         have hPL:W'=putL W (t) 0 (eL x0_28 x1_28 x2_28 y3_28 y4_28 y5_28 x6_28 x7_28 x8_28 y9_28 b10_28 l10_28 c10_28):=hW'
         refine wp_skip (w':=W') ?_ ⟨undef,rfl,trivial,fun _ _ h=>h,by rw [hPL];exact fx.store rfl hsn ha hn rfl ⟨_,rfl,z28⟩⟩
         rw [hW']
         clear hPL hW'
         unfold execOp
         simp [e9',f28,z0,z1,z2,z3,z4,z5,z6,z7,z8,z9,z10,z11,go_sem]
     · intro v W3 hv hs hg
       obtain ⟨hXS,hzz,t3,S3,ht5,htd,_,hk1,hS1,hf,_,hold⟩:=Gy.next rfl hg
       obtain ⟨u',hu',l',el,hl'⟩:=hf (by exact (by decide:(6:Nat)<7))
       have el':u'=l':=by injection el with el;simpa using congrArg Array.toList el
       subst el'
       obtain ⟨x0_l,x1_l,x2_l,x6_l,x7_l,x8_l,y3_l,y4_l,y5_l,y9_l,b10_l,l10_l,c10_l,rfl⟩:=hl'.form
       have e5:v 5=vP t3 0:=Option.some.inj ((hs 5 _ 9 rfl rfl).symm.trans (ht5 (by exact (by decide:(5:Nat)<7))))
       have hz_W3:W2.heap.size<=W3.heap.size:=hzz
       have ht_W3:W2.heap.size<=t3/\t3<W3.heap.size:=htd (by exact (by decide:(5:Nat)<7))
       have HS_W3:Hid (∀ b,S3 b->b<W3.heap.size/\b≠lb/\b≠sb/\b≠(U.heap.size + 2)/\b≠t3/\((S2) b\/W2.heap.size<=b)):=hS1
       have HK_W3:Hid (∀ c,c<W2.heap.size->c≠lb->c≠sb->c≠t3->W3.heap[c]?=W2.heap[c]?):=hk1
       have HX_W3:Hid (XS w lb tb ob sb N (p + 5 + 2) W3):=hXS
       have HT_W3:Hid (W3.heap[t3]?=some (.cells (eA x0_l x1_l x2_l y3_l y4_l y5_l x6_l x7_l x8_l y9_l b10_l l10_l c10_l) 29)):=hu'
       have HV_W3:Hid (((exN 5 ⟨0,0,⟨#[]⟩⟩ ⟨#[46]⟩ ⟨#[46,97,116]⟩ 0 2 (ex2 (exV ⟨#[46,97,108,108]⟩) (exN 7 ⟨0,0,⟨#[]⟩⟩ ⟨#[]⟩ ⟨#[]⟩ 0 3 (ex3 (exC ⟨#[104,111,108,100,115]⟩ 2 (ex2 Pd (exV ⟨#[46,97,116]⟩))) (exV ⟨#[46]⟩) exNo))))).W W3 S3 (eL x0_l x1_l x2_l y3_l y4_l y5_l x6_l x7_l x8_l y9_l b10_l l10_l c10_l)):=hl'
       have O0_W3:Hid (((exN 7 ⟨0,0,⟨#[]⟩⟩ ⟨#[]⟩ ⟨#[]⟩ 0 3 (ex3 (exC ⟨#[104,111,108,100,115]⟩ 2 (ex2 Pd (exV ⟨#[46,97,116]⟩))) (exV ⟨#[46]⟩) exNo))).W W3 S3 (eL x0_k x1_k x2_k y3_k y4_k y5_k x6_k x7_k x8_k y9_k b10_k l10_k c10_k)):=hidC (hold _ _ HV_W2.out)
       have O1_W3:Hid (((exC ⟨#[104,111,108,100,115]⟩ 2 (ex2 Pd (exV ⟨#[46,97,116]⟩)))).W W3 S3 (eL x0_h x1_h x2_h y3_h y4_h y5_h x6_h x7_h x8_h y9_h b10_h l10_h c10_h)):=hidC (hold _ _ O0_W2.out)
       have O2_W3:Hid ((X).W W3 S3 (eL x0_1 x1_1 x2_1 y3_1 y4_1 y5_1 x6_1 x7_1 x8_1 y9_1 b10_1 l10_1 c10_1)):=hidC (hold _ _ O1_W2.out)
       have O3_W3:Hid ((Pd).W W3 S3 (eL x0_2 x1_2 x2_2 y3_2 y4_2 y5_2 x6_2 x7_2 x8_2 y9_2 b10_2 l10_2 c10_2)):=hidC (hold _ _ O2_W2.out)
       have B0_W3:Hid (W3.heap[t2]?=some (.cells (eA x0_k x1_k x2_k y3_k y4_k y5_k x6_k x7_k x8_k y9_k b10_k l10_k c10_k) 29)):=hidC ((HK_W3.out (t2) (by have:=(gI HT_W2.out).1;omega) (by omega) (by omega) (by have:=(gI HT_W2.out).1;omega)).trans HT_W2.out)
       have B1_W3:Hid (W3.heap[t1]?=some (.cells (eA x0_h x1_h x2_h y3_h y4_h y5_h x6_h x7_h x8_h y9_h b10_h l10_h c10_h) 29)):=hidC ((HK_W3.out (t1) (by have:=(gI B0_W2.out).1;omega) (by omega) (by omega) (by have:=(gI B0_W2.out).1;omega)).trans B0_W2.out)
       have B2_W3:Hid (W3.heap[U.heap.size]?=some (.cells (eA x0_1 x1_1 x2_1 y3_1 y4_1 y5_1 x6_1 x7_1 x8_1 y9_1 b10_1 l10_1 c10_1) 29)):=hidC ((HK_W3.out (U.heap.size) (by have:=(gI B1_W2.out).1;omega) (by omega) (by omega) (by have:=(gI B1_W2.out).1;omega)).trans B1_W2.out)
       have B3_W3:Hid (W3.heap[(U.heap.size + 1)]?=some (.cells (eA x0_2 x1_2 x2_2 y3_2 y4_2 y5_2 x6_2 x7_2 x8_2 y9_2 b10_2 l10_2 c10_2) 29)):=hidC ((HK_W3.out ((U.heap.size + 1)) (by have:=(gI B2_W2.out).1;omega) (by omega) (by omega) (by have:=(gI B2_W2.out).1;omega)).trans B2_W2.out)
       have B4_W3:Hid (W3.heap[(U.heap.size + 2)]?=some (.cells zA 29)):=hidC ((HK_W3.out ((U.heap.size + 2)) (by have:=(gI B3_W2.out).1;omega) (by omega) (by omega) (by have:=(gI B3_W2.out).1;omega)).trans B3_W2.out)
       simp only [putAll,Act.put,List.setIfInBounds_toArray,List.set_cons_succ,List.set_cons_zero]
       rw [e5]
       generalize v 0=sW3_0,v 1=sW3_1,v 2=sW3_2,v 3=sW3_3,v 4=sW3_4 at *
       clear hv hs hg hf hl' hXS hk1 hS1 hold ht5 htd hzz hu'
       go_wp2_with (first
        | (go_at_call 106;refine (variable_X HLS.out HX_W3.out (by omega) ⟨#[46,97,108,108]⟩ (by decide)).mono ?_;rintro e w4 ⟨v4,rfl,hv4,hs4,hk4,hz4⟩;obtain ⟨l4,rfl,hx4⟩:=hv4 w4 (fun _=>False);obtain ⟨x0_v,x1_v,x2_v,x6_v,x7_v,x8_v,y3_v,y4_v,y5_v,y9_v,b10_v,l10_v,c10_v,rfl⟩:=hx4.form;have HX_w4:=hidC hs4;have HV_w4:=hidC hx4;have HK_w4:=hidC hk4;have hz_w4:=hz4;clear hv4 hs4 hx4 hk4 hz4)
        | (go_at_call 91;refine (call_X HLS.out (HX_w4.out.alloc _) (by omega) ⟨#[99,111,117,110,116]⟩ (by decide) (fun b q=>⟨q.2,by have:=q.1;omega,by have:=q.1;omega⟩) (vl_one0 HV_w4.out) (by decide)).mono ?_;rintro e w5 ⟨v5,rfl,⟨l5,rfl,hx5⟩,hs5,hk5,hz5⟩;obtain ⟨x0_m,x1_m,x2_m,x6_m,x7_m,x8_m,y3_m,y4_m,y5_m,y9_m,b10_m,l10_m,c10_m,rfl⟩:=hx5.form;have HX_w5:=hidC hs5;have HV_w5:=hidC hx5;have HK_w5:=hidC hk5;have hz_w5:w4.heap.size + 1<=w5.heap.size:=(by have:=hz5;simpa using this);clear hs5 hx5 hk5 hz5))
       obtain ⟨W4,hW4⟩:∃ V,V=w5.alloc (.cells (eA x0_m x1_m x2_m y3_m y4_m y5_m x6_m x7_m x8_m y9_m b10_m l10_m c10_m) 29):=⟨_,rfl⟩
       obtain ⟨t4,ht4⟩:∃ t,t=w5.heap.size:=⟨_,rfl⟩
       have HX_W4:Hid (XS w lb tb ob sb N (p + 9) W4):=hidC (by rw [hW4];exact HX_w5.out.alloc _)
       have HT_W4:Hid (W4.heap[t4]?=some (.cells (eA x0_m x1_m x2_m y3_m y4_m y5_m x6_m x7_m x8_m y9_m b10_m l10_m c10_m) 29)):=hidC (by rw [hW4,ht4];exact aNew rfl)
       have hzW4:W4.heap.size=w5.heap.size + 1:=by rw [hW4];simp
       have HK_W4:Hid (∀ c,c<W3.heap.size->c≠lb->c≠sb->W4.heap[c]?=W3.heap[c]?):=hidC (fun c h1 h2 h3=>by
        rw [hW4]
        exact (Below.heap_alloc _ _ c (by omega)).trans ((HK_w5.out c (by simp;omega) h2 h3).trans ((Below.heap_alloc _ _ c (by omega)).trans (HK_w4.out c h1 h2 h3))))
       obtain ⟨S4,eS4⟩:∃ S:Nat->Prop,S=fun b=>S3 b\/(W3.heap.size<=b/\b<w5.heap.size):=⟨_,rfl⟩
       have hS4:∀ b,S4 b->b<W4.heap.size/\b≠lb/\b≠sb/\b≠U.heap.size + 2/\b≠t4/\(S3 b\/W3.heap.size<=b):=fun b q=>by
        rw [eS4] at q
        rcases q with q | q
        · have:=HS_W3.out b q
          exact ⟨by omega,this.2.1,this.2.2.1,this.2.2.2.1,by omega,.inl q⟩
        · exact ⟨by omega,by omega,by omega,by omega,by omega,.inr q.1⟩
       have hk3:∀ b,S3 b->W4.heap[b]?=W3.heap[b]?:=fun b q=>HK_W4.out b (HS_W3.out b q).1 (HS_W3.out b q).2.1 (HS_W3.out b q).2.2.1
       have HV_W4:Hid ((exC ⟨#[99,111,117,110,116]⟩ 1 (fun _=>exV ⟨#[46,97,108,108]⟩)).W W4 S4 (eL x0_m x1_m x2_m y3_m y4_m y5_m x6_m x7_m x8_m y9_m b10_m l10_m c10_m)):=hidC (by
        rw [eS4,hW4]
        exact Ex.W.keep (fun b q=>.inr (by rcases q with q | q;(· have h2:=q.2;simp at h2;exact ⟨by omega,by omega⟩);(· have h2:=q.1;simp at h2;exact ⟨by omega,q.2⟩))) (fun b q=>Below.heap_alloc _ _ b (by rcases q with q | q;(· have h2:=q.2;simp at h2;omega);(· exact q.2))) HV_w5.out)
       have HL_W4:Hid ((exN 5 ⟨0,0,⟨#[]⟩⟩ ⟨#[46]⟩ ⟨#[46,97,116]⟩ 0 2 (ex2 (exV ⟨#[46,97,108,108]⟩) (exN 7 ⟨0,0,⟨#[]⟩⟩ ⟨#[]⟩ ⟨#[]⟩ 0 3 (ex3 (exC ⟨#[104,111,108,100,115]⟩ 2 (ex2 Pd (exV ⟨#[46,97,116]⟩))) (exV ⟨#[46]⟩) exNo)))).W W4 S4 (eL x0_l x1_l x2_l y3_l y4_l y5_l x6_l x7_l x8_l y9_l b10_l l10_l c10_l)):=hidC (by rw [eS4];exact Ex.W.keep (fun b q=>.inl q) hk3 HV_W3.out)
       have HX1_W4:Hid (X.W W4 S4 (eL x0_1 x1_1 x2_1 y3_1 y4_1 y5_1 x6_1 x7_1 x8_1 y9_1 b10_1 l10_1 c10_1)):=hidC (by rw [eS4];exact Ex.W.keep (fun b q=>.inl q) hk3 O2_W3.out)
       have HT3_W4:Hid (W4.heap[t3]?=some (.cells (eA x0_l x1_l x2_l y3_l y4_l y5_l x6_l x7_l x8_l y9_l b10_l l10_l c10_l) 29)):=hidC ((HK_W4.out t3 (by omega) (by omega) (by omega)).trans HT_W3.out)
       have HB1_W4:Hid (W4.heap[U.heap.size]?=some (.cells (eA x0_1 x1_1 x2_1 y3_1 y4_1 y5_1 x6_1 x7_1 x8_1 y9_1 b10_1 l10_1 c10_1) 29)):=hidC ((HK_W4.out _ (by omega) (by omega) (by omega)).trans B2_W3.out)
       have HR_W4:Hid (W4.heap[U.heap.size + 2]?=some (.cells zA 29)):=hidC ((HK_W4.out _ (by omega) (by omega) (by omega)).trans B4_W3.out)
       rw [<- hW4,<- ht4]
       have ht4W:t4<W4.heap.size:=by omega
       clear hW4 hk3 HV_w4 HK_w4 HX_w4 HV_w5 HK_w5 HX_w5
       go_upto_region 5 with fail
       refine wp_region_slots (by kernel_rfl) (fun j v W=>match j with | 0=>v=(vP lb 0) | 1=>v=(.agg (eA x0_1 x1_1 x2_1 y3_1 y4_1 y5_1 x6_1 x7_1 x8_1 y9_1 b10_1 l10_1 c10_1)) | 2=>v=(vP lb 0) | 3=>v=(.agg (eA x0_m x1_m x2_m y3_m y4_m y5_m x6_m x7_m x8_m y9_m b10_m l10_m c10_m)) | 4=>v=(.agg (eA x0_l x1_l x2_l y3_l y4_l y5_l x6_l x7_l x8_l y9_l b10_l l10_l c10_l)) | _=>True) (Gy (⟨w,W4,lb,sb,(U.heap.size + 2),S4,fun k=>XS w lb tb ob sb N (p + 9 + k),[5,6],8,1000,7,998,zA,29,VX (exFil X Pd),[false,false,false,false,false,true,true,false],[34,35,36,37,38,39,40,999],fun i=>match i with | 5=>VX (exN 4 ⟨0,0,⟨#[]⟩⟩ ⟨#[46,108,97,115,116]⟩ ⟨#[]⟩ 0 2 (ex2 (exC ⟨#[99,111,117,110,116]⟩ 1 (fun _=>exV ⟨#[46,97,108,108]⟩)) (exN 5 ⟨0,0,⟨#[]⟩⟩ ⟨#[46]⟩ ⟨#[46,97,116]⟩ 0 2 (ex2 (exV ⟨#[46,97,108,108]⟩) (exN 7 ⟨0,0,⟨#[]⟩⟩ ⟨#[]⟩ ⟨#[]⟩ 0 3 (ex3 (exC ⟨#[104,111,108,100,115]⟩ 2 (ex2 Pd (exV ⟨#[46,97,116]⟩))) (exV ⟨#[46]⟩) exNo)))))) | 6=>VX (exFil X Pd) | _=>VZ⟩:GxP)) (by kernel_rfl) (by kernel_rfl) (Gx.startB HX_W4.out (fun k=>XS.clo hlw hsw) (fun i=>by dsimp only;split <;> first | exact VZ.kept | exact VV.kept _ | exact VX.kept _ | exact VL.kept _ _ | exact VO.kept _ _ | exact VT.kept _ _) (VX.kept _) hlw hsw (by show w.heap.size<=U.heap.size + 2;omega) (by show U.heap.size + 2<W4.heap.size;omega) (fun b q=>by have:=hS4 b q;show b<W4.heap.size/\b≠lb/\b≠sb/\b≠U.heap.size + 2;omega) HR_W4.out (by exact (by decide:(8:Nat)<=1000))) ?_ ?_
       · intro l a W i o hsz h ho hl haf
         obtain ⟨t,fx⟩:=h.more
         have hsn:l.size=8:=hsz
         have hts:a.tmps.size=41:=h.size.trans rfl
         have hi:i<8:=(gI ho).1
         obtain rfl | rfl | rfl | rfl | rfl | rfl | rfl | rfl:i=0\/i=1\/i=2\/i=3\/i=4\/i=5\/i=6\/i=7:=by omega
         all_goals (obtain rfl:=Option.some.inj ho;rw [if_pos (want_none rfl)])
         · have e0:=h.given 0 _ rfl (by kernel_rfl)
           refine wp_val ?_ ⟨_,rfl,rfl,fun _ _ h=>h,fx.pure rfl⟩
           unfold execOp
           simp [e0,go_sem]
         · have e4:=h.given 4 _ rfl (by kernel_rfl)
           have hbx:=(fx.same (c:=U.heap.size) (by show U.heap.size<W4.heap.size;have:=(gI HB1_W4.out).1;omega) (by show U.heap.size≠lb;omega) (by show U.heap.size≠sb;omega) (by show U.heap.size≠(U.heap.size + 2);omega)).trans HB1_W4.out
           obtain ⟨z0,z1,z2,z3,z4,z5,z6,z7,z8,z9,z10,z11,z12⟩:=bk11 hbx
           refine wp_val ?_ ⟨_,rfl,rfl,fun _ _ h=>h,fx.pure rfl⟩
           unfold execOp
           simp [e4,z0,z1,z2,z3,z4,z5,z6,z7,z8,z9,z10,go_sem]
         · have e0:=h.given 0 _ rfl (by kernel_rfl)
           refine wp_val ?_ ⟨_,rfl,rfl,fun _ _ h=>h,fx.pure rfl⟩
           unfold execOp
           simp [e0,go_sem]
         · have e10:=h.given 10 _ rfl (by kernel_rfl)
           have hbx:=(fx.same (c:=t4) (by show t4<W4.heap.size;have:=(gI HT_W4.out).1;omega) (by show t4≠lb;omega) (by show t4≠sb;omega) (by show t4≠(U.heap.size + 2);omega)).trans HT_W4.out
           obtain ⟨z0,z1,z2,z3,z4,z5,z6,z7,z8,z9,z10,z11,z12⟩:=bk11 hbx
           refine wp_val ?_ ⟨_,rfl,rfl,fun _ _ h=>h,fx.pure rfl⟩
           unfold execOp
           simp [e10,z0,z1,z2,z3,z4,z5,z6,z7,z8,z9,z10,go_sem]
         · have e9:=h.given 9 _ rfl (by kernel_rfl)
           have hbx:=(fx.same (c:=t3) (by show t3<W4.heap.size;have:=(gI HT3_W4.out).1;omega) (by show t3≠lb;omega) (by show t3≠sb;omega) (by show t3≠(U.heap.size + 2);omega)).trans HT3_W4.out
           obtain ⟨z0,z1,z2,z3,z4,z5,z6,z7,z8,z9,z10,z11,z12⟩:=bk11 hbx
           refine wp_val ?_ ⟨_,rfl,rfl,fun _ _ h=>h,fx.pure rfl⟩
           unfold execOp
           simp [e9,z0,z1,z2,z3,z4,z5,z6,z7,z8,z9,z10,go_sem]
         · obtain ⟨_,e36,rfl⟩:=h.new 2 _ 36 rfl rfl (haf ⟨2,.data⟩ (by simp) rfl)
           obtain ⟨_,e37,rfl⟩:=h.new 3 _ 37 rfl rfl (haf ⟨3,.data⟩ (by simp) rfl)
           obtain ⟨_,e38,rfl⟩:=h.new 4 _ 38 rfl rfl (haf ⟨4,.data⟩ (by simp) rfl)
           obtain ⟨k,hq,hp⟩:=fx.q
           have hn:l.getD 5 false=false:=getD_ofX hl
           obtain rfl:k=0:=hq.at_ (j:=0) (by exact (by decide:(0:Nat)<2)) hn (.inl rfl)
           refine wp_enter (f:=126) (args:=#[vP lb 0,vS ⟨#[46,108,97,115,116]⟩,.agg (eA x0_m x1_m x2_m y3_m y4_m y5_m x6_m x7_m x8_m y9_m b10_m l10_m c10_m),.agg (eA x0_l x1_l x2_l y3_l y4_l y5_l x6_l x7_l x8_l y9_l b10_l l10_l c10_l)]) (w':=W) ?_ ((let_X HLS.out hp (by omega) ⟨#[46,108,97,115,116]⟩ (by decide) fx.lt3 (fx.old HV_W4.out) (fx.old HL_W4.out)).mono ?_)
           · unfold execOp
             simp [e36,e37,e38,go_sem]
           · rintro e W' ⟨v_,rfl,hv_,hs_,hk_,hz_⟩
             exact ⟨_,rfl,_,rfl,trivial,fun _ _ h=>h,fx.call 0 (i:=5) (s:=39) rfl rfl hsn hq hs_ hk_ hz_ (by rw [hts];exact (by decide:(39:Nat)<41)) (fun _=>fx.joined (VX.kept _) hz_ hv_)⟩
         · obtain ⟨_,e34,rfl⟩:=h.new 0 _ 34 rfl rfl (haf ⟨0,.data⟩ (by simp) rfl)
           obtain ⟨_,e35,rfl⟩:=h.new 1 _ 35 rfl rfl (haf ⟨1,.data⟩ (by simp) rfl)
           obtain ⟨u39,e39,y39⟩:=fx.x 5 (by exact (by decide:(5:Nat)<8)) rfl (haf ⟨5,.chain⟩ (by simp) rfl)
           have e39':a.tmps[39]?=some u39:=e39
           obtain ⟨l39,rfl,z39⟩:=y39
           obtain ⟨x0_39,x1_39,x2_39,x6_39,x7_39,x8_39,y3_39,y4_39,y5_39,y9_39,b10_39,l10_39,c10_39,rfl⟩:=z39.form
           have f39:a.tmps[39]?=some (.agg (eA x0_39 x1_39 x2_39 y3_39 y4_39 y5_39 x6_39 x7_39 x8_39 y9_39 b10_39 l10_39 c10_39)):=e39
           obtain ⟨k,hq,hp⟩:=fx.q
           have hn:l.getD 6 false=false:=getD_ofX hl
           obtain rfl:k=1:=hq.at_ (j:=1) (by exact (by decide:(1:Nat)<2)) hn (.inr (haf ⟨5,.chain⟩ (by simp) rfl))
           refine wp_enter (f:=126) (args:=#[vP lb 0,vS ⟨#[46,97,108,108]⟩,.agg (eA x0_1 x1_1 x2_1 y3_1 y4_1 y5_1 x6_1 x7_1 x8_1 y9_1 b10_1 l10_1 c10_1),.agg (eA x0_39 x1_39 x2_39 y3_39 y4_39 y5_39 x6_39 x7_39 x8_39 y9_39 b10_39 l10_39 c10_39)]) (w':=W) ?_ ((let_X HLS.out hp (by omega) ⟨#[46,97,108,108]⟩ (by decide) fx.lt3 (fx.old HX1_W4.out) z39).mono ?_)
           · unfold execOp
             simp [e34,e35,f39,go_sem]
           · rintro e W' ⟨v_,rfl,hv_,hs_,hk_,hz_⟩
             exact ⟨_,rfl,_,rfl,trivial,fun _ _ h=>h,fx.call 1 (i:=6) (s:=40) rfl rfl hsn hq hs_ hk_ hz_ (by rw [hts];exact (by decide:(40:Nat)<41)) (fun _=>fx.joined (VX.kept _) hz_ hv_)⟩
         · have e6:=h.given 6 _ rfl (by kernel_rfl)
           obtain ⟨u40,e40,y40⟩:=fx.x 6 (by exact (by decide:(6:Nat)<8)) rfl (haf ⟨6,.phase⟩ (by simp) rfl)
           have e40':a.tmps[40]?=some u40:=e40
           obtain ⟨l40,rfl,z40⟩:=y40
           obtain ⟨x0_40,x1_40,x2_40,x6_40,x7_40,x8_40,y3_40,y4_40,y5_40,y9_40,b10_40,l10_40,c10_40,rfl⟩:=z40.form
           have f40:a.tmps[40]?=some (.agg (eA x0_40 x1_40 x2_40 y3_40 y4_40 y5_40 x6_40 x7_40 x8_40 y9_40 b10_40 l10_40 c10_40)):=e40
           have hn:l.getD 7 false=false:=getD_ofX hl
           have ha:l.getD 1000 true=true:=by rw [Array.getD_eq_getD_getElem?,Array.getElem?_eq_none (by omega)];rfl
           have ht0:t=(U.heap.size + 2):=fx.t0 (by exact (by decide:(8:Nat)<=1000))
           subst ht0
           have c_:=fx.bz ha hn
           obtain ⟨z0,z1,z2,z3,z4,z5,z6,z7,z8,z9,z10,z11,z12⟩:=bk11 c_
           obtain ⟨W',hW'⟩:∃ V,V=(((((((((((W).setCell ⟨(U.heap.size + 2),0,none⟩ (vI x0_40)).setCell ⟨(U.heap.size + 2),1,none⟩ (vI x1_40)).setCell ⟨(U.heap.size + 2),2,none⟩ (vI x2_40)).setCell ⟨(U.heap.size + 2),3,none⟩ (vS y3_40)).setCell ⟨(U.heap.size + 2),4,none⟩ (vS y4_40)).setCell ⟨(U.heap.size + 2),5,none⟩ (vS y5_40)).setCell ⟨(U.heap.size + 2),6,none⟩ (vI x6_40)).setCell ⟨(U.heap.size + 2),7,none⟩ (vI x7_40)).setCell ⟨(U.heap.size + 2),8,none⟩ (vI x8_40)).setCell ⟨(U.heap.size + 2),9,none⟩ (vS y9_40)).setCell ⟨(U.heap.size + 2),10,none⟩ (.slice b10_40 l10_40 c10_40):=⟨_,rfl⟩
           have hPL:W'=putL W ((U.heap.size + 2)) 0 (eL x0_40 x1_40 x2_40 y3_40 y4_40 y5_40 x6_40 x7_40 x8_40 y9_40 b10_40 l10_40 c10_40):=hW'
           refine wp_skip (w':=W') ?_ ⟨undef,rfl,trivial,fun _ _ h=>h,by rw [hPL];exact fx.store rfl hsn ha hn rfl ⟨_,rfl,z40⟩⟩
           rw [hW']
           clear hPL hW'
           unfold execOp
           simp [e6,f40,z0,z1,z2,z3,z4,z5,z6,z7,z8,z9,z10,z11,go_sem]
       · intro v W5 hv hs hg
         obtain ⟨hXS,hzz,t',S5,_,_,ht0,hk5,hS5,hf,_,_⟩:=Gy.next rfl hg
         have ht0:t'=U.heap.size + 2:=ht0 (by exact (by decide:(8:Nat)<=1000))
         subst ht0
         obtain ⟨u',hu',l',el,hl'⟩:=hf (by exact (by decide:(7:Nat)<8))
         have el':u'=l':=by injection el with el;simpa using congrArg Array.toList el
         subst el'
         obtain ⟨x0_r,x1_r,x2_r,x6_r,x7_r,x8_r,y3_r,y4_r,y5_r,y9_r,b10_r,l10_r,c10_r,rfl⟩:=hl'.form
         have HU5:=hidC hu'
         have HV5:=hidC hl'
         have HX5:Hid (XS w lb tb ob sb N (p + 11) W5):=hXS
         have hzz5:W4.heap.size<=W5.heap.size:=hzz
         have HK5:Hid (∀ c,c<W4.heap.size->c≠lb->c≠sb->c≠U.heap.size + 2->W5.heap[c]?=W4.heap[c]?):=hk5
         have HS5:Hid (∀ b,S5 b->b<W5.heap.size/\b≠lb/\b≠sb/\b≠U.heap.size + 2/\b≠U.heap.size + 2/\(S4 b\/W4.heap.size<=b)):=hS5
         simp only [putAll,Act.put,List.setIfInBounds_toArray,List.set_cons_succ,List.set_cons_zero]
         generalize v 0=s5_0,v 1=s5_1,v 2=s5_2,v 3=s5_3,v 4=s5_4,v 5=s5_5,v 6=s5_6 at *
         clear hv hs hg hf hl' hXS hk5 hS5 hzz hu'
         obtain ⟨y0',y1',y2',y3',y4',y5',y6',y7',y8',y9',y10',_,_⟩:=bk11 HU5.out
         go_wp2
         refine bodyPost_ret (v:=.agg (eA x0_r x1_r x2_r y3_r y4_r y5_r x6_r x7_r x8_r y9_r b10_r l10_r c10_r)) (by simp [results,Tryz.results93,go_sem,y0',y1',y2',y3',y4',y5',y6',y7',y8',y9',y10']) rfl ⟨_,rfl,⟨_,rfl,Ex.W.keep (fun b q=>?_) (fun _ _=>rfl) HV5.out⟩,HX5.out,fun b q1 q2 q3=>?_,by omega⟩
         · have h5:=HS5.out b q
           rcases h5.2.2.2.2.2 with h | h
           · have h4:=hS4 b h
             rcases h4.2.2.2.2.2 with h | h
             · have h3:=HS_W3.out b h
               rcases h3.2.2.2.2.2 with h | h
               · have h2:=HS_W2.out b h
                 rcases h2.2.2.2.2.2 with h | h
                 · have h1:=HS_W1.out b h
                   rcases h1.2.2.2.2.2 with h | h
                   · exact .inl h
                   · exact .inr ⟨by omega,h5.1⟩
                 · exact .inr ⟨by omega,h5.1⟩
               · exact .inr ⟨by omega,h5.1⟩
             · exact .inr ⟨by omega,h5.1⟩
           · exact .inr ⟨by omega,h5.1⟩
         · exact (HK5.out b (by omega) q2 q3 (by omega)).trans ((HK_W4.out b (by omega) q2 q3).trans ((HK_W3.out b (by omega) q2 q3 (by omega)).trans ((HK_W2.out b (by omega) q2 q3 (by omega)).trans ((HK_W1.out b (by omega) q2 q3 (by omega)).trans (HO1.out b q1)))))
end Go.Proofs.YtmcmbdkpfcibkaaGreatDoor
