import Derived.Test.YtmcmbdkpfcibkaaGreatDoorLcB
set_option linter.unusedVariables false
set_option maxHeartbeats 6400000
namespace Go.Proofs.YtmcmbdkpfcibkaaGreatDoor
set_option maxRecDepth 100000
open Go.RowKit Go.WideShapes
theorem tooMany_is (lb:Nat) (m1 m2 m3:Value) (p:Nat) (e:Int) (T:TypeId) (w:World) (hl:w.heap[lb]?=some (.cells #[m1,m2,m3,vI (p:Int),vI e] T)) (hp:p<=700):Calls Tryz.prog 25 #[vP lb 0] w fun e w'=>e=.returned (.bool false)/\w'=w:=by
 obtain ⟨_,_,_,l3,l4,_,l6⟩:=bk5 hl
 have hq:¬ (700:Int)<(p:Int):=by omega
 clear hl
 go_enter Tryz.func25,Tryz.ntmps25
 go_wp2
 go_ret
 exact ⟨rfl,rfl⟩
theorem keeps_is (lb:Nat) (m1 m2 m3:Value) (p:Nat) (T:TypeId) (w:World) (hl:w.heap[lb]?=some (.cells #[m1,m2,m3,vI (p:Int),vI 0] T)) (hp:p<=700):Calls Tryz.prog 96 #[vP lb 0] w fun e w'=>e=.returned (.bool true)/\w'=w:=by
 have CT:Hid (Calls Tryz.prog 25 #[vP lb 0] w fun e w'=>e=.returned (.bool false)/\w'=w):=tooMany_is lb m1 m2 m3 p 0 T w hl hp
 obtain ⟨_,_,_,l3,l4,_,l6⟩:=bk5 hl
 clear hl
 go_enter Tryz.func96,Tryz.ntmps96
 go_wp2_with (go_at_call 25;refine CT.out.mono ?_;rintro e w1 ⟨rfl,hw1⟩;obtain rfl:=hw1.symm)
 go_ret
 exact ⟨rfl,rfl⟩
theorem clone_is (s:ByteArray) (w:World) (hs:s.size<=4000):Calls Tryz.prog 75 #[vS s] w fun e w'=>e=.returned (vS s)/\Below w.heap.size w w':=by
 have CC:Hid (Calls Tryz.prog 114 #[vS s] w fun e w'=>e=.returned (vS s)/\Below w.heap.size w w'):=Tryz.stringslite_Clone s w (by omega)
 go_enter Tryz.func75,Tryz.ntmps75
 go_wp2_with (first | (go_at_call 114;refine CC.out.mono ?_;rintro e w1 ⟨rfl,hb1⟩))
 all_goals (exact bodyPost_ret (v:=vS s) (by simp [results,Tryz.results75,go_sem]) rfl ⟨rfl,hb1⟩)
theorem made_is (lb:Nat) (m1 m2 m3:Value) (p:Nat) (k:Int) (it:It) (nm at':ByteArray) (n ax tk:Int) (tn:ByteArray) (oa:Option Addr) (om oc:Nat) (aa:Option Addr) (am ac:Nat) (w:World) (hl:w.heap[lb]?=some (.cells #[m1,m2,m3,vI (p:Int),vI 0] 73)) (hp:p + 1<=700)
 (h1:it.s.size<=4000) (h2:nm.size<=4000) (h3:at'.size<=4000) (h4:tn.size<=4000) :
 Calls Tryz.prog 101 #[vP lb 0,.agg (eA k it.kind it.n it.s nm at' n ax tk tn oa om oc),.slice aa am ac] w fun e w'=>e=.returned (.agg (eA k it.kind it.n it.s nm at' n ax tk tn aa am ac))/\w'.heap[lb]?=some (.cells #[m1,m2,m3,vI ((p + 1:Nat):Int),vI 0] 73)/\(∀ b,b<w.heap.size->b≠lb->w'.heap[b]?=w.heap[b]?)/\Below lb w w':=by
 have CS:Hid (∀ W s,s.size<=4000->Calls Tryz.prog 75 #[vS s] W fun e w'=>e=.returned (vS s)/\Below W.heap.size W w'):=fun W s hs=>clone_is s W hs
 have HL:=hidC hl
 obtain ⟨_,_,_,l3,l4,l5,l6⟩:=bk5 hl
 have hpi:IntKind.i64.wrap ((p:Int) + 1)=((p + 1:Nat):Int):=by rw [IntWalk.i64_in _ (by omega)];simp
 have CK:Hid (∀ W,W.heap[lb]?=some (.cells #[m1,m2,m3,vI ((p + 1:Nat):Int),vI 0] 73)->Calls Tryz.prog 96 #[vP lb 0] W fun e w'=>e=.returned (.bool true)/\w'=W):=fun W hW=>keeps_is lb m1 m2 m3 (p + 1) _ W hW hp
 generalize ((p + 1:Nat):Int)=q at *
 clear hl hp
 go_enter Tryz.func101,Tryz.ntmps101
 go_upto_region 2 with fail
 obtain ⟨W1,hW1⟩:∃ W,W=((w.setCell ⟨lb,3,none⟩ (vI q)).alloc (.cells (eA k it.kind it.n it.s nm at' n ax tk tn oa om oc) 29)).alloc (.cells zA 29):=⟨_,rfl⟩
 have HL1:Hid (W1.heap[lb]?=some (.cells #[m1,m2,m3,vI q,vI 0] 73)):=by rw [hW1];exact aOld (aOld (heap_set_same HL.out 3 _))
 have HX1:Hid (W1.heap[w.heap.size]?=some (.cells (eA k it.kind it.n it.s nm at' n ax tk tn oa om oc) 29)):=by rw [hW1];exact aOld (aNew (by simp))
 have HR1:Hid (W1.heap[w.heap.size + 1]?=some (.cells zA 29)):=by rw [hW1];exact aNew (by simp)
 have HO1:Hid (∀ b,b<w.heap.size->b≠lb->W1.heap[b]?=w.heap[b]?):=by
  rw [hW1]
  intro b hb hne
  obtain ⟨o,ho⟩:∃ o,w.heap[b]?=some o:=⟨_,Array.getElem?_eq_getElem hb⟩
  rw [ho]
  exact aOld (aOld (sOth ho hne))
 have HB1:Hid (Below lb w W1):=by rw [hW1];exact ((Below.setCell (Below.refl _ _) (Nat.le_refl lb) _).alloc (by simp;omega) _).alloc (by simp;omega) _
 have hz1:w.heap.size + 1<W1.heap.size:=(gI HR1.out).1
 rw [<- hW1]
 clear hW1 l3 l4 l5 hpi
 go_upto_region 4 with (go_at_call 96;refine (CK.out _ HL1.out).mono ?_;rintro e w2 ⟨rfl,hw2⟩;obtain rfl:=hw2.symm)
 refine wp_region_slots (by kernel_rfl) (fun j v W=>(match j with | 0=>v=(vP w.heap.size 4) | 1=>v=(vS nm) | 2=>v=(vS nm) | 3=>v=(vP w.heap.size 5) | 4=>v=(vS (at')) | 5=>v=(vS (at')) | 6=>v=(vP w.heap.size 4) | 8=>v=(vP w.heap.size 5) | _=>True)) (fun l a W=>Below w.heap.size W1 W/\W1.heap.size<=W.heap.size/\W.heap[w.heap.size]?=some (if l.getD 9 false=true then (.cells (eA k it.kind it.n it.s nm at' n ax tk tn oa om oc) 29) else (if l.getD 7 false=true then (.cells (eA k it.kind it.n it.s nm at' n ax tk tn oa om oc) 29) else (.cells (eA k it.kind it.n it.s nm at' n ax tk tn oa om oc) 29)))/\W.heap[w.heap.size + 1]?=some (.cells zA 29)) (by kernel_rfl) (by kernel_rfl) ⟨(Below.refl _ _).trans ⟨rfl,rfl,rfl,Nat.le_refl _,fun _ _=>rfl⟩,Nat.le_refl _,HX1.out,HR1.out⟩ ?_ ?_
 · intro l a W i o hsz h ho hl haf
   obtain ⟨g1,g0,b0,b1⟩:=h.more
   have gz:w.heap.size<=W.heap.size:=Nat.le_trans (by first | exact Nat.le_refl _ | omega) g0
   have hi:i<10:=(gI ho).1
   obtain rfl | rfl | rfl | rfl | rfl | rfl | rfl | rfl | rfl | rfl:i=0\/i=1\/i=2\/i=3\/i=4\/i=5\/i=6\/i=7\/i=8\/i=9:=by omega
   all_goals (obtain rfl:=Option.some.inj ho;rw [if_pos (want_none rfl)])
   · have e4:=h.given 4 _ rfl (by kernel_rfl)
     refine wp_val (v:=vP w.heap.size 4) (w':=W) ?_ ⟨_,rfl,rfl,fun _ _ h=>h,g1,g0,(by simp only [set_other_get (show 0≠7 by decide),set_other_get (show 0≠9 by decide)];exact b0),b1⟩
     unfold execOp
     simp [e4,go_sem]
   · obtain ⟨u18,e18,x18⟩:=h.new 0 _ 18 rfl rfl (haf ⟨0,.data⟩ (by simp) rfl)
     have y18:u18=(vP w.heap.size 4):=x18
     subst y18
     have m7:=h.later 7 1 _ ⟨1,.phase⟩ rfl (by simp) rfl rfl hl
     have m9:=h.later 9 1 _ ⟨1,.phase⟩ rfl (by simp) rfl rfl hl
     have c_:=b0
     rw [if_neg (show ¬ l.getD 9 false=true by rw [m9];decide)] at c_
     rw [if_neg (show ¬ l.getD 7 false=true by rw [m7];decide)] at c_
     obtain ⟨c0,c1,c2,c3,c4,c5,c6,c7,c8,c9,c10,cf,_⟩:=bk11 c_
     refine wp_val (v:=vS nm) (w':=W) ?_ ⟨_,rfl,rfl,fun _ _ h=>h,g1,g0,(by simp only [set_other_get (show 1≠7 by decide),set_other_get (show 1≠9 by decide)];exact b0),b1⟩
     unfold execOp
     simp [e18,c4,go_sem]
   · obtain ⟨u19,e19,x19⟩:=h.new 1 _ 19 rfl rfl (haf ⟨1,.data⟩ (by simp) rfl)
     have y19:u19=(vS nm):=x19
     subst y19
     refine wp_enter (f:=75) (args:=#[vS nm]) (w':=W) ?_ ((CS.out W nm h2).mono ?_)
     · unfold execOp
       simp [e19,go_sem]
     · rintro e W' ⟨rfl,hb⟩
       exact ⟨_,rfl,_,rfl,rfl,fun _ _ h=>h,g1.trans (hb.mono gz),Nat.le_trans g0 hb.size,(by simp only [set_other_get (show 2≠7 by decide),set_other_get (show 2≠9 by decide)];exact blC hb (gI (b0)).1 (b0)),blC hb (gI (b1)).1 (b1)⟩
   · have e4:=h.given 4 _ rfl (by kernel_rfl)
     refine wp_val (v:=vP w.heap.size 5) (w':=W) ?_ ⟨_,rfl,rfl,fun _ _ h=>h,g1,g0,(by simp only [set_other_get (show 3≠7 by decide),set_other_get (show 3≠9 by decide)];exact b0),b1⟩
     unfold execOp
     simp [e4,go_sem]
   · obtain ⟨u21,e21,x21⟩:=h.new 3 _ 21 rfl rfl (haf ⟨3,.data⟩ (by simp) rfl)
     have y21:u21=(vP w.heap.size 5):=x21
     subst y21
     have m7:=h.later 7 4 _ ⟨4,.phase⟩ rfl (by simp) rfl rfl hl
     have m9:=h.later 9 4 _ ⟨4,.phase⟩ rfl (by simp) rfl rfl hl
     have c_:=b0
     rw [if_neg (show ¬ l.getD 9 false=true by rw [m9];decide)] at c_
     rw [if_neg (show ¬ l.getD 7 false=true by rw [m7];decide)] at c_
     obtain ⟨c0,c1,c2,c3,c4,c5,c6,c7,c8,c9,c10,cf,_⟩:=bk11 c_
     refine wp_val (v:=vS (at')) (w':=W) ?_ ⟨_,rfl,rfl,fun _ _ h=>h,g1,g0,(by simp only [set_other_get (show 4≠7 by decide),set_other_get (show 4≠9 by decide)];exact b0),b1⟩
     unfold execOp
     simp [e21,c5,go_sem]
   · obtain ⟨u22,e22,x22⟩:=h.new 4 _ 22 rfl rfl (haf ⟨4,.data⟩ (by simp) rfl)
     have y22:u22=(vS (at')):=x22
     subst y22
     refine wp_enter (f:=75) (args:=#[vS (at')]) (w':=W) ?_ ((CS.out W at' h3).mono ?_)
     · unfold execOp
       simp [e22,go_sem]
     · rintro e W' ⟨rfl,hb⟩
       exact ⟨_,rfl,_,rfl,rfl,fun _ _ h=>h,g1.trans (hb.mono gz),Nat.le_trans g0 hb.size,(by simp only [set_other_get (show 5≠7 by decide),set_other_get (show 5≠9 by decide)];exact blC hb (gI (b0)).1 (b0)),blC hb (gI (b1)).1 (b1)⟩
   · have e4:=h.given 4 _ rfl (by kernel_rfl)
     refine wp_val (v:=vP w.heap.size 4) (w':=W) ?_ ⟨_,rfl,rfl,fun _ _ h=>h,g1,g0,(by simp only [set_other_get (show 6≠7 by decide),set_other_get (show 6≠9 by decide)];exact b0),b1⟩
     unfold execOp
     simp [e4,go_sem]
   · obtain ⟨u24,e24,x24⟩:=h.new 6 _ 24 rfl rfl (haf ⟨6,.data⟩ (by simp) rfl)
     have y24:u24=(vP w.heap.size 4):=x24
     subst y24
     obtain ⟨u20,e20,x20⟩:=h.new 2 _ 20 rfl rfl (haf ⟨2,.phase⟩ (by simp) rfl)
     have y20:u20=(vS nm):=x20
     subst y20
     have m9:=h.later 9 7 _ ⟨7,.phase⟩ rfl (by simp) rfl rfl hl
     have m7:l.getD 7 false=false:=by rw [Array.getD_eq_getD_getElem?] at hl ⊢;cases hx:l[7]? with | none=>rfl | some bb=>rw [hx] at hl;exact hl
     have c_:=b0
     rw [if_neg (show ¬ l.getD 9 false=true by rw [m9];decide)] at c_
     rw [if_neg (show ¬ l.getD 7 false=true by rw [m7];decide)] at c_
     obtain ⟨c0,c1,c2,c3,c4,c5,c6,c7,c8,c9,c10,cf,_⟩:=bk11 c_
     refine wp_skip (w':=(W).setCell ⟨w.heap.size,4,none⟩ (vS nm)) ?_ ⟨undef,rfl,trivial,fun _ _ h=>h,Below.setCell (g1) (by simp only [];omega) _,by simpa using g0,(by rw [if_neg (show ¬ (l.setIfInBounds 7 true).getD 9 false=true by rw [set_other_get (by decide),m9];decide),if_pos (set_this_get (i:=7) (n:=10) hsz (by decide))];exact heap_set_same (c_) 4 _),sOth (b1) (by omega)⟩
     unfold execOp
     simp [e24,e20,c4,cf,go_sem]
   · have e4:=h.given 4 _ rfl (by kernel_rfl)
     refine wp_val (v:=vP w.heap.size 5) (w':=W) ?_ ⟨_,rfl,rfl,fun _ _ h=>h,g1,g0,(by simp only [set_other_get (show 8≠7 by decide),set_other_get (show 8≠9 by decide)];exact b0),b1⟩
     unfold execOp
     simp [e4,go_sem]
   · obtain ⟨u25,e25,x25⟩:=h.new 8 _ 25 rfl rfl (haf ⟨8,.data⟩ (by simp) rfl)
     have y25:u25=(vP w.heap.size 5):=x25
     subst y25
     obtain ⟨u23,e23,x23⟩:=h.new 5 _ 23 rfl rfl (haf ⟨5,.phase⟩ (by simp) rfl)
     have y23:u23=(vS (at')):=x23
     subst y23
     have m7:=haf ⟨7,.phase⟩ (by simp) rfl
     have m9:l.getD 9 false=false:=by rw [Array.getD_eq_getD_getElem?] at hl ⊢;cases hx:l[9]? with | none=>rfl | some bb=>rw [hx] at hl;exact hl
     have c_:=b0
     rw [if_neg (show ¬ l.getD 9 false=true by rw [m9];decide)] at c_
     rw [if_pos m7] at c_
     obtain ⟨c0,c1,c2,c3,c4,c5,c6,c7,c8,c9,c10,cf,_⟩:=bk11 c_
     refine wp_skip (w':=(W).setCell ⟨w.heap.size,5,none⟩ (vS (at'))) ?_ ⟨undef,rfl,trivial,fun _ _ h=>h,Below.setCell (g1) (by simp only [];omega) _,by simpa using g0,(by rw [if_pos (set_this_get (i:=9) (n:=10) hsz (by decide))];exact heap_set_same (c_) 5 _),sOth (b1) (by omega)⟩
     unfold execOp
     simp [e25,e23,c5,cf,go_sem]
 · intro v W2 hv hs hg
   obtain ⟨g1,g0,b0,b1⟩:=hg
   have HR2:=hidC b1
   have HB2:=hidC g1
   have HX2:Hid (W2.heap[w.heap.size]?=some (.cells (eA k it.kind it.n it.s nm at' n ax tk tn oa om oc) 29)):=b0
   have hz2:w.heap.size + 1<W2.heap.size:=Nat.lt_of_lt_of_le hz1 g0
   simp only [putAll,Act.put,List.setIfInBounds_toArray,List.set_cons_succ,List.set_cons_zero]
   clear hv hs g1 b0 b1
   go_upto_region 5 with fail
   refine wp_region_slots (by kernel_rfl) (fun j v W=>(match j with | 0=>v=(vP w.heap.size 1) | 1=>v=(vP w.heap.size 3) | 2=>v=(vS it.s) | 3=>v=(vS it.s) | 4=>v=(vP w.heap.size 8) | 5=>v=(vP w.heap.size 9) | 6=>v=(vS tn) | 7=>v=(vS tn) | 8=>v=(vP w.heap.size 1) | 9=>v=(vP w.heap.size 3) | 11=>v=(vP w.heap.size 8) | 12=>v=(vP w.heap.size 9) | _=>True)) (fun l a W=>Below w.heap.size W2 W/\W2.heap.size<=W.heap.size/\W.heap[w.heap.size]?=some (if l.getD 13 false=true then (.cells (eA k it.kind it.n it.s nm at' n ax tk tn oa om oc) 29) else (if l.getD 10 false=true then (.cells (eA k it.kind it.n it.s nm at' n ax tk tn oa om oc) 29) else (.cells (eA k it.kind it.n it.s nm at' n ax tk tn oa om oc) 29)))/\W.heap[w.heap.size + 1]?=some (.cells zA 29)) (by kernel_rfl) (by kernel_rfl) ⟨(Below.refl _ _).trans ⟨rfl,rfl,rfl,Nat.le_refl _,fun _ _=>rfl⟩,Nat.le_refl _,HX2.out,HR2.out⟩ ?_ ?_
   · intro l a W i o hsz h ho hl haf
     obtain ⟨g1,g0,b0,b1⟩:=h.more
     have gz:w.heap.size<=W.heap.size:=Nat.le_trans (by first | exact Nat.le_refl _ | omega) g0
     have hi:i<14:=(gI ho).1
     obtain rfl | rfl | rfl | rfl | rfl | rfl | rfl | rfl | rfl | rfl | rfl | rfl | rfl | rfl:i=0\/i=1\/i=2\/i=3\/i=4\/i=5\/i=6\/i=7\/i=8\/i=9\/i=10\/i=11\/i=12\/i=13:=by omega
     all_goals (obtain rfl:=Option.some.inj ho;rw [if_pos (want_none rfl)])
     · have e4:=h.given 4 _ rfl (by kernel_rfl)
       refine wp_val (v:=vP w.heap.size 1) (w':=W) ?_ ⟨_,rfl,rfl,fun _ _ h=>h,g1,g0,(by simp only [set_other_get (show 0≠10 by decide),set_other_get (show 0≠13 by decide)];exact b0),b1⟩
       unfold execOp
       simp [e4,go_sem]
     · obtain ⟨u26,e26,x26⟩:=h.new 0 _ 26 rfl rfl (haf ⟨0,.data⟩ (by simp) rfl)
       have y26:u26=(vP w.heap.size 1):=x26
       subst y26
       refine wp_val (v:=vP w.heap.size 3) (w':=W) ?_ ⟨_,rfl,rfl,fun _ _ h=>h,g1,g0,(by simp only [set_other_get (show 1≠10 by decide),set_other_get (show 1≠13 by decide)];exact b0),b1⟩
       unfold execOp
       simp [e26,go_sem]
     · obtain ⟨u27,e27,x27⟩:=h.new 1 _ 27 rfl rfl (haf ⟨1,.data⟩ (by simp) rfl)
       have y27:u27=(vP w.heap.size 3):=x27
       subst y27
       have m10:=h.later 10 2 _ ⟨2,.phase⟩ rfl (by simp) rfl rfl hl
       have m13:=h.later 13 2 _ ⟨2,.phase⟩ rfl (by simp) rfl rfl hl
       have c_:=b0
       rw [if_neg (show ¬ l.getD 13 false=true by rw [m13];decide)] at c_
       rw [if_neg (show ¬ l.getD 10 false=true by rw [m10];decide)] at c_
       obtain ⟨c0,c1,c2,c3,c4,c5,c6,c7,c8,c9,c10,cf,_⟩:=bk11 c_
       refine wp_val (v:=vS it.s) (w':=W) ?_ ⟨_,rfl,rfl,fun _ _ h=>h,g1,g0,(by simp only [set_other_get (show 2≠10 by decide),set_other_get (show 2≠13 by decide)];exact b0),b1⟩
       unfold execOp
       simp [e27,c3,go_sem]
     · obtain ⟨u28,e28,x28⟩:=h.new 2 _ 28 rfl rfl (haf ⟨2,.data⟩ (by simp) rfl)
       have y28:u28=(vS it.s):=x28
       subst y28
       refine wp_enter (f:=75) (args:=#[vS it.s]) (w':=W) ?_ ((CS.out W it.s h1).mono ?_)
       · unfold execOp
         simp [e28,go_sem]
       · rintro e W' ⟨rfl,hb⟩
         exact ⟨_,rfl,_,rfl,rfl,fun _ _ h=>h,g1.trans (hb.mono gz),Nat.le_trans g0 hb.size,(by simp only [set_other_get (show 3≠10 by decide),set_other_get (show 3≠13 by decide)];exact blC hb (gI (b0)).1 (b0)),blC hb (gI (b1)).1 (b1)⟩
     · have e4:=h.given 4 _ rfl (by kernel_rfl)
       refine wp_val (v:=vP w.heap.size 8) (w':=W) ?_ ⟨_,rfl,rfl,fun _ _ h=>h,g1,g0,(by simp only [set_other_get (show 4≠10 by decide),set_other_get (show 4≠13 by decide)];exact b0),b1⟩
       unfold execOp
       simp [e4,go_sem]
     · obtain ⟨u30,e30,x30⟩:=h.new 4 _ 30 rfl rfl (haf ⟨4,.data⟩ (by simp) rfl)
       have y30:u30=(vP w.heap.size 8):=x30
       subst y30
       refine wp_val (v:=vP w.heap.size 9) (w':=W) ?_ ⟨_,rfl,rfl,fun _ _ h=>h,g1,g0,(by simp only [set_other_get (show 5≠10 by decide),set_other_get (show 5≠13 by decide)];exact b0),b1⟩
       unfold execOp
       simp [e30,go_sem]
     · obtain ⟨u31,e31,x31⟩:=h.new 5 _ 31 rfl rfl (haf ⟨5,.data⟩ (by simp) rfl)
       have y31:u31=(vP w.heap.size 9):=x31
       subst y31
       have m10:=h.later 10 6 _ ⟨6,.phase⟩ rfl (by simp) rfl rfl hl
       have m13:=h.later 13 6 _ ⟨6,.phase⟩ rfl (by simp) rfl rfl hl
       have c_:=b0
       rw [if_neg (show ¬ l.getD 13 false=true by rw [m13];decide)] at c_
       rw [if_neg (show ¬ l.getD 10 false=true by rw [m10];decide)] at c_
       obtain ⟨c0,c1,c2,c3,c4,c5,c6,c7,c8,c9,c10,cf,_⟩:=bk11 c_
       refine wp_val (v:=vS tn) (w':=W) ?_ ⟨_,rfl,rfl,fun _ _ h=>h,g1,g0,(by simp only [set_other_get (show 6≠10 by decide),set_other_get (show 6≠13 by decide)];exact b0),b1⟩
       unfold execOp
       simp [e31,c9,go_sem]
     · obtain ⟨u32,e32,x32⟩:=h.new 6 _ 32 rfl rfl (haf ⟨6,.data⟩ (by simp) rfl)
       have y32:u32=(vS tn):=x32
       subst y32
       refine wp_enter (f:=75) (args:=#[vS tn]) (w':=W) ?_ ((CS.out W tn h4).mono ?_)
       · unfold execOp
         simp [e32,go_sem]
       · rintro e W' ⟨rfl,hb⟩
         exact ⟨_,rfl,_,rfl,rfl,fun _ _ h=>h,g1.trans (hb.mono gz),Nat.le_trans g0 hb.size,(by simp only [set_other_get (show 7≠10 by decide),set_other_get (show 7≠13 by decide)];exact blC hb (gI (b0)).1 (b0)),blC hb (gI (b1)).1 (b1)⟩
     · have e4:=h.given 4 _ rfl (by kernel_rfl)
       refine wp_val (v:=vP w.heap.size 1) (w':=W) ?_ ⟨_,rfl,rfl,fun _ _ h=>h,g1,g0,(by simp only [set_other_get (show 8≠10 by decide),set_other_get (show 8≠13 by decide)];exact b0),b1⟩
       unfold execOp
       simp [e4,go_sem]
     · obtain ⟨u34,e34,x34⟩:=h.new 8 _ 34 rfl rfl (haf ⟨8,.data⟩ (by simp) rfl)
       have y34:u34=(vP w.heap.size 1):=x34
       subst y34
       refine wp_val (v:=vP w.heap.size 3) (w':=W) ?_ ⟨_,rfl,rfl,fun _ _ h=>h,g1,g0,(by simp only [set_other_get (show 9≠10 by decide),set_other_get (show 9≠13 by decide)];exact b0),b1⟩
       unfold execOp
       simp [e34,go_sem]
     · obtain ⟨u35,e35,x35⟩:=h.new 9 _ 35 rfl rfl (haf ⟨9,.data⟩ (by simp) rfl)
       have y35:u35=(vP w.heap.size 3):=x35
       subst y35
       obtain ⟨u29,e29,x29⟩:=h.new 3 _ 29 rfl rfl (haf ⟨3,.phase⟩ (by simp) rfl)
       have y29:u29=(vS it.s):=x29
       subst y29
       have m13:=h.later 13 10 _ ⟨10,.phase⟩ rfl (by simp) rfl rfl hl
       have m10:l.getD 10 false=false:=by rw [Array.getD_eq_getD_getElem?] at hl ⊢;cases hx:l[10]? with | none=>rfl | some bb=>rw [hx] at hl;exact hl
       have c_:=b0
       rw [if_neg (show ¬ l.getD 13 false=true by rw [m13];decide)] at c_
       rw [if_neg (show ¬ l.getD 10 false=true by rw [m10];decide)] at c_
       obtain ⟨c0,c1,c2,c3,c4,c5,c6,c7,c8,c9,c10,cf,_⟩:=bk11 c_
       refine wp_skip (w':=(W).setCell ⟨w.heap.size,3,none⟩ (vS it.s)) ?_ ⟨undef,rfl,trivial,fun _ _ h=>h,Below.setCell (g1) (by simp only [];omega) _,by simpa using g0,(by rw [if_neg (show ¬ (l.setIfInBounds 10 true).getD 13 false=true by rw [set_other_get (by decide),m13];decide),if_pos (set_this_get (i:=10) (n:=14) hsz (by decide))];exact heap_set_same (c_) 3 _),sOth (b1) (by omega)⟩
       unfold execOp
       simp [e35,e29,c3,cf,go_sem]
     · have e4:=h.given 4 _ rfl (by kernel_rfl)
       refine wp_val (v:=vP w.heap.size 8) (w':=W) ?_ ⟨_,rfl,rfl,fun _ _ h=>h,g1,g0,(by simp only [set_other_get (show 11≠10 by decide),set_other_get (show 11≠13 by decide)];exact b0),b1⟩
       unfold execOp
       simp [e4,go_sem]
     · obtain ⟨u36,e36,x36⟩:=h.new 11 _ 36 rfl rfl (haf ⟨11,.data⟩ (by simp) rfl)
       have y36:u36=(vP w.heap.size 8):=x36
       subst y36
       refine wp_val (v:=vP w.heap.size 9) (w':=W) ?_ ⟨_,rfl,rfl,fun _ _ h=>h,g1,g0,(by simp only [set_other_get (show 12≠10 by decide),set_other_get (show 12≠13 by decide)];exact b0),b1⟩
       unfold execOp
       simp [e36,go_sem]
     · obtain ⟨u37,e37,x37⟩:=h.new 12 _ 37 rfl rfl (haf ⟨12,.data⟩ (by simp) rfl)
       have y37:u37=(vP w.heap.size 9):=x37
       subst y37
       obtain ⟨u33,e33,x33⟩:=h.new 7 _ 33 rfl rfl (haf ⟨7,.phase⟩ (by simp) rfl)
       have y33:u33=(vS tn):=x33
       subst y33
       have m10:=haf ⟨10,.phase⟩ (by simp) rfl
       have m13:l.getD 13 false=false:=by rw [Array.getD_eq_getD_getElem?] at hl ⊢;cases hx:l[13]? with | none=>rfl | some bb=>rw [hx] at hl;exact hl
       have c_:=b0
       rw [if_neg (show ¬ l.getD 13 false=true by rw [m13];decide)] at c_
       rw [if_pos m10] at c_
       obtain ⟨c0,c1,c2,c3,c4,c5,c6,c7,c8,c9,c10,cf,_⟩:=bk11 c_
       refine wp_skip (w':=(W).setCell ⟨w.heap.size,9,none⟩ (vS tn)) ?_ ⟨undef,rfl,trivial,fun _ _ h=>h,Below.setCell (g1) (by simp only [];omega) _,by simpa using g0,(by rw [if_pos (set_this_get (i:=13) (n:=14) hsz (by decide))];exact heap_set_same (c_) 9 _),sOth (b1) (by omega)⟩
       unfold execOp
       simp [e37,e33,c9,cf,go_sem]
   · intro v5 W3 hv hs hg
     obtain ⟨g1,g0',b0,b1⟩:=hg
     have HB3:Hid (Below w.heap.size W1 W3):=HB2.out.trans g1
     have HX3:Hid (W3.heap[w.heap.size]?=some (.cells (eA k it.kind it.n it.s nm at' n ax tk tn oa om oc) 29)):=b0
     have HL3:Hid (W3.heap[lb]?=some (.cells #[m1,m2,m3,vI q,vI 0] 73)):=blC HB3.out l6 HL1.out
     have HO3:Hid (∀ b,b<w.heap.size->b≠lb->W3.heap[b]?=w.heap[b]?):=fun b hb hne=>(HB3.out.block b hb).trans (HO1.out b hb hne)
     have HB4:Hid (Below lb w W3):=HB1.out.trans (HB3.out.mono (by omega))
     obtain ⟨c0,c1,c2,c3,c4,c5,c6,c7,c8,c9,c10,cf,cz⟩:=bk11 HX3.out
     obtain ⟨z0,z1,z2,z3,z4,z5,z6,z7,z8,z9,z10,zf,zz⟩:=bk11 b1
     have HR3:=hidC b1
     simp only [putAll]
     clear hv hs g1 b0 b1 g0 g0' HB3 HX2 HR2 HB2 HL1 HX1 HR1 HO1 HB1 CS CK
     go_wp2_with fail
     generalize hW4:World.setCell _ _ _=W4
     have hW5:W4=putL (W3.setCell ⟨w.heap.size,10,none⟩ (.slice aa am ac)) (w.heap.size + 1) 0 (eL k it.kind it.n it.s nm at' n ax tk tn aa am ac):=hW4.symm
     have HR4:Hid (W4.heap[w.heap.size + 1]?=some (.cells (eA k it.kind it.n it.s nm at' n ax tk tn aa am ac) 29)):=by rw [hW5];exact putL_same (sOth HR3.out (by omega)) _ rfl
     have HL4:Hid (W4.heap[lb]?=some (.cells #[m1,m2,m3,vI q,vI 0] 73)):=by rw [hW5];exact (putL_other (by omega) _ _ _).trans (sOth HL3.out (by omega))
     have HO4:Hid (∀ b,b<w.heap.size->b≠lb->W4.heap[b]?=w.heap[b]?):=by rw [hW5];exact fun b hb hne=>(putL_other (by omega) _ _ _).trans ((Below.heap_setCell _ _ _ _ (show b≠w.heap.size by omega)).trans (HO3.out b hb hne))
     have HB5:Hid (Below lb w W4):=by rw [hW5];exact putL_below (B:=lb) (by omega) _ _ _ (Below.setCell HB4.out (show lb<=w.heap.size by omega) _)
     clear hW4 hW5
     obtain ⟨y0,y1,y2,y3,y4,y5,y6,y7,y8,y9,y10,_,_⟩:=bk11 HR4.out
     exact bodyPost_ret (v:=.agg (eA k it.kind it.n it.s nm at' n ax tk tn aa am ac)) (by simp [results,Tryz.results101,go_sem,y0,y1,y2,y3,y4,y5,y6,y7,y8,y9,y10]) rfl ⟨rfl,HL4.out,HO4.out,HB5.out⟩
end Go.Proofs.YtmcmbdkpfcibkaaGreatDoor
