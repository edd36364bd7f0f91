import Derived.Test.YtmcmbdkpfcibkaaGreatDoorLcD
set_option linter.unusedVariables false
set_option maxHeartbeats 6400000
namespace Go.Proofs.YtmcmbdkpfcibkaaGreatDoor
set_option maxRecDepth 100000
open Go.RowKit Go.WideShapes
def KpN (lb:Nat) (m1 m2 m3:Value) (q:Nat) (w w':World):Prop :=
 w'.heap[lb]?=some (.cells #[m1,m2,m3,vI (q:Int),vI 6] 73)/\(∀ b,b<w.heap.size->b≠lb->w'.heap[b]?=w.heap[b]?)/\Below lb w w'
theorem keeps_no (lb:Nat) (m1 m2 m3:Value) (q:Int) (T:TypeId) (w:World) (hl:w.heap[lb]?=some (.cells #[m1,m2,m3,vI q,vI 6] T)):Calls Tryz.prog 96 #[vP lb 0] w fun e w'=>e=.returned (.bool false)/\w'=w:=by
 obtain ⟨_,_,_,l3,l4,_,l6⟩:=bk5 hl
 clear hl
 go_enter Tryz.func96,Tryz.ntmps96
 go_wp2
 go_ret
 exact ⟨rfl,rfl⟩
theorem made_no (lb:Nat) (m1 m2 m3:Value) (p:Nat) (k:Int) (it:It) (nm at':ByteArray) (n ax tk:Int) (tn:ByteArray) (oa:Option Addr) (om oc:Nat) (aa:Option Addr) (am ac:Nat) (w:World) (hl:w.heap[lb]?=some (.cells #[m1,m2,m3,vI (p:Int),vI 6] 73)) (hp:p + 1<=700)
 (h1:it.s.size<=4000) (h2:nm.size<=4000) (h3:at'.size<=4000) (h4:tn.size<=4000) :
 Calls Tryz.prog 101 #[vP lb 0,.agg (eA k it.kind it.n it.s nm at' n ax tk tn oa om oc),.slice aa am ac] w fun e w'=>e=.returned (.agg zA)/\w'.heap[lb]?=some (.cells #[m1,m2,m3,vI ((p + 1:Nat):Int),vI 6] 73)/\(∀ b,b<w.heap.size->b≠lb->w'.heap[b]?=w.heap[b]?)/\Below lb w w':=by
 have HL:=hidC hl
 obtain ⟨_,_,_,l3,l4,l5,l6⟩:=bk5 hl
 have hpi:IntKind.i64.wrap ((p:Int) + 1)=((p + 1:Nat):Int):=by rw [IntWalk.i64_in _ (by omega)];simp
 have CK:Hid (∀ W q,W.heap[lb]?=some (.cells #[m1,m2,m3,vI q,vI 6] 73)->Calls Tryz.prog 96 #[vP lb 0] W fun e w'=>e=.returned (.bool false)/\w'=W):=fun W q hW=>keeps_no lb m1 m2 m3 q _ W hW
 generalize ((p + 1:Nat):Int)=q at *
 clear hl hp
 go_enter Tryz.func101,Tryz.ntmps101
 go_upto_region 2 with fail
 obtain ⟨W1,hW1⟩:∃ W,W=((w.setCell ⟨lb,3,none⟩ (vI q)).alloc (.cells (eA k it.kind it.n it.s nm at' n ax tk tn oa om oc) 29)).alloc (.cells zA 29):=⟨_,rfl⟩
 have HL1:Hid (W1.heap[lb]?=some (.cells #[m1,m2,m3,vI q,vI 6] 73)):=by rw [hW1];exact aOld (aOld (heap_set_same HL.out 3 _))
 have HR1:Hid (W1.heap[w.heap.size + 1]?=some (.cells zA 29)):=by rw [hW1];exact aNew (by simp)
 have HO1:Hid (∀ b,b<w.heap.size->b≠lb->W1.heap[b]?=w.heap[b]?):=by
  rw [hW1]
  intro b hb hne
  obtain ⟨o,ho⟩:∃ o,w.heap[b]?=some o:=⟨_,Array.getElem?_eq_getElem hb⟩
  rw [ho]
  exact aOld (aOld (sOth ho hne))
 have HB1:Hid (Below lb w W1):=by rw [hW1];exact ((Below.setCell (Below.refl _ _) (Nat.le_refl lb) _).alloc (by simp;omega) _).alloc (by simp;omega) _
 have hz1:w.heap.size + 1<W1.heap.size:=(gI HR1.out).1
 rw [<- hW1]
 clear hW1 l3 l4 l5 hpi
 obtain ⟨z0,z1,z2,z3,z4,z5,z6,z7,z8,z9,z10,z11,z12⟩:=bk11 HR1.out
 go_wp2_with (go_at_call 96;refine (CK.out _ _ HL1.out).mono ?_;rintro e w2 ⟨rfl,hw2⟩;obtain rfl:=hw2.symm)
 generalize hW2:World.setCell _ _ _=W2
 have hW3:W2=putL W1 (w.heap.size + 1) 0 zL:=hW2.symm
 have HZ2:Hid (W2.heap[w.heap.size + 1]?=some (.cells zA 29)):=by rw [hW3];exact putL_same HR1.out _ rfl
 have HL2:Hid (W2.heap[lb]?=some (.cells #[m1,m2,m3,vI q,vI 6] 73)):=by rw [hW3];exact (putL_other (by omega) _ _ _).trans HL1.out
 have HO2:Hid (∀ c,c<w.heap.size->c≠lb->W2.heap[c]?=w.heap[c]?):=by rw [hW3];exact fun c h1 h2=>(putL_other (by omega) _ _ _).trans (HO1.out c h1 h2)
 have HB2:Hid (Below lb w W2):=by rw [hW3];exact putL_below (B:=lb) (by omega) _ _ _ HB1.out
 clear hW2 hW3
 obtain ⟨y0,y1,y2,y3,y4,y5,y6,y7,y8,y9,y10,_,_⟩:=bk11 HZ2.out
 exact bodyPost_ret (v:=.agg zA) (by simp [results,Tryz.results101,go_sem,y0,y1,y2,y3,y4,y5,y6,y7,y8,y9,y10]) rfl ⟨rfl,HL2.out,HO2.out,HB2.out⟩
theorem lit_no (lb:Nat) (m1 m2 m3:Value) (p:Nat) (it:It) (w:World) (hl:w.heap[lb]?=some (.cells #[m1,m2,m3,vI (p:Int),vI 6] 73)) (hp:p + 1<=700) (h1:it.s.size<=4000) :
 Calls Tryz.prog 105 #[vP lb 0,.agg #[vI it.kind,vI it.n,vS it.s]] w fun e w'=>e=.returned (.agg zA)/\KpN lb m1 m2 m3 (p + 1) w w':=by
 have HL:=hidC hl
 obtain ⟨_,_,_,_,_,_,l6⟩:=bk5 hl
 have CM:Hid (∀ W,W.heap[lb]?=some (.cells #[m1,m2,m3,vI (p:Int),vI 6] 73)->Calls Tryz.prog 101 _ W _):=fun W hW=>made_no lb m1 m2 m3 p 1 it ⟨#[]⟩ ⟨#[]⟩ 0 0 0 ⟨#[]⟩ none 0 0 none 0 0 W hW hp h1 (Nat.zero_le _) (Nat.zero_le _) (Nat.zero_le _)
 clear hl hp
 unfold KpN
 generalize ((p + 1:Nat):Int)=q at *
 go_enter Tryz.func105,Tryz.ntmps105
 go_wp2_with (go_at_call 101;refine (CM.out _ ?_).mono ?_;(· exact aOld (aOld (HL.out)));rintro e w1 ⟨rfl,hl1,ho1,hb1⟩;have HL1:=hidC hl1;have HZ1:=hidC ((ho1 (w.heap.size + 1) (by simp) (by omega)).trans (aNew (by simp)));have HO1:Hid (∀ b,b<w.heap.size->b≠lb->w1.heap[b]?=w.heap[b]?):=(fun b hb hne=>(by obtain ⟨o,ho⟩:∃ o,w.heap[b]?=some o:=⟨_,Array.getElem?_eq_getElem hb⟩;rw [ho];exact (ho1 b (by simp;omega) hne).trans (aOld (aOld (ho)))));have HB1:Hid (Below lb w w1):=Below.trans (Below.alloc (Below.alloc (Below.refl lb w) (Nat.le_of_lt l6) _) (by simp;omega) _) hb1;obtain ⟨z0,z1,z2,z3,z4,z5,z6,z7,z8,z9,z10,z11,z12⟩:=bk11 HZ1.out;clear hl1 ho1 hb1)
 generalize hW2:World.setCell _ _ _=W2
 have hW3:W2=putL w1 (w.heap.size + 1) 0 zL:=hW2.symm
 have HZ2:Hid (W2.heap[w.heap.size + 1]?=some (.cells zA 29)):=by rw [hW3];exact putL_same HZ1.out _ rfl
 have HL2:Hid (W2.heap[lb]?=some (.cells #[m1,m2,m3,vI q,vI 6] 73)):=by rw [hW3];exact (putL_other (by omega) _ _ _).trans HL1.out
 have HO2:Hid (∀ c,c<w.heap.size->c≠lb->W2.heap[c]?=w.heap[c]?):=by rw [hW3];exact fun c h1 h2=>(putL_other (by omega) _ _ _).trans (HO1.out c h1 h2)
 have HB2:Hid (Below lb w W2):=by rw [hW3];exact putL_below (B:=lb) (by omega) _ _ _ HB1.out
 clear hW2 hW3
 obtain ⟨y0,y1,y2,y3,y4,y5,y6,y7,y8,y9,y10,_,_⟩:=bk11 HZ2.out
 exact bodyPost_ret (v:=.agg zA) (by simp [results,Tryz.results105,go_sem,y0,y1,y2,y3,y4,y5,y6,y7,y8,y9,y10]) rfl ⟨rfl,⟨HL2.out,HO2.out,HB2.out⟩⟩
theorem nothing_no (lb:Nat) (m1 m2 m3:Value) (p:Nat)  (w:World) (hl:w.heap[lb]?=some (.cells #[m1,m2,m3,vI (p:Int),vI 6] 73)) (hp:p + 1<=700)  :
 Calls Tryz.prog 125 #[vP lb 0] w fun e w'=>e=.returned (.agg zA)/\KpN lb m1 m2 m3 (p + 1) w w':=by
 have HL:=hidC hl
 obtain ⟨_,_,_,_,_,_,l6⟩:=bk5 hl
 have CM:Hid (∀ W,W.heap[lb]?=some (.cells #[m1,m2,m3,vI (p:Int),vI 6] 73)->Calls Tryz.prog 101 _ W _):=fun W hW=>made_no lb m1 m2 m3 p 3 ⟨0,0,⟨#[]⟩⟩ ⟨#[]⟩ ⟨#[]⟩ 0 0 0 ⟨#[]⟩ none 0 0 none 0 0 W hW hp (Nat.zero_le _) (Nat.zero_le _) (Nat.zero_le _) (Nat.zero_le _)
 clear hl hp
 unfold KpN
 generalize ((p + 1:Nat):Int)=q at *
 go_enter Tryz.func125,Tryz.ntmps125
 go_wp2_with (go_at_call 101;refine (CM.out _ ?_).mono ?_;(· exact aOld (HL.out));rintro e w1 ⟨rfl,hl1,ho1,hb1⟩;have HL1:=hidC hl1;have HZ1:=hidC ((ho1 (w.heap.size) (by simp) (by omega)).trans (aNew rfl));have HO1:Hid (∀ b,b<w.heap.size->b≠lb->w1.heap[b]?=w.heap[b]?):=(fun b hb hne=>(by obtain ⟨o,ho⟩:∃ o,w.heap[b]?=some o:=⟨_,Array.getElem?_eq_getElem hb⟩;rw [ho];exact (ho1 b (by simp;omega) hne).trans (aOld (ho))));have HB1:Hid (Below lb w w1):=Below.trans (Below.alloc (Below.refl lb w) (Nat.le_of_lt l6) _) hb1;obtain ⟨z0,z1,z2,z3,z4,z5,z6,z7,z8,z9,z10,z11,z12⟩:=bk11 HZ1.out;clear hl1 ho1 hb1)
 generalize hW2:World.setCell _ _ _=W2
 have hW3:W2=putL w1 (w.heap.size) 0 zL:=hW2.symm
 have HZ2:Hid (W2.heap[w.heap.size]?=some (.cells zA 29)):=by rw [hW3];exact putL_same HZ1.out _ rfl
 have HL2:Hid (W2.heap[lb]?=some (.cells #[m1,m2,m3,vI q,vI 6] 73)):=by rw [hW3];exact (putL_other (by omega) _ _ _).trans HL1.out
 have HO2:Hid (∀ c,c<w.heap.size->c≠lb->W2.heap[c]?=w.heap[c]?):=by rw [hW3];exact fun c h1 h2=>(putL_other (by omega) _ _ _).trans (HO1.out c h1 h2)
 have HB2:Hid (Below lb w W2):=by rw [hW3];exact putL_below (B:=lb) (by omega) _ _ _ HB1.out
 clear hW2 hW3
 obtain ⟨y0,y1,y2,y3,y4,y5,y6,y7,y8,y9,y10,_,_⟩:=bk11 HZ2.out
 exact bodyPost_ret (v:=.agg zA) (by simp [results,Tryz.results125,go_sem,y0,y1,y2,y3,y4,y5,y6,y7,y8,y9,y10]) rfl ⟨rfl,⟨HL2.out,HO2.out,HB2.out⟩⟩
theorem call_no (lb:Nat) (m1 m2 m3:Value) (p:Nat) (nm:ByteArray) (aa:Option Addr) (am ac:Nat) (w:World) (hl:w.heap[lb]?=some (.cells #[m1,m2,m3,vI (p:Int),vI 6] 73)) (hp:p + 1<=700) (h1:nm.size<=4000) :
 Calls Tryz.prog 91 #[vP lb 0,vS nm,.slice aa am ac] w fun e w'=>e=.returned (.agg zA)/\KpN lb m1 m2 m3 (p + 1) w w':=by
 have HL:=hidC hl
 obtain ⟨_,_,_,_,_,_,l6⟩:=bk5 hl
 have CM:Hid (∀ W,W.heap[lb]?=some (.cells #[m1,m2,m3,vI (p:Int),vI 6] 73)->Calls Tryz.prog 101 _ W _):=fun W hW=>made_no lb m1 m2 m3 p 8 ⟨0,0,⟨#[]⟩⟩ nm ⟨#[]⟩ 0 0 0 ⟨#[]⟩ none 0 0 aa am ac W hW hp (Nat.zero_le _) h1 (Nat.zero_le _) (Nat.zero_le _)
 clear hl hp
 unfold KpN
 generalize ((p + 1:Nat):Int)=q at *
 go_enter Tryz.func91,Tryz.ntmps91
 go_wp2_with (go_at_call 101;refine (CM.out _ ?_).mono ?_;(· exact aOld (HL.out));rintro e w1 ⟨rfl,hl1,ho1,hb1⟩;have HL1:=hidC hl1;have HZ1:=hidC ((ho1 (w.heap.size) (by simp) (by omega)).trans (aNew rfl));have HO1:Hid (∀ b,b<w.heap.size->b≠lb->w1.heap[b]?=w.heap[b]?):=(fun b hb hne=>(by obtain ⟨o,ho⟩:∃ o,w.heap[b]?=some o:=⟨_,Array.getElem?_eq_getElem hb⟩;rw [ho];exact (ho1 b (by simp;omega) hne).trans (aOld (ho))));have HB1:Hid (Below lb w w1):=Below.trans (Below.alloc (Below.refl lb w) (Nat.le_of_lt l6) _) hb1;obtain ⟨z0,z1,z2,z3,z4,z5,z6,z7,z8,z9,z10,z11,z12⟩:=bk11 HZ1.out;clear hl1 ho1 hb1)
 generalize hW2:World.setCell _ _ _=W2
 have hW3:W2=putL w1 (w.heap.size) 0 zL:=hW2.symm
 have HZ2:Hid (W2.heap[w.heap.size]?=some (.cells zA 29)):=by rw [hW3];exact putL_same HZ1.out _ rfl
 have HL2:Hid (W2.heap[lb]?=some (.cells #[m1,m2,m3,vI q,vI 6] 73)):=by rw [hW3];exact (putL_other (by omega) _ _ _).trans HL1.out
 have HO2:Hid (∀ c,c<w.heap.size->c≠lb->W2.heap[c]?=w.heap[c]?):=by rw [hW3];exact fun c h1 h2=>(putL_other (by omega) _ _ _).trans (HO1.out c h1 h2)
 have HB2:Hid (Below lb w W2):=by rw [hW3];exact putL_below (B:=lb) (by omega) _ _ _ HB1.out
 clear hW2 hW3
 obtain ⟨y0,y1,y2,y3,y4,y5,y6,y7,y8,y9,y10,_,_⟩:=bk11 HZ2.out
 exact bodyPost_ret (v:=.agg zA) (by simp [results,Tryz.results91,go_sem,y0,y1,y2,y3,y4,y5,y6,y7,y8,y9,y10]) rfl ⟨rfl,⟨HL2.out,HO2.out,HB2.out⟩⟩
theorem loop_no (lb:Nat) (m1 m2 m3:Value) (p:Nat) (nm at':ByteArray) (k1:Int) (i1:It) (nm1 at1:ByteArray) (n1 ax1 tk1:Int) (tn1:ByteArray) (aa1:Option Addr) (am1 ac1:Nat) (k2:Int) (i2:It) (nm2 at2:ByteArray) (n2 ax2 tk2:Int) (tn2:ByteArray) (aa2:Option Addr) (am2 ac2:Nat) (w:World) (hl:w.heap[lb]?=some (.cells #[m1,m2,m3,vI (p:Int),vI 6] 73)) (hp:p + 1<=700) (h1:nm.size<=4000) (h2:at'.size<=4000) :
 Calls Tryz.prog 92 #[vP lb 0,vS nm,vS at',.agg (eA k1 i1.kind i1.n i1.s nm1 at1 n1 ax1 tk1 tn1 aa1 am1 ac1),.agg (eA k2 i2.kind i2.n i2.s nm2 at2 n2 ax2 tk2 tn2 aa2 am2 ac2)] w fun e w'=>e=.returned (.agg zA)/\KpN lb m1 m2 m3 (p + 1) w w'/\w'.heap[w.heap.size + 3]?=some (.cells #[vI k1,vI i1.kind,vI i1.n,vS i1.s,vS nm1,vS at1,vI n1,vI ax1,vI tk1,vS tn1,.slice aa1 am1 ac1,vI k2,vI i2.kind,vI i2.n,vS i2.s,vS nm2,vS at2,vI n2,vI ax2,vI tk2,vS tn2,.slice aa2 am2 ac2] 29):=by
 have HL:=hidC hl
 obtain ⟨_,_,_,_,_,_,l6⟩:=bk5 hl
 have CM:Hid (∀ W,W.heap[lb]?=some (.cells #[m1,m2,m3,vI (p:Int),vI 6] 73)->Calls Tryz.prog 101 _ W _):=fun W hW=>made_no lb m1 m2 m3 p 5 ⟨0,0,⟨#[]⟩⟩ nm at' 0 0 0 ⟨#[]⟩ none 0 0 (some ⟨w.heap.size + 3,0,none⟩) 2 2 W hW hp (Nat.zero_le _) h1 h2 (Nat.zero_le _)
 clear hl hp
 unfold KpN
 generalize ((p + 1:Nat):Int)=q at *
 go_enter Tryz.func92,Tryz.ntmps92
 go_wp2_with (go_at_call 101;refine (CM.out _ ?_).mono ?_;(· exact aOld (aOld (aOld (aOld (HL.out)))));rintro e w1 ⟨rfl,hl1,ho1,hb1⟩;have HL1:=hidC hl1;have HZ1:=hidC ((ho1 (w.heap.size + 2) (by simp) (by omega)).trans (aOld (aNew (by simp))));have HS1:=hidC ((ho1 (w.heap.size + 3) (by simp) (by omega)).trans (aNew (by simp)));have HO1:Hid (∀ b,b<w.heap.size->b≠lb->w1.heap[b]?=w.heap[b]?):=(fun b hb hne=>(by obtain ⟨o,ho⟩:∃ o,w.heap[b]?=some o:=⟨_,Array.getElem?_eq_getElem hb⟩;rw [ho];exact (ho1 b (by simp;omega) hne).trans (aOld (aOld (aOld (aOld (ho)))))));have HB1:Hid (Below lb w w1):=Below.trans (Below.alloc (Below.alloc (Below.alloc (Below.alloc (Below.refl lb w) (Nat.le_of_lt l6) _) (by simp;omega) _) (by simp;omega) _) (by simp;omega) _) hb1;obtain ⟨z0,z1,z2,z3,z4,z5,z6,z7,z8,z9,z10,z11,z12⟩:=bk11 HZ1.out;clear hl1 ho1 hb1)
 generalize hW2:World.setCell _ _ _=W2
 have hW3:W2=putL w1 (w.heap.size + 2) 0 zL:=hW2.symm
 have HZ2:Hid (W2.heap[w.heap.size + 2]?=some (.cells zA 29)):=by rw [hW3];exact putL_same HZ1.out _ rfl
 have HL2:Hid (W2.heap[lb]?=some (.cells #[m1,m2,m3,vI q,vI 6] 73)):=by rw [hW3];exact (putL_other (by omega) _ _ _).trans HL1.out
 have HO2:Hid (∀ c,c<w.heap.size->c≠lb->W2.heap[c]?=w.heap[c]?):=by rw [hW3];exact fun c h1 h2=>(putL_other (by omega) _ _ _).trans (HO1.out c h1 h2)
 have HB2:Hid (Below lb w W2):=by rw [hW3];exact putL_below (B:=lb) (by omega) _ _ _ HB1.out
 have HS2:Hid (W2.heap[w.heap.size + 3]?=some (.cells #[vI k1,vI i1.kind,vI i1.n,vS i1.s,vS nm1,vS at1,vI n1,vI ax1,vI tk1,vS tn1,.slice aa1 am1 ac1,vI k2,vI i2.kind,vI i2.n,vS i2.s,vS nm2,vS at2,vI n2,vI ax2,vI tk2,vS tn2,.slice aa2 am2 ac2] 29)):=by rw [hW3];exact (putL_other (by omega) _ _ _).trans HS1.out
 clear hW2 hW3
 obtain ⟨y0,y1,y2,y3,y4,y5,y6,y7,y8,y9,y10,_,_⟩:=bk11 HZ2.out
 exact bodyPost_ret (v:=.agg zA) (by simp [results,Tryz.results92,go_sem,y0,y1,y2,y3,y4,y5,y6,y7,y8,y9,y10]) rfl ⟨rfl,⟨HL2.out,HO2.out,HB2.out⟩,HS2.out⟩
theorem conditional_no (lb:Nat) (m1 m2 m3:Value) (p:Nat) (k1:Int) (i1:It) (nm1 at1:ByteArray) (n1 ax1 tk1:Int) (tn1:ByteArray) (aa1:Option Addr) (am1 ac1:Nat) (k2:Int) (i2:It) (nm2 at2:ByteArray) (n2 ax2 tk2:Int) (tn2:ByteArray) (aa2:Option Addr) (am2 ac2:Nat) (k3:Int) (i3:It) (nm3 at3:ByteArray) (n3 ax3 tk3:Int) (tn3:ByteArray) (aa3:Option Addr) (am3 ac3:Nat) (w:World) (hl:w.heap[lb]?=some (.cells #[m1,m2,m3,vI (p:Int),vI 6] 73)) (hp:p + 1<=700)  :
 Calls Tryz.prog 100 #[vP lb 0,.agg (eA k1 i1.kind i1.n i1.s nm1 at1 n1 ax1 tk1 tn1 aa1 am1 ac1),.agg (eA k2 i2.kind i2.n i2.s nm2 at2 n2 ax2 tk2 tn2 aa2 am2 ac2),.agg (eA k3 i3.kind i3.n i3.s nm3 at3 n3 ax3 tk3 tn3 aa3 am3 ac3)] w fun e w'=>e=.returned (.agg zA)/\KpN lb m1 m2 m3 (p + 1) w w'/\w'.heap[w.heap.size + 4]?=some (.cells #[vI k1,vI i1.kind,vI i1.n,vS i1.s,vS nm1,vS at1,vI n1,vI ax1,vI tk1,vS tn1,.slice aa1 am1 ac1,vI k2,vI i2.kind,vI i2.n,vS i2.s,vS nm2,vS at2,vI n2,vI ax2,vI tk2,vS tn2,.slice aa2 am2 ac2,vI k3,vI i3.kind,vI i3.n,vS i3.s,vS nm3,vS at3,vI n3,vI ax3,vI tk3,vS tn3,.slice aa3 am3 ac3] 29):=by
 have HL:=hidC hl
 obtain ⟨_,_,_,_,_,_,l6⟩:=bk5 hl
 have CM:Hid (∀ W,W.heap[lb]?=some (.cells #[m1,m2,m3,vI (p:Int),vI 6] 73)->Calls Tryz.prog 101 _ W _):=fun W hW=>made_no lb m1 m2 m3 p 7 ⟨0,0,⟨#[]⟩⟩ ⟨#[]⟩ ⟨#[]⟩ 0 0 0 ⟨#[]⟩ none 0 0 (some ⟨w.heap.size + 4,0,none⟩) 3 3 W hW hp (Nat.zero_le _) (Nat.zero_le _) (Nat.zero_le _) (Nat.zero_le _)
 clear hl hp
 unfold KpN
 generalize ((p + 1:Nat):Int)=q at *
 go_enter Tryz.func100,Tryz.ntmps100
 go_wp2_with (go_at_call 101;refine (CM.out _ ?_).mono ?_;(· exact aOld (aOld (aOld (aOld (aOld (HL.out))))));rintro e w1 ⟨rfl,hl1,ho1,hb1⟩;have HL1:=hidC hl1;have HZ1:=hidC ((ho1 (w.heap.size + 3) (by simp) (by omega)).trans (aOld (aNew (by simp))));have HS1:=hidC ((ho1 (w.heap.size + 4) (by simp) (by omega)).trans (aNew (by simp)));have HO1:Hid (∀ b,b<w.heap.size->b≠lb->w1.heap[b]?=w.heap[b]?):=(fun b hb hne=>(by obtain ⟨o,ho⟩:∃ o,w.heap[b]?=some o:=⟨_,Array.getElem?_eq_getElem hb⟩;rw [ho];exact (ho1 b (by simp;omega) hne).trans (aOld (aOld (aOld (aOld (aOld (ho))))))));have HB1:Hid (Below lb w w1):=Below.trans (Below.alloc (Below.alloc (Below.alloc (Below.alloc (Below.alloc (Below.refl lb w) (Nat.le_of_lt l6) _) (by simp;omega) _) (by simp;omega) _) (by simp;omega) _) (by simp;omega) _) hb1;obtain ⟨z0,z1,z2,z3,z4,z5,z6,z7,z8,z9,z10,z11,z12⟩:=bk11 HZ1.out;clear hl1 ho1 hb1)
 generalize hW2:World.setCell _ _ _=W2
 have hW3:W2=putL w1 (w.heap.size + 3) 0 zL:=hW2.symm
 have HZ2:Hid (W2.heap[w.heap.size + 3]?=some (.cells zA 29)):=by rw [hW3];exact putL_same HZ1.out _ rfl
 have HL2:Hid (W2.heap[lb]?=some (.cells #[m1,m2,m3,vI q,vI 6] 73)):=by rw [hW3];exact (putL_other (by omega) _ _ _).trans HL1.out
 have HO2:Hid (∀ c,c<w.heap.size->c≠lb->W2.heap[c]?=w.heap[c]?):=by rw [hW3];exact fun c h1 h2=>(putL_other (by omega) _ _ _).trans (HO1.out c h1 h2)
 have HB2:Hid (Below lb w W2):=by rw [hW3];exact putL_below (B:=lb) (by omega) _ _ _ HB1.out
 have HS2:Hid (W2.heap[w.heap.size + 4]?=some (.cells #[vI k1,vI i1.kind,vI i1.n,vS i1.s,vS nm1,vS at1,vI n1,vI ax1,vI tk1,vS tn1,.slice aa1 am1 ac1,vI k2,vI i2.kind,vI i2.n,vS i2.s,vS nm2,vS at2,vI n2,vI ax2,vI tk2,vS tn2,.slice aa2 am2 ac2,vI k3,vI i3.kind,vI i3.n,vS i3.s,vS nm3,vS at3,vI n3,vI ax3,vI tk3,vS tn3,.slice aa3 am3 ac3] 29)):=by rw [hW3];exact (putL_other (by omega) _ _ _).trans HS1.out
 clear hW2 hW3
 obtain ⟨y0,y1,y2,y3,y4,y5,y6,y7,y8,y9,y10,_,_⟩:=bk11 HZ2.out
 exact bodyPost_ret (v:=.agg zA) (by simp [results,Tryz.results100,go_sem,y0,y1,y2,y3,y4,y5,y6,y7,y8,y9,y10]) rfl ⟨rfl,⟨HL2.out,HO2.out,HB2.out⟩,HS2.out⟩
end Go.Proofs.YtmcmbdkpfcibkaaGreatDoor
