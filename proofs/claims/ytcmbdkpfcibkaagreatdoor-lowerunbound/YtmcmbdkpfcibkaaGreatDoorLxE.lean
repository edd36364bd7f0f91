import Derived.Test.YtmcmbdkpfcibkaaGreatDoorLcD
import Derived.Deep.RegionHeld3
import Derived.Test.YtmcmbdkpfcibkaaGreatDoorPmClone
import Derived.Test.YtmcmbdkpfcibkaaGreatDoorLaidQ
import Derived.Sort.AtCall
import Derived.Test.YtmcmbdkpfcibkaaGreatDoorLcB
import Derived.RangeFuncNested
import Derived.RangeFuncBound
import Derived.RangeFuncCalls
import Derived.RangeFuncLeaves
import Derived.Shelf.Abstract
import Derived.Shelf.RegionOpen
import Derived.WalkKit
import Derived.OwnWalkIn
import Derived.TacticsInMore
import Derived.LoopNIn
import Derived.LoopIn
set_option linter.unusedVariables false
set_option maxHeartbeats 6400000
namespace Go.Proofs.YtmcmbdkpfcibkaaGreatDoor
set_option maxRecDepth 100000
open Go.RowKit Go.WideShapes
theorem PhAt.block {w w':World} {b off:Nat} {k:Int} {it:It} {nm:ByteArray} {n ax tk:Int} {tn:ByteArray} {av cv:Value} (h:PhAt w b off k it nm n ax tk tn av cv) (e:w'.heap[b]?=w.heap[b]?):PhAt w' b off k it nm n ax tk tn av cv :=
 have e:∀ o,w'.cell? ⟨b,o,none⟩=w.cell? ⟨b,o,none⟩:=fun o=>by simp only [World.cell?,e]
 ⟨(e _).trans h.c0,(e _).trans h.c1,(e _).trans h.c2,(e _).trans h.c3,(e _).trans h.c4,(e _).trans h.c5,(e _).trans h.c6,(e _).trans h.c7,(e _).trans h.c8,(e _).trans h.c9,(e _).trans h.c10⟩
theorem alone_lit (lb b off:Nat) (it:It) (nm:ByteArray) (n ax tk:Int) (tn:ByteArray) (aa:Option Addr) (ac:Nat) (cv:Value) (w:World) (h:PhAt w b off 1 it nm n ax tk tn (.slice aa 0 ac) cv) (hb:b<w.heap.size) (hs:it.s.size<=maxLen) (hT:Tabs w) :
 Calls Tryz.prog 53 #[vP lb 0,vP b off] w fun e w'=>e=.returned (vI (litF it))/\Below w.heap.size w w':=by
 have CC:Hid (∀ W,Below w.heap.size w W->Calls Tryz.prog 63 #[.agg #[vI it.kind,vI it.n,vS it.s]] W fun e w'=>e=.returned (vI (litF it))/\Below W.heap.size W w'):=fun W hW=>checkLit_is it W hs (Utf8Tabs_below hT hW)
 have CP:Hid (∀ W,Calls Tryz.prog 86 #[vI 1,vI 0] W fun e w'=>e=.returned (vI 0)/\w'=W):=parts_1
 obtain ⟨c0,c1,c2,c3,c4,c5,c6,c7,c8,c9,c10⟩:=h
 generalize litF it=R at *
 clear c4 c5 c6 c7 c8 c10 hs hT
 go_enter Tryz.func53,Tryz.ntmps53
 go_upto_region 1 with fail
 go_quiet ((go_at_call 86;exact Calls.quiet_of_same (CP.out _)))
 obtain ⟨W1,hW1⟩:∃ W,W=w.drewN nq:=⟨_,rfl⟩
 have HB1:Hid (Below w.heap.size w W1):=by rw [hW1];exact ⟨rfl,rfl,rfl,Nat.le_refl _,fun _ _=>rfl⟩
 rw [<- hW1]
 have e0:W1.cell? ⟨b,off,none⟩=some (vI 1):=(HB1.out.cell (p:=⟨b,off,none⟩) hb).trans c0
 have e1:W1.cell? ⟨b,off + 1,none⟩=some (vI it.kind):=(HB1.out.cell (p:=⟨b,off + 1,none⟩) hb).trans c1
 have e2:W1.cell? ⟨b,off + 2,none⟩=some (vI it.n):=(HB1.out.cell (p:=⟨b,off + 2,none⟩) hb).trans c2
 have e3:W1.cell? ⟨b,off + 3,none⟩=some (vS it.s):=(HB1.out.cell (p:=⟨b,off + 3,none⟩) hb).trans c3
 clear hW1 c0 c1 c2 c3 c9
 go_wp2_with (go_at_call 63;refine (CC.out W1 HB1.out).mono ?_;rintro e w2 ⟨rfl,hb2⟩;have HB2:Hid (Below w.heap.size w w2):=HB1.out.trans (hb2.mono HB1.out.size);clear hb2)
 go_ret
 exact ⟨rfl,HB2.out⟩
theorem leaf_lit (lb b off:Nat) (m1 m2 m3:Value) (p:Nat) (it:It) (nm:ByteArray) (n ax tk:Int) (tn:ByteArray) (aa:Option Addr) (ac:Nat) (cv:Value) (w:World) (hl:w.heap[lb]?=some (.cells #[m1,m2,m3,vI (p:Int),vI 0] 73)) (hp:p + 1<=700) (h:PhAt w b off 1 it nm n ax tk tn (.slice aa 0 ac) cv) (hb:b<w.heap.size) (hbl:b≠lb) (hs:it.s.size<=4000) :
 Calls Tryz.prog 59 #[vP lb 0,vP b off] w fun e w'=>e=.returned (.agg (eA 1 it.kind it.n it.s ⟨#[]⟩ ⟨#[]⟩ 0 0 0 ⟨#[]⟩ none 0 0))/\Kp lb m1 m2 m3 (p + 1) w w':=by
 have HL:=hidC hl
 obtain ⟨_,_,_,_,_,_,l6⟩:=bk5 hl
 have CM:Hid (∀ W,W.heap[lb]?=some (.cells #[m1,m2,m3,vI (p:Int),vI 0] 73)->Calls Tryz.prog 105 _ W _):=fun W hW=>lit_is lb m1 m2 m3 p it W hW hp hs
 obtain ⟨c0,c1,c2,c3,c4,c5,c6,c7,c8,c9,c10⟩:=h
 clear hl hp c4 c5 c6 c7 c8 c9 c10
 unfold Kp at *
 generalize ((p + 1:Nat):Int)=q at *
 go_enter Tryz.func59,Tryz.ntmps59
 go_wp2_with (go_at_call 105;refine (CM.out _ ?_).mono ?_;(· exact aOld HL.out);rintro e w1 ⟨rfl,hl1,ho1,hb1⟩;have HL1:=hidC hl1;have HZ1:=hidC ((ho1 (w.heap.size) (by simp) (by omega)).trans (aNew rfl));have HO1:Hid (∀ b,b<w.heap.size->b≠lb->w1.heap[b]?=w.heap[b]?):=(fun b hb hne=>(by obtain ⟨o,ho⟩:∃ o,w.heap[b]?=some o:=⟨_,Array.getElem?_eq_getElem hb⟩;rw [ho];exact (ho1 b (by simp;omega) hne).trans (aOld ho)));have HB1:Hid (Below lb w w1):=Below.trans (Below.alloc (Below.refl lb w) (Nat.le_of_lt l6) _) hb1;obtain ⟨z0,z1,z2,z3,z4,z5,z6,z7,z8,z9,z10,z11,z12⟩:=bk11 HZ1.out;clear hl1 ho1 hb1)
 generalize hW2:World.setCell _ _ _=W2
 have hW3:W2=putL w1 (w.heap.size) 0 (eL 1 it.kind it.n it.s ⟨#[]⟩ ⟨#[]⟩ 0 0 0 ⟨#[]⟩ none 0 0):=hW2.symm
 have HZ2:Hid (W2.heap[w.heap.size]?=some (.cells (eA 1 it.kind it.n it.s ⟨#[]⟩ ⟨#[]⟩ 0 0 0 ⟨#[]⟩ none 0 0) 29)):=by rw [hW3];exact putL_same HZ1.out _ rfl
 have HL2:Hid (W2.heap[lb]?=some (.cells #[m1,m2,m3,vI q,vI 0] 73)):=by rw [hW3];exact (putL_other (by omega) _ _ _).trans HL1.out
 have HO2:Hid (∀ c,c<w.heap.size->c≠lb->W2.heap[c]?=w.heap[c]?):=by rw [hW3];exact fun c h1 h2=>(putL_other (by omega) _ _ _).trans (HO1.out c h1 h2)
 have HB2:Hid (Below lb w W2):=by rw [hW3];exact putL_below (B:=lb) (by omega) _ _ _ HB1.out
 clear hW2 hW3
 obtain ⟨y0,y1,y2,y3,y4,y5,y6,y7,y8,y9,y10,_,_⟩:=bk11 HZ2.out
 exact bodyPost_ret (v:=.agg (eA 1 it.kind it.n it.s ⟨#[]⟩ ⟨#[]⟩ 0 0 0 ⟨#[]⟩ none 0 0)) (by simp [results,Tryz.results59,go_sem,y0,y1,y2,y3,y4,y5,y6,y7,y8,y9,y10]) rfl ⟨rfl,HL2.out,HO2.out,HB2.out⟩
theorem expr_lit (lb b off:Nat) (m1 m2 m3:Value) (p:Nat) (it:It) (nm:ByteArray) (n ax tk:Int) (tn:ByteArray) (aa:Option Addr) (ac:Nat) (cv:Value) (w:World) (hl:w.heap[lb]?=some (.cells #[m1,m2,m3,vI (p:Int),vI 0] 73)) (hp:p + 1<=700) (h:PhAt w b off 1 it nm n ax tk tn (.slice aa 0 ac) cv) (hb:b<w.heap.size) (hbl:b≠lb) (hs:it.s.size<=4000) (hT:Tabs w) (hg:litF it=0) :
 Calls Tryz.prog 24 #[vP lb 0,vP b off] w fun e w'=>e=.returned (.agg (eA 1 it.kind it.n it.s ⟨#[]⟩ ⟨#[]⟩ 0 0 0 ⟨#[]⟩ none 0 0))/\Kp lb m1 m2 m3 (p + 1) w w':=by
 have HL:=hidC hl
 have HP:=hidC h
 obtain ⟨_,_,_,_,l4,l5,l6⟩:=bk5 hl
 have CA:Hid (∀ W,Below w.heap.size w W->Calls Tryz.prog 53 #[vP lb 0,vP b off] W fun e w'=>e=.returned (vI 0)/\Below W.heap.size W w'):=fun W hW=>hg ▸ alone_lit lb b off it nm n ax tk tn aa ac cv W (h.below hW hb) (Nat.lt_of_lt_of_le hb hW.size) (Nat.le_trans hs (by decide)) (Utf8Tabs_below hT hW)
 have CM:Hid (∀ W,W.heap[lb]?=some (.cells #[m1,m2,m3,vI (p:Int),vI 0] 73)->PhAt W b off 1 it nm n ax tk tn (.slice aa 0 ac) cv->b<W.heap.size->Calls Tryz.prog 59 _ W _):=fun W hW hP hB=>leaf_lit lb b off m1 m2 m3 p it nm n ax tk tn aa ac cv W hW hp hP hB hbl hs
 clear h hl hp hT hg
 unfold Kp at *
 generalize ((p + 1:Nat):Int)=q at *
 go_enter Tryz.func24,Tryz.ntmps24
 go_upto_region 3 with (go_at_call 53;refine (CA.out _ ?_).mono ?_;(· exact (Below.refl _ _).alloc (Nat.le_refl _) _);rintro e w1 ⟨rfl,hb1⟩;have HB1:Hid (Below w.heap.size w w1):=Below.trans ((Below.refl _ _).alloc (Nat.le_refl _) _) (hb1.mono (by simp));have HL1:=hidC (blC HB1.out l6 HL.out);have HZ1:=hidC ((hb1.block w.heap.size (by simp)).trans (aNew rfl));obtain ⟨_,_,_,_,m4,m5,m6⟩:=bk5 HL1.out;have hz1:=HB1.out.size;clear hb1)
 obtain ⟨W1,hW1⟩:∃ W,W=w1.setCell ⟨lb,4,none⟩ (vI 0):=⟨_,rfl⟩
 rw [<- hW1]
 have HL2:Hid (W1.heap[lb]?=some (.cells #[m1,m2,m3,vI (p:Int),vI 0] 73)):=by rw [hW1];exact heap_set_same HL1.out 4 _
 have HR2:Hid (W1.heap[w.heap.size]?=some (.cells zA 29)):=by rw [hW1];exact sOth HZ1.out (by omega)
 have HO2:Hid (∀ c,c<w.heap.size->c≠lb->W1.heap[c]?=w.heap[c]?):=by rw [hW1];exact fun c h1 h2=>(Below.heap_setCell _ _ _ _ h2).trans (HB1.out.block c h1)
 have HB2:Hid (Below lb w W1):=by rw [hW1];exact Below.setCell (Below.mono HB1.out (Nat.le_of_lt l6)) (Nat.le_refl lb) _
 have HP2:Hid (PhAt W1 b off 1 it nm n ax tk tn (.slice aa 0 ac) cv):=HP.out.block (HO2.out b hb hbl)
 have hb2:b<W1.heap.size:=Nat.lt_of_lt_of_le hb HB2.out.size
 have hz2:w.heap.size<W1.heap.size:=(gI HR2.out).1
 obtain ⟨_,_,_,_,l4',_,_⟩:=bk5 HL2.out
 obtain ⟨c0,_,_,_,_,_,_,_,_,_,_⟩:=HP2.out
 clear hW1 HL1 HZ1 HB1 CA m4 m5 m6 l4 l5 hz1 HL HP
 go_wp2_with (go_at_call 59;refine (CM.out _ HL2.out HP2.out hb2).mono ?_;rintro e w3 ⟨rfl,hl1,ho1,hb1⟩;have HL1:=hidC hl1;have HZ1:=hidC ((ho1 (w.heap.size) hz2 (by omega)).trans HR2.out);have HO1:Hid (∀ b,b<w.heap.size->b≠lb->w3.heap[b]?=w.heap[b]?):=(fun b hb hne=>(ho1 b (by omega) hne).trans (HO2.out b hb hne));have HB1:Hid (Below lb w w3):=HB2.out.trans hb1;obtain ⟨z0,z1,z2,z3,z4,z5,z6,z7,z8,z9,z10,z11,z12⟩:=bk11 HZ1.out;clear hl1 ho1 hb1 HL2 HR2 HO2 HB2 HP2)
 generalize hW2:World.setCell _ _ _=W2
 have hW3:W2=putL w3 (w.heap.size) 0 (eL 1 it.kind it.n it.s ⟨#[]⟩ ⟨#[]⟩ 0 0 0 ⟨#[]⟩ none 0 0):=hW2.symm
 have HZ2:Hid (W2.heap[w.heap.size]?=some (.cells (eA 1 it.kind it.n it.s ⟨#[]⟩ ⟨#[]⟩ 0 0 0 ⟨#[]⟩ none 0 0) 29)):=by rw [hW3];exact putL_same HZ1.out _ rfl
 have HL2:Hid (W2.heap[lb]?=some (.cells #[m1,m2,m3,vI q,vI 0] 73)):=by rw [hW3];exact (putL_other (by omega) _ _ _).trans HL1.out
 have HO2:Hid (∀ c,c<w.heap.size->c≠lb->W2.heap[c]?=w.heap[c]?):=by rw [hW3];exact fun c h1 h2=>(putL_other (by omega) _ _ _).trans (HO1.out c h1 h2)
 have HB2:Hid (Below lb w W2):=by rw [hW3];exact putL_below (B:=lb) (by omega) _ _ _ HB1.out
 clear hW2 hW3
 obtain ⟨y0,y1,y2,y3,y4,y5,y6,y7,y8,y9,y10,_,_⟩:=bk11 HZ2.out
 exact bodyPost_ret (v:=.agg (eA 1 it.kind it.n it.s ⟨#[]⟩ ⟨#[]⟩ 0 0 0 ⟨#[]⟩ none 0 0)) (by simp [results,Tryz.results24,go_sem,y0,y1,y2,y3,y4,y5,y6,y7,y8,y9,y10]) rfl ⟨rfl,HL2.out,HO2.out,HB2.out⟩
open Go.RowKit Go.WideShapes
def tabF (V:ByteArray->Option Value) (x:ByteArray) (m:Nat) (y:ByteArray) (a:Int) (R:Int):Prop:=(V x=some (fV y a)/\R=if a=(m:Int) then 0 else 11)\/(V x=none/\R=6)
theorem tcheckV_is (V:ByteArray->Option Value) (tb:Nat) (x y:ByteArray) (m:Nat) (a R:Int) (w:World) (hx:x.size<=maxLen) (h:VMap w tb V) (hR:tabF V x m y a R) :
 Calls Tryz.prog 66 #[.map (some tb),vS x,vI m] w fun e w'=>e=.returned (vI R)/\Below w.heap.size w w':=by
 have hl:=(h.look hx Tryz.underlying55 (zeroF w)).2
 clear h
 rcases hR with ⟨h2,hR⟩ | ⟨h2,hR⟩
 · rw [h2] at hl
   have hl':(Instr.lookup 55 (.map (some tb)) (vS x) true).run Tryz.prog w=.ok (.tuple #[.agg #[vS y,vI a],.bool true]) w:=hl
   clear hl h2
   have HB:Hid (Below w.heap.size w (w.alloc (.cells #[vS y,vI a] 81))):=(Below.refl _ _).alloc (Nat.le_refl _) _
   by_cases h3:a=(m:Int)
   · rw [if_pos h3] at hR
     subst h3 hR
     go_enter Tryz.func66,Tryz.ntmps66
     go_wp2
     go_ret
     exact ⟨rfl,HB.out⟩
   · have g3:(a != (m:Int))=true:=by simpa using h3
     have g4:(a == (m:Int))=false:=by simpa using h3
     rw [if_neg h3] at hR
     subst hR
     go_enter Tryz.func66,Tryz.ntmps66
     go_wp2
     go_ret
     exact ⟨rfl,HB.out⟩
 · rw [h2] at hl
   have hl':(Instr.lookup 55 (.map (some tb)) (vS x) true).run Tryz.prog w=.ok (.tuple #[.agg #[vS ByteArray.empty,vI 0],.bool false]) w:=hl
   clear hl h2
   have HB:Hid (Below w.heap.size w (w.alloc (.cells #[vS ByteArray.empty,vI 0] 81))):=(Below.refl _ _).alloc (Nat.le_refl _) _
   subst hR
   go_enter Tryz.func66,Tryz.ntmps66
   go_wp2
   go_ret
   exact ⟨rfl,HB.out⟩
theorem checkCall_true (lb:Nat) (m:Nat) (w:World) :
 Calls Tryz.prog 87 #[vP lb 0,vS ⟨#[116,114,117,101]⟩,vI m] w fun e w'=>e=.returned (vI (if m=0 then 0 else 11))/\Below w.heap.size w w':=by
 by_cases hm:m=0
 · subst hm
   go_enter Tryz.func87,Tryz.ntmps87
   go_wp2
   go_ret
   exact ⟨rfl,Below.refl _ _⟩
 · rw [if_neg hm]
   have h1:(0:Int)<(m:Int):=by omega
   go_enter Tryz.func87,Tryz.ntmps87
   go_wp2
   go_ret
   exact ⟨rfl,Below.refl _ _⟩
theorem parts_call (m:Nat) (w:World):Calls Tryz.prog 86 #[vI 8,vI m] w fun e w'=>e=.returned (vI 0)/\w'=w:=by
 go_enter Tryz.func86,Tryz.ntmps86
 go_wp2
 go_ret
 exact ⟨rfl,rfl⟩
theorem alone_call (lb b off:Nat) (it:It) (nm:ByteArray) (n ax tk:Int) (tn:ByteArray) (aa:Option Addr) (am ac:Nat) (cv:Value) (R:Int) (w:World) (h:PhAt w b off 8 it nm n ax tk tn (.slice aa am ac) cv) (hb:b<w.heap.size)
 (hC:∀ W,Below w.heap.size w W->Calls Tryz.prog 87 #[vP lb 0,vS nm,vI am] W fun e w'=>e=.returned (vI R)/\Below W.heap.size W w') :
 Calls Tryz.prog 53 #[vP lb 0,vP b off] w fun e w'=>e=.returned (vI R)/\Below w.heap.size w w':=by
 have CP:Hid (∀ W,Calls Tryz.prog 86 #[vI 8,vI am] W fun e w'=>e=.returned (vI 0)/\w'=W):=parts_call am
 obtain ⟨c0,c1,c2,c3,c4,c5,c6,c7,c8,c9,c10⟩:=h
 clear c1 c2 c3 c5 c6 c7 c8 c10
 go_enter Tryz.func53,Tryz.ntmps53
 go_upto_region 1 with fail
 go_quiet ((go_at_call 86;exact Calls.quiet_of_same (CP.out _)))
 obtain ⟨W1,hW1⟩:∃ W,W=w.drewN nq:=⟨_,rfl⟩
 have HB1:Hid (Below w.heap.size w W1):=by rw [hW1];exact ⟨rfl,rfl,rfl,Nat.le_refl _,fun _ _=>rfl⟩
 rw [<- hW1]
 have hb1:b<W1.heap.size:=Nat.lt_of_lt_of_le hb HB1.out.size
 have e0:W1.cell? ⟨b,off,none⟩=some (vI 8):=(HB1.out.cell (p:=⟨b,off,none⟩) hb).trans c0
 have e4:W1.cell? ⟨b,off + 4,none⟩=some (vS nm):=(HB1.out.cell (p:=⟨b,off + 4,none⟩) hb).trans c4
 have e9:W1.cell? ⟨b,off + 9,none⟩=some (.slice aa am ac):=(HB1.out.cell (p:=⟨b,off + 9,none⟩) hb).trans c9
 have HSS:Hid (∀ W,Below W1.heap.size W1 W->W.cell? ⟨b,off + 4,none⟩=some (vS nm)/\W.cell? ⟨b,off + 9,none⟩=some (.slice aa am ac)):=fun W hW=>⟨(hW.cell (p:=⟨b,off + 4,none⟩) hb1).trans e4,(hW.cell (p:=⟨b,off + 9,none⟩) hb1).trans e9⟩
 have CC:Hid (∀ W,Below W1.heap.size W1 W->Calls Tryz.prog 87 #[vP lb 0,vS nm,vI am] W fun e w'=>e=.returned (vI R)/\Below W1.heap.size W1 w'):=fun W hW=>(hC W (HB1.out.trans (hW.mono HB1.out.size))).mono fun e w' ⟨k1,k2⟩=>⟨k1,hW.trans (k2.mono hW.size)⟩
 clear hW1 c0 c4 c9 hC
 go_upto_region 21 with fail
 go_region_held3 (fun W=>W.cell? ⟨b,off + 4,none⟩=some (vS nm)/\W.cell? ⟨b,off + 9,none⟩=some (.slice aa am ac))
  ((refine HSS.out _ ?_;repeat (first | exact Hid.out (by assumption) | exact Below.refl _ _ | refine Below.drew ?_)))
  (first
   | (go_at_call 87;refine (CC.out _ ?_).mono ?_;(focus (repeat (first | exact Hid.out (by assumption) | exact Below.refl _ _ | refine Below.drew ?_)));rintro e w2 ⟨rfl,hb2⟩;have HB2:Hid (Below W1.heap.size W1 w2):=hb2;clear hb2))
 go_wp2
 go_ret
 exact ⟨rfl,HB1.out.trans (HB2.out.mono HB1.out.size)⟩
open Go.RowKit Go.WideShapes
def exL (k:Int) (it:It) (nm a:ByteArray) (n ax tk:Int) (tn:ByteArray) (v:Value):List Value:=[vI k,vI it.kind,vI it.n,vS it.s,vS nm,vS a,vI n,vI ax,vI tk,vS tn,v]
def Ex.W (w:World) (S:Nat->Prop):Ex->List Value->Prop
 | .no,_=>False
 | .mk k it nm a n ax tk tn m A,v=>∃ sl cap,v=exL k it nm a n ax tk tn (.slice sl m cap)/\(it.s.size<=maxLen/\nm.size<=maxLen/\a.size<=maxLen)/\m<=cap/\cap<=maxLen/\(0<m->∃ g o,sl=some ⟨g,o,none⟩/\S g/\∀ i,i<m->∃ u,cAt w g (o + i * 11) u/\(A i).W w S u)
theorem Ex.W.keep {w w':World} {S S':Nat->Prop} (hS:∀ b,S b->S' b) (hk:∀ b,S b->w'.heap[b]?=w.heap[b]?):∀ {x:Ex} {v:List Value},x.W w S v->x.W w' S' v:=by
 intro x
 induction x with
 | no=>intro v h;exact h
 | mk k it nm a n ax tk tn m A ih =>
  intro v h
  obtain ⟨sl,cap,h1,h2,h3,h4,h5⟩:=h
  refine ⟨sl,cap,h1,h2,h3,h4,fun hn=>?_⟩
  obtain ⟨g,o,q1,q2,q3⟩:=h5 hn
  refine ⟨g,o,q1,hS _ q2,fun i hi=>?_⟩
  obtain ⟨u,r1,r2⟩:=q3 i hi
  exact ⟨u,r1.keep (hk g q2),ih i r2⟩
theorem Ex.W.form {w:World} {S:Nat->Prop} {x:Ex} {v:List Value} (h:x.W w S v):∃ (x0 x1 x2 x6 x7 x8:Int) (y3 y4 y5 y9:ByteArray) (b10:Option Addr) (l10 c10:Nat),v=(eL x0 x1 x2 y3 y4 y5 x6 x7 x8 y9 b10 l10 c10):=by
 cases x with
 | no=>exact h.elim
 | mk k it nm a n ax tk tn m A =>
  obtain ⟨sl,cap,h1,_⟩:=h
  exact ⟨k,it.kind,it.n,n,ax,tk,it.s,nm,a,tn,sl,m,cap,h1⟩
theorem Ex.W.len {w:World} {S:Nat->Prop} {x:Ex} {v:List Value} (h:x.W w S v):v.length=11:=by
 obtain ⟨x0,x1,x2,x6,x7,x8,y3,y4,y5,y9,b10,l10,c10,rfl⟩:=h.form
 rfl
theorem Ex.W.ones {w:World} {S:Nat->Prop} {x:Ex} {v:List Value} (h:x.W w S v):∀ u∈v,u.oneCell'=true:=by
 obtain ⟨x0,x1,x2,x6,x7,x8,y3,y4,y5,y9,b10,l10,c10,rfl⟩:=h.form
 intro u hu
 simp at hu
 rcases hu with rfl | rfl | rfl | rfl | rfl | rfl | rfl | rfl | rfl | rfl | rfl <;> rfl
theorem Ex.W.at {w:World} {S:Nat->Prop} {B:Nat} (hS:∀ b,S b->b<B):∀ {x:Ex} {v:List Value} {b off:Nat},x.W w S v->cAt w b off v->b<B->x.At w B b off:=by
 intro x
 induction x with
 | no=>intro v b off h;exact h.elim
 | mk k it nm a n ax tk tn m A ih =>
  intro v b off h hc hb
  obtain ⟨sl,cap,h1,⟨s1,s2,s3⟩,h3,h4,h5⟩:=h
  subst h1
  refine ⟨hb,sl,cap,⟨hc 0 (by simp [exL]),hc 1 (by simp [exL]),hc 2 (by simp [exL]),hc 3 (by simp [exL]),hc 4 (by simp [exL]),hc 5 (by simp [exL]),hc 6 (by simp [exL]),hc 7 (by simp [exL]),hc 8 (by simp [exL]),hc 9 (by simp [exL]),hc 10 (by simp [exL]),s1,s2,s3⟩,h3,h4,fun hn=>?_⟩
  obtain ⟨g,o,q1,q2,q3⟩:=h5 hn
  refine ⟨g,o,q1,hS g q2,fun i hi=>?_⟩
  obtain ⟨u,r1,r2⟩:=q3 i hi
  exact ih i r2 r1 (hS g q2)
theorem Ex.W.val {w:World} {S:Nat->Prop} {B:Nat} (hS:∀ b,S b->b<B) {x:Ex} {v:List Value} (h:x.W w S v):x.V w B (.agg v.toArray):=by
 cases x with
 | no=>exact h.elim
 | mk k it nm a n ax tk tn m A =>
  obtain ⟨sl,cap,h1,⟨s1,s2,s3⟩,h3,h4,h5⟩:=h
  subst h1
  refine ⟨sl,cap,rfl,s1,s2,s3,h3,h4,fun hn=>?_⟩
  obtain ⟨g,o,q1,q2,q3⟩:=h5 hn
  refine ⟨g,o,q1,hS g q2,fun i hi=>?_⟩
  obtain ⟨u,r1,r2⟩:=q3 i hi
  exact r2.at hS r1 (hS g q2)
def exN (k:Int) (it:It) (nm a:ByteArray) (n:Int) (m:Nat) (A:Nat->Ex):Ex:=.mk k it nm a n 0 0 ⟨#[]⟩ m A
def ExE (X:Nat->Ex) (i:Nat) (w:World) (S:Nat->Prop) (u:List Value):Prop:=(X i).W w S u
theorem ExE.keeps (X:Nat->Ex):∀ i,Keeps (ExE X i):=fun i w w' S S' u h1 h2 h3=>Ex.W.keep h1 h2 h3
theorem LOwn.exs {X:Nat->Ex} {w:World} {lo:Nat} {v:Value} {m:Nat} (h:LOwn 29 11 (ExE X) w lo v m) {k:Int} {it:It} {nm a:ByteArray} {n:Int} (s1:it.s.size<=maxLen) (s2:nm.size<=maxLen) (s3:a.size<=maxLen):(exN k it nm a n m X).W w (fun b=>lo<=b/\b<w.heap.size) (exL k it nm a n 0 0 ⟨#[]⟩ v):=by
 obtain ⟨a',c,h1,h2,h3,h4⟩:=h.lies (ExE.keeps X)
 refine ⟨a',c,by rw [h1],⟨s1,s2,s3⟩,h2,h3,fun hn=>?_⟩
 obtain ⟨g,q1,q2,q3⟩:=h4 hn
 refine ⟨g,0,q1,q2,fun i hi=>?_⟩
 obtain ⟨u,r0,r1,r2⟩:=q3 i hi
 rw [Nat.zero_add]
 exact ⟨u,r1,r2⟩
structure XS (w0:World) (lb tb ob sb:Nat) (N:ByteArray->Nat) (p:Nat) (W:World):Prop where
 l:W.heap[lb]?=some (.cells #[.map (some tb),.map (some ob),.map (some sb),vI (p:Int),vI 0] 73)
 s:SMap W sb N
 z:w0.heap.size<=W.heap.size
 os:W.os=w0.os
 tape:W.tape=w0.tape
 output:W.output=w0.output
 k:∀ b,b<w0.heap.size->b≠lb->b≠sb->W.heap[b]?=w0.heap[b]?
structure XB (w0:World) (lb tb ob sb:Nat):Prop where
 t:VMap w0 tb callsV
 o:VMap w0 ob opersV
 ls:lb≠sb
 tl:tb≠lb
 ts:tb≠sb
 ol:ob≠lb
 os:ob≠sb
 ll:lb<w0.heap.size
 sl:sb<w0.heap.size
 u:∃ B0,(B0<=lb/\B0<=sb)/\∀ W,Below B0 w0 W->Tabs W
theorem XS.refl {w0:World} {lb tb ob sb:Nat} {N:ByteArray->Nat} {p:Nat} (h1:w0.heap[lb]?=some (.cells #[.map (some tb),.map (some ob),.map (some sb),vI (p:Int),vI 0] 73)) (h2:SMap w0 sb N):XS w0 lb tb ob sb N p w0:=⟨h1,h2,Nat.le_refl _,rfl,rfl,rfl,fun _ _ _ _=>rfl⟩
theorem XS.here {w0 W:World} {lb tb ob sb:Nat} {N:ByteArray->Nat} {p:Nat} (h:XS w0 lb tb ob sb N p W):XS W lb tb ob sb N p W:=XS.refl h.l h.s
theorem XS.trans {w0 w1 W:World} {lb tb ob sb:Nat} {N N':ByteArray->Nat} {p q:Nat} (h:XS w0 lb tb ob sb N p w1) (h':XS w1 lb tb ob sb N' q W):XS w0 lb tb ob sb N' q W:=⟨h'.l,h'.s,Nat.le_trans h.z h'.z,h'.os.trans h.os,h'.tape.trans h.tape,h'.output.trans h.output,fun b hb h1 h2=>(h'.k b (Nat.lt_of_lt_of_le hb h.z) h1 h2).trans (h.k b hb h1 h2)⟩
theorem XS.below {w0 W W':World} {lb tb ob sb:Nat} {N:ByteArray->Nat} {p:Nat} (h:XS w0 lb tb ob sb N p W) (hb:Below W.heap.size W W'):XS w0 lb tb ob sb N p W':=⟨(hb.block lb (gI h.l).1).trans h.l,h.s.keep (hb.block sb h.s.lt),Nat.le_trans h.z hb.size,hb.os.trans h.os,hb.tape.trans h.tape,hb.output.trans h.output,fun b h0 h1 h2=>(hb.block b (Nat.lt_of_lt_of_le h0 h.z)).trans (h.k b h0 h1 h2)⟩
theorem XS.alloc {w0 W:World} {lb tb ob sb:Nat} {N:ByteArray->Nat} {p:Nat} (h:XS w0 lb tb ob sb N p W) (o:Obj):XS w0 lb tb ob sb N p (W.alloc o):=h.below ((Below.refl _ _).alloc (Nat.le_refl _) o)
theorem XS.low {w0 W:World} {lb tb ob sb B0:Nat} {N:ByteArray->Nat} {p:Nat} (h:XS w0 lb tb ob sb N p W) (h1:B0<=lb) (h2:B0<=sb) (h3:lb<w0.heap.size):Below B0 w0 W:=⟨h.os,h.tape,h.output,h.z,fun b hb=>h.k b (by omega) (by omega) (by omega)⟩
theorem XB.at {w0 W:World} {lb tb ob sb:Nat} {N:ByteArray->Nat} {p:Nat} (h:XB w0 lb tb ob sb) (hs:XS w0 lb tb ob sb N p W):XB W lb tb ob sb:=by
 obtain ⟨B0,⟨h1,h2⟩,h3⟩:=h.u
 exact ⟨h.t.keep (hs.k tb h.t.lt h.tl h.ts),h.o.keep (hs.k ob h.o.lt h.ol h.os),h.ls,h.tl,h.ts,h.ol,h.os,Nat.lt_of_lt_of_le h.ll hs.z,Nat.lt_of_lt_of_le h.sl hs.z,B0,⟨h1,h2⟩,fun V hV=>h3 V ((hs.low h1 h2 h.ll).trans (hV.mono (Nat.le_refl _)))⟩
structure PhIn (w:World) (lb sb pb po:Nat) (ph:Ph) (S:Nat->Prop) (u:List Value):Prop where
 c:cAt w pb po u
 v:ph.V w S u
 s:S pb
 h:∀ b,S b->b<w.heap.size/\b≠lb/\b≠sb
theorem PhIn.at {w0 W:World} {lb tb ob sb pb po:Nat} {N:ByteArray->Nat} {p:Nat} {ph:Ph} {S:Nat->Prop} {u:List Value} (h:PhIn w0 lb sb pb po ph S u) (hs:XS w0 lb tb ob sb N p W):PhIn W lb sb pb po ph S u :=
 ⟨h.c.keep (hs.k pb (h.h pb h.s).1 (h.h pb h.s).2.1 (h.h pb h.s).2.2),Ph.V.keep (fun _ q=>q) (fun b q=>hs.k b (h.h b q).1 (h.h b q).2.1 (h.h b q).2.2) h.v,h.s,fun b q=>⟨Nat.lt_of_lt_of_le (h.h b q).1 hs.z,(h.h b q).2⟩⟩
def RunE (ph:Ph) (N:ByteArray->Nat) (p q:Nat) (X:Ex):Prop:=∀ (w:World) (lb tb ob sb:Nat) (S:Nat->Prop) (pb po:Nat) (u:List Value),XB w lb tb ob sb->XS w lb tb ob sb N p w->PhIn w lb sb pb po ph S u ->
 Calls Tryz.prog 24 #[vP lb 0,vP pb po] w fun e w'=>∃ v,X.W w' (fun b=>w.heap.size<=b/\b<w'.heap.size) v/\e=.returned (.agg v.toArray)/\XS w lb tb ob sb N q w'
theorem RunE.use {ph:Ph} {N:ByteArray->Nat} {p q:Nat} {X:Ex} (h:RunE ph N p q X) {w0 W:World} {lb tb ob sb pb po:Nat} {S:Nat->Prop} {u:List Value} (hB:XB w0 lb tb ob sb) (hX:XS w0 lb tb ob sb N p W) (hP:PhIn w0 lb sb pb po ph S u) :
 Calls Tryz.prog 24 #[vP lb 0,vP pb po] W fun e w'=>∃ (x0 x1 x2 x6 x7 x8:Int) (y3 y4 y5 y9:ByteArray) (b10:Option Addr) (l10 c10:Nat),X.W w' (fun b=>W.heap.size<=b/\b<w'.heap.size) (eL x0 x1 x2 y3 y4 y5 x6 x7 x8 y9 b10 l10 c10)/\e=.returned (.agg (eA x0 x1 x2 y3 y4 y5 x6 x7 x8 y9 b10 l10 c10))/\XS w0 lb tb ob sb N q w'/\(∀ b,b<W.heap.size->b≠lb->b≠sb->w'.heap[b]?=W.heap[b]?)/\W.heap.size<=w'.heap.size :=
 (h W lb tb ob sb S pb po u (hB.at hX) hX.here (hP.at hX)).mono fun e w' ⟨v,h1,h2,h3⟩=>by
  obtain ⟨x0,x1,x2,x6,x7,x8,y3,y4,y5,y9,b10,l10,c10,rfl⟩:=h1.form
  exact ⟨x0,x1,x2,x6,x7,x8,y3,y4,y5,y9,b10,l10,c10,h1,h2,hX.trans h3,h3.k,h3.z⟩
theorem phAt_c {w:World} {pb po:Nat} {k:Int} {it:It} {nm:ByteArray} {n ax tk:Int} {tn:ByteArray} {av cv:Value} (h:cAt w pb po (phL k it nm n ax tk tn av cv)):PhAt w pb po k it nm n ax tk tn av cv:=by
 obtain ⟨c0,c1,c2,c3,c4,c5,c6,c7,c8,c9,c10⟩:=cAt.eleven h
 exact ⟨c0,c1,c2,c3,c4,c5,c6,c7,c8,c9,c10⟩
theorem XS.ofKp {w w':World} {lb tb ob sb:Nat} {N:ByteArray->Nat} {p q:Nat} (h:XS w lb tb ob sb N p w) (hl:lb≠sb) (hk:Kp lb (.map (some tb)) (.map (some ob)) (.map (some sb)) q w w'):XS w lb tb ob sb N q w':=⟨hk.1,h.s.keep (hk.2.1 sb h.s.lt (Ne.symm hl)),hk.2.2.size,hk.2.2.os,hk.2.2.tape,hk.2.2.output,fun b h0 h1 _=>hk.2.1 b h0 h1⟩
theorem e_lit (it:It) (N:ByteArray->Nat) (p:Nat) (hp:p + 1<=700) (hs:it.s.size<=4000) (hg:litF it=0) (nm:ByteArray) (n ax tk:Int) (tn:ByteArray):RunE (ph0 1 it nm n ax tk tn) N p (p + 1) (exN 1 it ⟨#[]⟩ ⟨#[]⟩ 0 0 (fun _=>.no)):=by
 intro w lb tb ob sb S pb po u hB hX hP
 obtain ⟨a9,c9,a10,c10,rfl,_⟩:=hP.v
 obtain ⟨B0,⟨h1,h2⟩,h3⟩:=hB.u
 have hin:=hP.h pb hP.s
 refine (expr_lit lb pb po _ _ _ p it nm n ax tk tn a9 c9 _ w hX.l hp (phAt_c hP.c) hin.1 hin.2.1 hs (h3 w (Below.refl _ _)) hg).mono fun e w' ⟨k1,k2⟩=>?_
 exact ⟨exL 1 it ⟨#[]⟩ ⟨#[]⟩ 0 0 0 ⟨#[]⟩ (vN),⟨none,0,rfl,⟨Nat.le_trans hs (by decide),by decide,by decide⟩,Nat.le_refl _,by decide,fun h=>absurd h (by decide)⟩,k1,hX.ofKp hB.ls k2⟩
theorem infoEx:(Tryz.prog.info? 29).map (fun i=>(i.zero,i.size,i.bytes))=some (some (.agg (eA 0 0 0 ByteArray.empty ByteArray.empty ByteArray.empty 0 0 0 ByteArray.empty none 0 0)),11,136):=by kernel_rfl
open Go.RowKit Go.WideShapes
theorem exprs_is {n:Nat} {A:Nat->Ph} {X:Nat->Ex} {P:Nat->Nat} {N:ByteArray->Nat} (hn:n<=1000) (hP:∀ k,k<=n->P k<=700) (hr:∀ k,k<n->RunE (A k) N (P k) (P (k + 1)) (X k)) (w:World) (lb tb ob sb:Nat) (S:Nat->Prop) (aa:Option Addr) (ac:Nat) (hac:n<=ac) (hcm:ac<=maxLen) (hl:0<n->∃ g o,aa=some ⟨g,o,none⟩/\∀ k,k<n->∃ u,PhIn w lb sb g (o + k * 11) (A k) S u) (hB:XB w lb tb ob sb) (hX:XS w lb tb ob sb N (P 0) w) :
 Calls Tryz.prog 103 #[vP lb 0,.slice aa n ac] w fun e w'=>∃ v,e=.returned v/\LOwn 29 11 (ExE X) w' w.heap.size v n/\XS w lb tb ob sb N (P n) w':=by
 have HB:=HidOf hB
 have HX:=HidOf hX
 have HR:=HidOf hr
 have HL:=HidOf hl
 have HPP:=HidOf hP
 have hll:=hB.ll
 have hsl:=hB.sl
 obtain ⟨i0,hi0,hz0,hz1,hz2⟩:=info_parts infoEx
 clear hB hX hr hl hP
 unfold maxLen at hcm
 go_enter Tryz.func103,Tryz.ntmps103
 go_wp2
 go_loopw [5,10] (fun lv iv wr=>∃ k:Nat,k<=n/\iv=vI k/\XS w lb tb ob sb N (P k) wr/\LOwn 29 11 (ExE X) wr w.heap.size lv k) (fun _ iv _=>n - (intOf iv).toNat)
 case atStart=>exact ⟨0,Nat.zero_le _,rfl,HX.out,LOwn.nil _ _ _ _ _⟩
 case round =>
  obtain ⟨k,hk,rfl,hs0,hl0⟩:=hrel
  have HS0:Hid (XS w lb tb ob sb N (P k) wr):=hs0
  obtain ⟨la,lc,rfl⟩:=hl0.form
  have HL0:Hid (LOwn 29 11 (ExE X) wr w.heap.size (.slice la k lc) k):=hl0
  clear hs0 hl0
  by_cases hlt:k<n
  · have hki:(k:Int)<(n:Int):=by omega
    have hka:(k:Int)<(ac:Int):=by omega
    obtain ⟨g,o,rfl,hph⟩:=HL.out (by omega)
    obtain ⟨u,hu⟩:=hph k hlt
    have HU:=HidOf hu
    have HRK:Hid (RunE (A k) N (P k) (P (k + 1)) (X k)):=HR.out k hlt
    have hp7:P (k + 1)<=700:=HPP.out (k + 1) (by omega)
    clear hph hu
    go_wp2_with (first
     | (go_at_call 24;refine (HRK.out.use HB.out HS0.out HU.out).mono ?_;rintro e w1 ⟨x0,x1,x2,x6,x7,x8,y3,y4,y5,y9,b10,l10,c10,hx,rfl,hs,hk,hz⟩;have HS1:Hid (XS w lb tb ob sb N (P (k + 1)) w1):=hs;have HE1:=HidOf hx;have HO1:=HidOf hx.ones;have HZ1:Hid (wr.heap.size<=w1.heap.size):=hz;have HOW:Hid (∀ z,(Value.slice la k lc).ownBlock=some z->z<wr.heap.size):=(fun z hz=>(HL0.out.own z hz).2);have HL1:Hid (LOwn 29 11 (ExE X) w1 w.heap.size (.slice la k lc) k):=HL0.out.step (ExE.keeps X) hz (fun b h1 h2=>hk b h2 (by omega) (by omega));have HWR:Hid (w.heap.size<=wr.heap.size):=HS0.out.z;clear hs hx hk hz HS0 HL0)
     | (go_at_call 96;refine (keeps_is lb (.map (some tb)) (.map (some ob)) (.map (some sb)) (P (k + 1)) _ _ (HS1.out.alloc _).l hp7).mono ?_;rintro e w2 ⟨rfl,hw2⟩;obtain rfl:=hw2.symm)
     | (at_builtin;obtain ⟨L,ho,hE⟩:=(HL1.out.below (ExE.keeps X) ((Below.refl _ _).alloc (Nat.le_refl _) (.cells (eA x0 x1 x2 y3 y4 y5 x6 x7 x8 y9 b10 l10 c10) 29))).below (ExE.keeps X) ((Below.refl _ _).alloc (Nat.le_refl _) (.cells (eA x0 x1 x2 y3 y4 y5 x6 x7 x8 y9 b10 l10 c10) 29));refine wpList_append_own_at _ rfl (.tmp 20) (.tmp 22) 27 rfl w.heap.size 29 i0 _ 11 136 Tryz.underlying27 hi0 hz0 hz1 hz2 rfl (by decide) _ _ _ rfl ho ⟨w1.heap.size + 1,0,none⟩ 1 1 (eL x0 x1 x2 y3 y4 y5 x6 x7 x8 y9 b10 l10 c10) rfl rfl (new_at (by simp)) HO1.out (by unfold maxLen;omega) (by omega) (by have:=HS1.out.z;simp;omega) ?_;intro v7 w7 hown7 hgrow7 _ hat7;have HL7:Hid (LOwn 29 11 (ExE X) w7 w.heap.size v7 (k + 1)):=LOwn.push (lo1:=wr.heap.size) (ExE.keeps X) hE rfl (Ex.W.keep (fun b q=>⟨q.1,by simp;omega⟩) (fun b q=>(Below.heap_alloc _ _ _ (by simp;omega)).trans (Below.heap_alloc _ _ _ q.2)) HE1.out) HWR.out HOW.out hown7 hgrow7 hat7;have HX7:Hid (∀ z,z<w1.heap.size->z<w.heap.size->w7.heap[z]?=w1.heap[z]?):=(fun z h1 h2=>(hgrow7.block z (by simp;omega) (fun e=>by have:=(HL1.out.own z e.symm).1;omega)).trans ((Below.heap_alloc _ _ _ (by simp;omega)).trans (Below.heap_alloc _ _ _ h1)));have HS7:Hid (XS w lb tb ob sb N (P (k + 1)) w7):=(by have hz1:=HS1.out.z;exact ⟨(HX7.out lb (by omega) hll).trans HS1.out.l,HS1.out.s.keep (HX7.out sb (by omega) hsl),Nat.le_trans hz1 (Nat.le_trans (by simp;omega) hgrow7.size),hgrow7.os.trans HS1.out.os,hgrow7.tape.trans HS1.out.tape,hgrow7.output.trans HS1.out.output,fun b h0 h1 h2=>(HX7.out b (by omega) h0).trans (HS1.out.k b h0 h1 h2)⟩);clear ho hE hown7 hgrow7 hat7 HL1 HX7))
    go_roundw
    case rel=>exact ⟨k + 1,by omega,by go_num,HS7.out,HL7.out⟩
    case measure=>simp [intOf];omega
  · have hki:¬ ((k:Int)<(n:Int)):=by omega
    obtain rfl:k=n:=by omega
    go_wp2
    go_ret
    exact ⟨_,rfl,HL0.out,HS0.out⟩
open Go.RowKit Go.WideShapes
theorem field_fn (y:ByteArray) (a:Int) (W:World):Sem.run Tryz.prog (Instr.field 81 (.agg #[vS y,vI a]) 0) W=.ok (vS y) W:=by
 first
  | rfl
  | simp [Instr.field,run_underlying Tryz.underlying81,go_sem]
def XK (w0:World) (lb tb ob sb:Nat) (N:ByteArray->Nat) (W:World):Prop:=∃ q,XS w0 lb tb ob sb N q W
theorem LOwn.lower {T:TypeId} {sz:Nat} {E:Nat->World->(Nat->Prop)->List Value->Prop} (hE:∀ i,Keeps (E i)) {w:World} {lo lo':Nat} {v:Value} {n:Nat} (h:LOwn T sz E w lo v n) (hl:lo'<=lo):LOwn T sz E w lo' v n:=by
 obtain ⟨L,h1,h2⟩:=h
 refine ⟨L,⟨h1.1,?_⟩,fun i hi=>⟨(h2 i hi).1,hE i _ _ _ _ _ (fun b q=>⟨⟨by omega,q.1.2⟩,q.2⟩) (fun _ _=>rfl) (h2 i hi).2⟩⟩
 rcases h1.2 with q | ⟨g,cap,cur,q1,q2,q3⟩
 · exact .inl q
 · exact .inr ⟨g,cap,cur,q1,by omega,q3⟩
theorem XS.drew {w0 W:World} {lb tb ob sb:Nat} {N:ByteArray->Nat} {p:Nat} (h:XS w0 lb tb ob sb N p W):XS w0 lb tb ob sb N p W.drew:=⟨h.l,h.s,h.z,h.os,h.tape,h.output,h.k⟩
theorem XK.drew {w0 W:World} {lb tb ob sb:Nat} {N:ByteArray->Nat} (h:XK w0 lb tb ob sb N W):XK w0 lb tb ob sb N W.drew:=by
 obtain ⟨q,h⟩:=h
 exact ⟨q,h.drew⟩
theorem XK.setC {w0 W:World} {lb tb ob sb r:Nat} {N:ByteArray->Nat} (h:XK w0 lb tb ob sb N W) (hr:w0.heap.size<=r) (hl:lb<w0.heap.size) (hs:sb<w0.heap.size) (k:Nat) (v:Value):XK w0 lb tb ob sb N (W.setCell ⟨r,k,none⟩ v):=by
 obtain ⟨q,h⟩:=h
 have e:∀ b,b<w0.heap.size->(W.setCell ⟨r,k,none⟩ v).heap[b]?=W.heap[b]?:=fun b hb=>Below.heap_setCell _ _ _ _ (by simp;omega)
 exact ⟨q,(e lb hl).trans h.l,h.s.keep (e sb hs),by simpa using h.z,h.os,h.tape,h.output,fun b h0 h1 h2=>(e b h0).trans (h.k b h0 h1 h2)⟩
theorem XS.put {w0 W:World} {lb tb ob sb r:Nat} {N:ByteArray->Nat} {p:Nat} (h:XS w0 lb tb ob sb N p W) (hr:w0.heap.size<=r) (hl:lb<w0.heap.size) (hs:sb<w0.heap.size) (vs:List Value):XS w0 lb tb ob sb N p (putL W r 0 vs):=by
 have hb:=putL_below (B:=W.heap.size.min r) (b:=r) (w0:=W) (Nat.min_le_right _ _) vs W 0 (Below.refl _ _)
 have hz:=h.z
 have hm:w0.heap.size<=W.heap.size.min r:=Nat.le_min.2 ⟨hz,hr⟩
 exact ⟨(hb.block lb (by omega)).trans h.l,h.s.keep (hb.block sb (by omega)),Nat.le_trans hz hb.size,hb.os.trans h.os,hb.tape.trans h.tape,hb.output.trans h.output,fun b h0 h1 h2=>(hb.block b (by omega)).trans (h.k b h0 h1 h2)⟩
open Go.RowKit Go.WideShapes
def RunF (f:Nat) (ph:Ph) (N:ByteArray->Nat) (p q:Nat) (X:Ex):Prop:=∀ (w:World) (lb tb ob sb:Nat) (S:Nat->Prop) (pb po:Nat) (u:List Value),XB w lb tb ob sb->XS w lb tb ob sb N p w->PhIn w lb sb pb po ph S u ->
 Calls Tryz.prog f #[vP lb 0,vP pb po] w fun e w'=>∃ v,X.W w' (fun b=>w.heap.size<=b/\b<w'.heap.size) v/\e=.returned (.agg v.toArray)/\XS w lb tb ob sb N q w'
theorem RunF.use {f:Nat} {ph:Ph} {N:ByteArray->Nat} {p q:Nat} {X:Ex} (h:RunF f ph N p q X) {w0 W:World} {lb tb ob sb pb po:Nat} {S:Nat->Prop} {u:List Value} (hB:XB w0 lb tb ob sb) (hX:XS w0 lb tb ob sb N p W) (hP:PhIn w0 lb sb pb po ph S u) :
 Calls Tryz.prog f #[vP lb 0,vP pb po] W fun e w'=>∃ (x0 x1 x2 x6 x7 x8:Int) (y3 y4 y5 y9:ByteArray) (b10:Option Addr) (l10 c10:Nat),X.W w' (fun b=>W.heap.size<=b/\b<w'.heap.size) (eL x0 x1 x2 y3 y4 y5 x6 x7 x8 y9 b10 l10 c10)/\e=.returned (.agg (eA x0 x1 x2 y3 y4 y5 x6 x7 x8 y9 b10 l10 c10))/\XS w0 lb tb ob sb N q w'/\(∀ b,b<W.heap.size->b≠lb->b≠sb->w'.heap[b]?=W.heap[b]?)/\W.heap.size<=w'.heap.size :=
 (h W lb tb ob sb S pb po u (hB.at hX) hX.here (hP.at hX)).mono fun e w' ⟨v,h1,h2,h3⟩=>by
  obtain ⟨x0,x1,x2,x6,x7,x8,y3,y4,y5,y9,b10,l10,c10,rfl⟩:=h1.form
  exact ⟨x0,x1,x2,x6,x7,x8,y3,y4,y5,y9,b10,l10,c10,h1,h2,hX.trans h3,h3.k,h3.z⟩
theorem XS.zero {w0 W:World} {lb tb ob sb:Nat} {N:ByteArray->Nat} {p:Nat} (h:XS w0 lb tb ob sb N p W) (hn:lb≠sb):XS w0 lb tb ob sb N p (W.setCell ⟨lb,4,none⟩ (vI 0)):=by
 have e:∀ b,b≠lb->(W.setCell ⟨lb,4,none⟩ (vI 0)).heap[b]?=W.heap[b]?:=fun b hb=>Below.heap_setCell _ _ _ _ (by simpa using hb)
 exact ⟨heap_set_same h.l 4 _,h.s.keep (e sb (Ne.symm hn)),by simpa using h.z,h.os,h.tape,h.output,fun b h0 h1 h2=>(e b h1).trans (h.k b h0 h1 h2)⟩
theorem withParts_call {n:Nat} {A:Nat->Ph} {it:It} {nm tn:ByteArray} {cn ax tk:Int} {N:ByteArray->Nat} {p q:Nat} {X:Ex} (h:RunF 104 (phN 8 it nm cn ax tk tn n A) N p q X):RunF 58 (phN 8 it nm cn ax tk tn n A) N p q X:=by
 intro w lb tb ob sb S pb po u hB hX hP
 have HB:=HidOf hB
 have HX:=HidOf hX
 have HU:=HidOf hP
 have HH:=HidOf h
 have hll:=hB.ll
 have hsl:=hB.sl
 obtain ⟨aa,ac,a10,c10',hu,_⟩:=hP.v
 have hpw:=(hP.h pb hP.s).1
 have hpl:=(hP.h pb hP.s).2.1
 have e0:=(phAt_c (hu ▸ hP.c)).c0
 clear hB hX hP h
 go_enter Tryz.func58,Tryz.ntmps58
 go_upto_region 12 with fail
 obtain ⟨W1,hW1⟩:∃ W,W=w.alloc (.cells zA 29):=⟨_,rfl⟩
 have HS1:Hid (XS w lb tb ob sb N p W1):=by rw [hW1];exact HX.out.alloc _
 have HR1:Hid (W1.heap[w.heap.size]?=some (.cells zA 29)):=by rw [hW1];exact heap_alloc_new _ _
 have hz1:w.heap.size<W1.heap.size:=(gI HR1.out).1
 rw [<- hW1]
 clear hW1 e0
 go_wp2_with (first
  | (go_at_call 104;refine (HH.out.use HB.out HS1.out HU.out).mono ?_;rintro e w2 ⟨x0,x1,x2,x6,x7,x8,y3,y4,y5,y9,b10,l10,c10,hx,rfl,hs,hk,hz⟩;have HS2:Hid (XS w lb tb ob sb N q w2):=hs;have HE2:Hid (X.W w2 (fun b=>w.heap.size + 1<=b/\b<w2.heap.size) (eL x0 x1 x2 y3 y4 y5 x6 x7 x8 y9 b10 l10 c10)):=Ex.W.keep (fun b q=>⟨by have:=hz1;omega,q.2⟩) (fun _ _=>rfl) hx;have HR2:Hid (w2.heap[w.heap.size]?=some (.cells zA 29)):=(hk w.heap.size hz1 (by omega) (by omega)).trans HR1.out;obtain ⟨z0,z1,z2,z3,z4,z5,z6,z7,z8,z9,z10,z11,z12⟩:=bk11 HR2.out;clear hs hx hk hz))
 generalize hW9:World.setCell _ _ _=W9
 have hW8:W9=putL w2 w.heap.size 0 (eL x0 x1 x2 y3 y4 y5 x6 x7 x8 y9 b10 l10 c10):=hW9.symm
 have HZ9:Hid (W9.heap[w.heap.size]?=some (.cells (eA x0 x1 x2 y3 y4 y5 x6 x7 x8 y9 b10 l10 c10) 29)):=by rw [hW8];exact putL_same HR2.out _ rfl
 have HS9:Hid (XS w lb tb ob sb N q W9):=by rw [hW8];exact HS2.out.put (Nat.le_refl _) hll hsl _
 have HE9:Hid (X.W W9 (fun b=>w.heap.size<=b/\b<W9.heap.size) (eL x0 x1 x2 y3 y4 y5 x6 x7 x8 y9 b10 l10 c10)):=by
  rw [hW8]
  have hz:=(putL_below (B:=0) (b:=w.heap.size) (w0:=w2) (Nat.zero_le _) (eL x0 x1 x2 y3 y4 y5 x6 x7 x8 y9 b10 l10 c10) w2 0 (Below.refl _ _)).size
  exact Ex.W.keep (fun b q=>⟨by omega,Nat.lt_of_lt_of_le q.2 hz⟩) (fun b q=>putL_other (by omega) _ _ _) HE2.out
 clear hW9 hW8
 obtain ⟨y0',y1',y2',y3',y4',y5',y6',y7',y8',y9',y10',_,_⟩:=bk11 HZ9.out
 exact bodyPost_ret (v:=.agg (eA x0 x1 x2 y3 y4 y5 x6 x7 x8 y9 b10 l10 c10)) (by simp [results,Tryz.results58,go_sem,y0',y1',y2',y3',y4',y5',y6',y7',y8',y9',y10']) rfl ⟨(eL x0 x1 x2 y3 y4 y5 x6 x7 x8 y9 b10 l10 c10),HE9.out,rfl,HS9.out⟩
theorem expr_call {n:Nat} {A:Nat->Ph} {it:It} {nm tn:ByteArray} {cn ax tk:Int} {N:ByteArray->Nat} {p q:Nat} {X:Ex} (hCA:∀ (W:World) (lb tb ob sb:Nat) (S:Nat->Prop) (pb po:Nat) (u:List Value),XB W lb tb ob sb->XS W lb tb ob sb N p W->PhIn W lb sb pb po (phN 8 it nm cn ax tk tn n A) S u->Calls Tryz.prog 53 #[vP lb 0,vP pb po] W fun e w'=>e=.returned (vI 0)/\Below W.heap.size W w') (h:RunF 58 (phN 8 it nm cn ax tk tn n A) N p q X):RunE (phN 8 it nm cn ax tk tn n A) N p q X:=by
 intro w lb tb ob sb S pb po u hB hX hP
 have HB:=HidOf hB
 have HX:=HidOf hX
 have HU:=HidOf hP
 have HH:=HidOf h
 have hll:=hB.ll
 have hsl:=hB.sl
 obtain ⟨aa,ac,a10,c10',hu,_⟩:=hP.v
 have hpw:=(hP.h pb hP.s).1
 have hpl:=(hP.h pb hP.s).2.1
 have CA:Hid (∀ W,XS w lb tb ob sb N p W->Calls Tryz.prog 53 #[vP lb 0,vP pb po] W fun e w'=>e=.returned (vI 0)/\Below W.heap.size W w'):=fun W hW=>hCA W lb tb ob sb S pb po u (hB.at hW) hW.here (hP.at hW)
 have HC0:Hid (∀ W,XS w lb tb ob sb N p W->W.cell? ⟨pb,po,none⟩=some (vI 8)):=fun W hW=>(phAt_c (hu ▸ (hP.at hW).c)).c0
 have hne:=hB.ls
 obtain ⟨_,_,_,_,l4,l5,l6⟩:=bk5 hX.l
 clear hB hX hP h hCA
 go_enter Tryz.func24,Tryz.ntmps24
 go_upto_region 3 with (go_at_call 53;refine (CA.out _ ?_).mono ?_;(· exact HX.out.alloc _);rintro e w1 ⟨rfl,hb1⟩;have HS0:Hid (XS w lb tb ob sb N p w1):=(HX.out.alloc _).below hb1;have HR0:Hid (w1.heap[w.heap.size]?=some (.cells zA 29)):=((hb1.block w.heap.size (by simp)).trans (heap_alloc_new _ _));obtain ⟨_,_,_,_,m4,m5,m6⟩:=bk5 HS0.out.l;clear hb1)
 obtain ⟨W1,hW1⟩:∃ W,W=w1.setCell ⟨lb,4,none⟩ (vI 0):=⟨_,rfl⟩
 have HS1:Hid (XS w lb tb ob sb N p W1):=by rw [hW1];exact HS0.out.zero hne
 have HR1:Hid (W1.heap[w.heap.size]?=some (.cells zA 29)):=by rw [hW1];exact sOth HR0.out (by omega)
 have hz1:w.heap.size<W1.heap.size:=(gI HR1.out).1
 have c0:=HC0.out W1 HS1.out
 have hpb1:pb<W1.heap.size:=by omega
 rw [<- hW1]
 clear hW1 m4 m5 m6 HS0 HR0 l4 l5
 obtain ⟨_,_,_,_,m4,m5,m6⟩:=bk5 HS1.out.l
 go_wp2_with (first
  | (go_at_call 58;refine (HH.out.use HB.out HS1.out HU.out).mono ?_;rintro e w2 ⟨x0,x1,x2,x6,x7,x8,y3,y4,y5,y9,b10,l10,c10,hx,rfl,hs,hk,hz⟩;have HS2:Hid (XS w lb tb ob sb N q w2):=hs;have HE2:Hid (X.W w2 (fun b=>w.heap.size + 1<=b/\b<w2.heap.size) (eL x0 x1 x2 y3 y4 y5 x6 x7 x8 y9 b10 l10 c10)):=Ex.W.keep (fun b q=>⟨by have:=hz1;omega,q.2⟩) (fun _ _=>rfl) hx;have HR2:Hid (w2.heap[w.heap.size]?=some (.cells zA 29)):=(hk w.heap.size hz1 (by omega) (by omega)).trans HR1.out;obtain ⟨z0,z1,z2,z3,z4,z5,z6,z7,z8,z9,z10,z11,z12⟩:=bk11 HR2.out;clear hs hx hk hz))
 generalize hW9:World.setCell _ _ _=W9
 have hW8:W9=putL w2 w.heap.size 0 (eL x0 x1 x2 y3 y4 y5 x6 x7 x8 y9 b10 l10 c10):=hW9.symm
 have HZ9:Hid (W9.heap[w.heap.size]?=some (.cells (eA x0 x1 x2 y3 y4 y5 x6 x7 x8 y9 b10 l10 c10) 29)):=by rw [hW8];exact putL_same HR2.out _ rfl
 have HS9:Hid (XS w lb tb ob sb N q W9):=by rw [hW8];exact HS2.out.put (Nat.le_refl _) hll hsl _
 have HE9:Hid (X.W W9 (fun b=>w.heap.size<=b/\b<W9.heap.size) (eL x0 x1 x2 y3 y4 y5 x6 x7 x8 y9 b10 l10 c10)):=by
  rw [hW8]
  have hz:=(putL_below (B:=0) (b:=w.heap.size) (w0:=w2) (Nat.zero_le _) (eL x0 x1 x2 y3 y4 y5 x6 x7 x8 y9 b10 l10 c10) w2 0 (Below.refl _ _)).size
  exact Ex.W.keep (fun b q=>⟨by omega,Nat.lt_of_lt_of_le q.2 hz⟩) (fun b q=>putL_other (by omega) _ _ _) HE2.out
 clear hW9 hW8
 obtain ⟨y0',y1',y2',y3',y4',y5',y6',y7',y8',y9',y10',_,_⟩:=bk11 HZ9.out
 exact bodyPost_ret (v:=.agg (eA x0 x1 x2 y3 y4 y5 x6 x7 x8 y9 b10 l10 c10)) (by simp [results,Tryz.results24,go_sem,y0',y1',y2',y3',y4',y5',y6',y7',y8',y9',y10']) rfl ⟨(eL x0 x1 x2 y3 y4 y5 x6 x7 x8 y9 b10 l10 c10),HE9.out,rfl,HS9.out⟩
open Go.RowKit Go.WideShapes
def inN (N:ByteArray->Nat) (nm:ByteArray):ByteArray->Nat:=fun y=>N y + cntE [nm,⟨#[]⟩] y
theorem txts_two {W:World} {b:Nat} {x y:ByteArray} (h:W.heap[b]?=some (.cells #[vS x,vS y] 9)):TxtsL W (vL b 0 2 2) [x,y] :=
 ⟨b,0,2,rfl,Nat.le_refl _,by decide,(gI h).1,fun i hi=>by
  have hi':i<2:=hi
  match i,hi' with
  | 0,_=>rw [World.cell?,h];rfl
  | 1,_=>rw [World.cell?,h];rfl⟩
theorem XS.turned {w0 W w':World} {lb tb ob sb:Nat} {N N':ByteArray->Nat} {p:Nat} (h:XS w0 lb tb ob sb N p W) (hn:lb≠sb) (hs:SMap w' sb N') (ht:TurnedM W w' sb):XS w0 lb tb ob sb N' p w' :=
 ⟨(ht.2.1 lb hn).trans h.l,hs,by rw [ht.1];exact h.z,ht.2.2.1.trans h.os,ht.2.2.2.1.trans h.tape,ht.2.2.2.2.trans h.output,fun b h0 h1 h2=>(ht.2.1 b h2).trans (h.k b h0 h1 h2)⟩
open Go.RowKit Go.WideShapes
theorem XK.alloc {w0 W:World} {lb tb ob sb:Nat} {N:ByteArray->Nat} (h:XK w0 lb tb ob sb N W) (o:Obj):XK w0 lb tb ob sb N (W.alloc o):=by
 obtain ⟨q,h⟩:=h
 exact ⟨q,h.alloc o⟩
structure MK (w2:World) (cs:Array Value) (W:World):Prop where
 b:Below w2.heap.size w2 W
 h:W.heap[w2.heap.size]?=some (.cells cs 29)
theorem MK.drew {w2 W:World} {cs:Array Value} (h:MK w2 cs W):MK w2 cs W.drew:=⟨h.b.drew,h.h⟩
theorem MK.new {w2:World} {cs:Array Value}:MK w2 cs (w2.alloc (.cells cs 29)):=⟨(Below.refl _ _).alloc (Nat.le_refl _) _,heap_alloc_new _ _⟩
open Go.RowKit Go.WideShapes
theorem bk3L {w:World} {b:Nat} {x y z:Value} {T:TypeId} (h:w.heap[b]?=some (.cells #[x,y,z] T)):w.cell? ⟨b,0,none⟩=some x/\w.cell? ⟨b,1,none⟩=some y/\w.cell? ⟨b,2,none⟩=some z/\b<w.heap.size :=
 ⟨by rw [World.cell?,h];rfl,by rw [World.cell?,h];rfl,by rw [World.cell?,h];rfl,(gI h).1⟩
theorem truth_is (lb:Nat) (m1 m2 m3:Value) (p:Nat) (w:World) (hl:w.heap[lb]?=some (.cells #[m1,m2,m3,vI (p:Int),vI 0] 73)) (hp:p + 1<=700) :
 Calls Tryz.prog 127 #[vP lb 0,.bool true] w fun e w'=>e=.returned (.agg (eA 1 4 1 ⟨#[]⟩ ⟨#[]⟩ ⟨#[]⟩ 0 0 0 ⟨#[]⟩ none 0 0))/\Kp lb m1 m2 m3 (p + 1) w w':=by
 have HL:=hidC hl
 obtain ⟨_,_,_,_,_,_,l6⟩:=bk5 hl
 have CM:Hid (∀ W,W.heap[lb]?=some (.cells #[m1,m2,m3,vI (p:Int),vI 0] 73)->Calls Tryz.prog 105 _ W _):=fun W hW=>lit_is lb m1 m2 m3 p ⟨4,1,⟨#[]⟩⟩ W hW hp (Nat.zero_le _)
 clear hl hp
 unfold Kp at CM ⊢
 generalize ((p + 1:Nat):Int)=q at *
 go_enter Tryz.func127,Tryz.ntmps127
 go_upto_region 4 with fail
 obtain ⟨W1,hW1⟩:∃ W,W=(w.alloc (.cells zA 29)).alloc (.cells #[vI 4,vI 1,vE] 24):=⟨_,rfl⟩
 have HL1:Hid (W1.heap[lb]?=some (.cells #[m1,m2,m3,vI (p:Int),vI 0] 73)):=by rw [hW1];exact aOld (aOld HL.out)
 have HO1:Hid (∀ b,b<w.heap.size->W1.heap[b]?=w.heap[b]?):=by
  rw [hW1]
  intro b hb
  obtain ⟨o,ho⟩:∃ o,w.heap[b]?=some o:=⟨_,Array.getElem?_eq_getElem hb⟩
  rw [ho]
  exact aOld (aOld ho)
 have HB1:Hid (Below lb w W1):=by rw [hW1];exact Below.alloc (Below.alloc (Below.refl lb w) (Nat.le_of_lt l6) _) (by simp;omega) _
 have HR1:Hid (W1.heap[w.heap.size]?=some (.cells zA 29)):=by rw [hW1];exact aOld (aNew rfl)
 have HI1:Hid (W1.heap[w.heap.size + 1]?=some (.cells #[vI 4,vI 1,vE] 24)):=by rw [hW1];exact aNew (by simp)
 have hz1:w.heap.size + 1<W1.heap.size:=(gI HI1.out).1
 rw [<- hW1]
 clear hW1
 obtain ⟨i0,i1,i2,i3⟩:=bk3L HI1.out
 go_wp2_with (go_at_call 105;refine (CM.out _ HL1.out).mono ?_;rintro e w1 ⟨rfl,hl1,ho1,hb1⟩;have HL2:=hidC hl1;have HZ1:=hidC ((ho1 w.heap.size (by omega) (by omega)).trans HR1.out);have HO2:Hid (∀ b,b<w.heap.size->b≠lb->w1.heap[b]?=w.heap[b]?):=(fun b hb hne=>(ho1 b (by omega) hne).trans (HO1.out b hb));have HB2:Hid (Below lb w w1):=Below.trans HB1.out hb1;obtain ⟨z0,z1,z2,z3,z4,z5,z6,z7,z8,z9,z10,z11,z12⟩:=bk11 HZ1.out;clear hl1 ho1 hb1)
 generalize hW2:World.setCell _ _ _=W2
 have hW3:W2=putL w1 w.heap.size 0 (eL 1 4 1 ⟨#[]⟩ ⟨#[]⟩ ⟨#[]⟩ 0 0 0 ⟨#[]⟩ none 0 0):=hW2.symm
 have HZ2:Hid (W2.heap[w.heap.size]?=some (.cells (eA 1 4 1 ⟨#[]⟩ ⟨#[]⟩ ⟨#[]⟩ 0 0 0 ⟨#[]⟩ none 0 0) 29)):=by rw [hW3];exact putL_same HZ1.out _ rfl
 have HL3:Hid (W2.heap[lb]?=some (.cells #[m1,m2,m3,vI q,vI 0] 73)):=by rw [hW3];exact (putL_other (by omega) _ _ _).trans HL2.out
 have HO3:Hid (∀ c,c<w.heap.size->c≠lb->W2.heap[c]?=w.heap[c]?):=by rw [hW3];exact fun c h1 h2=>(putL_other (by omega) _ _ _).trans (HO2.out c h1 h2)
 have HB3:Hid (Below lb w W2):=by rw [hW3];exact putL_below (B:=lb) (by omega) _ _ _ HB2.out
 clear hW2 hW3
 obtain ⟨y0,y1,y2,y3,y4,y5,y6,y7,y8,y9,y10,_,_⟩:=bk11 HZ2.out
 exact bodyPost_ret (v:=.agg (eA 1 4 1 ⟨#[]⟩ ⟨#[]⟩ ⟨#[]⟩ 0 0 0 ⟨#[]⟩ none 0 0)) (by simp [results,Tryz.results127,go_sem,y0,y1,y2,y3,y4,y5,y6,y7,y8,y9,y10]) rfl ⟨rfl,⟨HL3.out,HO3.out,HB3.out⟩⟩
theorem called_true (it:It) (cn ax tk:Int) (tn:ByteArray) (n:Nat) (A:Nat->Ph) (N:ByteArray->Nat) (p:Nat) (hp:p + 1<=700):RunF 104 (phN 8 it ⟨#[116,114,117,101]⟩ cn ax tk tn n A) N p (p + 1) (exN 1 ⟨4,1,⟨#[]⟩⟩ ⟨#[]⟩ ⟨#[]⟩ 0 0 (fun _=>.no)):=by
 intro w lb tb ob sb S pb po u hB hX hP
 have HX:=HidOf hX
 have hll:=hB.ll
 have hsl:=hB.sl
 have hls:=hB.ls
 obtain ⟨aa,ac,a10,c10',hu,_⟩:=hP.v
 have e4:=(phAt_c (hu ▸ hP.c)).c4
 have hpw:=(hP.h pb hP.s).1
 have CM:Hid (∀ W,W.heap[lb]?=some (.cells #[.map (some tb),.map (some ob),.map (some sb),vI (p:Int),vI 0] 73)->Calls Tryz.prog 127 _ W _):=fun W hW=>truth_is lb _ _ _ p W hW hp
 clear hP hB hX
 go_enter Tryz.func104,Tryz.ntmps104
 go_upto_region 3 with fail
 obtain ⟨W1,hW1⟩:∃ W,W=w.alloc (.cells zA 29):=⟨_,rfl⟩
 have HS1:Hid (XS w lb tb ob sb N p W1):=by rw [hW1];exact HX.out.alloc _
 have HR1:Hid (W1.heap[w.heap.size]?=some (.cells zA 29)):=by rw [hW1];exact heap_alloc_new _ _
 have hz1:w.heap.size<W1.heap.size:=(gI HR1.out).1
 rw [<- hW1]
 clear hW1
 go_wp2_with (go_at_call 127;refine (CM.out _ HS1.out.l).mono ?_;rintro e w2 ⟨rfl,hk⟩;have HS2:Hid (XS w lb tb ob sb N (p + 1) w2):=HS1.out.trans (HS1.out.here.ofKp hls hk);have HR2:Hid (w2.heap[w.heap.size]?=some (.cells zA 29)):=(hk.2.1 w.heap.size hz1 (by omega)).trans HR1.out;obtain ⟨z0,z1,z2,z3,z4,z5,z6,z7,z8,z9,z10,z11,z12⟩:=bk11 HR2.out;clear hk)
 generalize hW9:World.setCell _ _ _=W9
 have hW8:W9=putL w2 w.heap.size 0 (eL 1 4 1 ⟨#[]⟩ ⟨#[]⟩ ⟨#[]⟩ 0 0 0 ⟨#[]⟩ none 0 0):=hW9.symm
 have HZ9:Hid (W9.heap[w.heap.size]?=some (.cells (eA 1 4 1 ⟨#[]⟩ ⟨#[]⟩ ⟨#[]⟩ 0 0 0 ⟨#[]⟩ none 0 0) 29)):=by rw [hW8];exact putL_same HR2.out _ rfl
 have HS9:Hid (XS w lb tb ob sb N (p + 1) W9):=by rw [hW8];exact HS2.out.put (Nat.le_refl _) hll hsl _
 clear hW9 hW8
 obtain ⟨y0',y1',y2',y3',y4',y5',y6',y7',y8',y9',y10',_,_⟩:=bk11 HZ9.out
 exact bodyPost_ret (v:=.agg (eA 1 4 1 ⟨#[]⟩ ⟨#[]⟩ ⟨#[]⟩ 0 0 0 ⟨#[]⟩ none 0 0)) (by simp [results,Tryz.results104,go_sem,y0',y1',y2',y3',y4',y5',y6',y7',y8',y9',y10']) rfl ⟨(eL 1 4 1 ⟨#[]⟩ ⟨#[]⟩ ⟨#[]⟩ 0 0 0 ⟨#[]⟩ none 0 0),⟨none,0,rfl,⟨by decide,by decide,by decide⟩,Nat.le_refl _,by decide,fun h=>absurd h (by decide)⟩,rfl,HS9.out⟩
open Go.RowKit Go.WideShapes
theorem alone_forP {nm:ByteArray} {n:Int} {ph:Ph} {N:ByteArray->Nat} {p:Nat} (hs:nm.size<=maxLen) (hc:clF 1 (fun _=>1) (fun _=>nm) (fun _=>⟨#[]⟩)=0):∀ (W:World) (lb tb ob sb:Nat) (S:Nat->Prop) (pb po:Nat) (u:List Value),XB W lb tb ob sb->XS W lb tb ob sb N p W->PhIn W lb sb pb po (forP nm n ph) S u->Calls Tryz.prog 53 #[vP lb 0,vP pb po] W fun e w'=>e=.returned (vI 0)/\Below W.heap.size W w':=by
 intro W lb tb ob sb S pb po u hB hX hP
 obtain ⟨aa,ac,a10,cc,hu,h1,h2,h3,h4,h5,h6⟩:=hP.v
 obtain ⟨cb,co,rfl,hS,hcl⟩:=h6 (by decide)
 obtain ⟨u',k1,k2⟩:=hcl 0 (by decide)
 have e0:=k1 0 (by simp)
 have e1:=k1 1 (by simp)
 have e2:=k1 2 (by simp)
 have h:=alone_flwor lb pb po ⟨0,0,⟨#[]⟩⟩ ⟨#[]⟩ 0 0 0 ⟨#[]⟩ aa ac cb co 1 cc (fun _=>1) (fun _=>nm) (fun _=>⟨#[]⟩) W (phAt_c (hu ▸ hP.c)) (hP.h pb hP.s).1 h2 h4 (fun i hi=>by
  obtain rfl:i=0:=by omega
  exact ⟨e0,e1,e2,hs,by decide⟩) (hP.h cb hS).1
 rw [hc] at h
 exact h
theorem expr_for {nm:ByteArray} {n:Int} {ph:Ph} {N:ByteArray->Nat} {p q:Nat} {X:Ex} (hCA:∀ (W:World) (lb tb ob sb:Nat) (S:Nat->Prop) (pb po:Nat) (u:List Value),XB W lb tb ob sb->XS W lb tb ob sb N p W->PhIn W lb sb pb po (forP nm n ph) S u->Calls Tryz.prog 53 #[vP lb 0,vP pb po] W fun e w'=>e=.returned (vI 0)/\Below W.heap.size W w') (h:RunF 57 (forP nm n ph) N p q X):RunE (forP nm n ph) N p q X:=by
 intro w lb tb ob sb S pb po u hB hX hP
 have HB:=HidOf hB
 have HX:=HidOf hX
 have HU:=HidOf hP
 have HH:=HidOf h
 have hll:=hB.ll
 have hsl:=hB.sl
 obtain ⟨aa,ac,a10,c10',hu,_⟩:=hP.v
 have hpw:=(hP.h pb hP.s).1
 have hpl:=(hP.h pb hP.s).2.1
 have CA:Hid (∀ W,XS w lb tb ob sb N p W->Calls Tryz.prog 53 #[vP lb 0,vP pb po] W fun e w'=>e=.returned (vI 0)/\Below W.heap.size W w'):=fun W hW=>hCA W lb tb ob sb S pb po u (hB.at hW) hW.here (hP.at hW)
 have HC0:Hid (∀ W,XS w lb tb ob sb N p W->W.cell? ⟨pb,po,none⟩=some (vI 28)):=fun W hW=>(phAt_c (hu ▸ (hP.at hW).c)).c0
 have hne:=hB.ls
 obtain ⟨_,_,_,_,l4,l5,l6⟩:=bk5 hX.l
 clear hB hX hP h hCA
 go_enter Tryz.func24,Tryz.ntmps24
 go_upto_region 3 with (go_at_call 53;refine (CA.out _ ?_).mono ?_;(· exact HX.out.alloc _);rintro e w1 ⟨rfl,hb1⟩;have HS0:Hid (XS w lb tb ob sb N p w1):=(HX.out.alloc _).below hb1;have HR0:Hid (w1.heap[w.heap.size]?=some (.cells zA 29)):=((hb1.block w.heap.size (by simp)).trans (heap_alloc_new _ _));obtain ⟨_,_,_,_,m4,m5,m6⟩:=bk5 HS0.out.l;clear hb1)
 obtain ⟨W1,hW1⟩:∃ W,W=w1.setCell ⟨lb,4,none⟩ (vI 0):=⟨_,rfl⟩
 have HS1:Hid (XS w lb tb ob sb N p W1):=by rw [hW1];exact HS0.out.zero hne
 have HR1:Hid (W1.heap[w.heap.size]?=some (.cells zA 29)):=by rw [hW1];exact sOth HR0.out (by omega)
 have hz1:w.heap.size<W1.heap.size:=(gI HR1.out).1
 have c0:=HC0.out W1 HS1.out
 have hpb1:pb<W1.heap.size:=by omega
 rw [<- hW1]
 clear hW1 m4 m5 m6 HS0 HR0 l4 l5
 obtain ⟨_,_,_,_,m4,m5,m6⟩:=bk5 HS1.out.l
 go_wp2_with (first
  | (go_at_call 57;refine (HH.out.use HB.out HS1.out HU.out).mono ?_;rintro e w2 ⟨x0,x1,x2,x6,x7,x8,y3,y4,y5,y9,b10,l10,c10,hx,rfl,hs,hk,hz⟩;have HS2:Hid (XS w lb tb ob sb N q w2):=hs;have HE2:Hid (X.W w2 (fun b=>w.heap.size + 1<=b/\b<w2.heap.size) (eL x0 x1 x2 y3 y4 y5 x6 x7 x8 y9 b10 l10 c10)):=Ex.W.keep (fun b q=>⟨by have:=hz1;omega,q.2⟩) (fun _ _=>rfl) hx;have HR2:Hid (w2.heap[w.heap.size]?=some (.cells zA 29)):=(hk w.heap.size hz1 (by omega) (by omega)).trans HR1.out;obtain ⟨z0,z1,z2,z3,z4,z5,z6,z7,z8,z9,z10,z11,z12⟩:=bk11 HR2.out;clear hs hx hk hz))
 generalize hW9:World.setCell _ _ _=W9
 have hW8:W9=putL w2 w.heap.size 0 (eL x0 x1 x2 y3 y4 y5 x6 x7 x8 y9 b10 l10 c10):=hW9.symm
 have HZ9:Hid (W9.heap[w.heap.size]?=some (.cells (eA x0 x1 x2 y3 y4 y5 x6 x7 x8 y9 b10 l10 c10) 29)):=by rw [hW8];exact putL_same HR2.out _ rfl
 have HS9:Hid (XS w lb tb ob sb N q W9):=by rw [hW8];exact HS2.out.put (Nat.le_refl _) hll hsl _
 have HE9:Hid (X.W W9 (fun b=>w.heap.size<=b/\b<W9.heap.size) (eL x0 x1 x2 y3 y4 y5 x6 x7 x8 y9 b10 l10 c10)):=by
  rw [hW8]
  have hz:=(putL_below (B:=0) (b:=w.heap.size) (w0:=w2) (Nat.zero_le _) (eL x0 x1 x2 y3 y4 y5 x6 x7 x8 y9 b10 l10 c10) w2 0 (Below.refl _ _)).size
  exact Ex.W.keep (fun b q=>⟨by omega,Nat.lt_of_lt_of_le q.2 hz⟩) (fun b q=>putL_other (by omega) _ _ _) HE2.out
 clear hW9 hW8
 obtain ⟨y0',y1',y2',y3',y4',y5',y6',y7',y8',y9',y10',_,_⟩:=bk11 HZ9.out
 exact bodyPost_ret (v:=.agg (eA x0 x1 x2 y3 y4 y5 x6 x7 x8 y9 b10 l10 c10)) (by simp [results,Tryz.results24,go_sem,y0',y1',y2',y3',y4',y5',y6',y7',y8',y9',y10']) rfl ⟨(eL x0 x1 x2 y3 y4 y5 x6 x7 x8 y9 b10 l10 c10),HE9.out,rfl,HS9.out⟩
open Go.RowKit Go.WideShapes Go.Shelf
attribute [local go_sem] Oper.semAt_some
structure CV where
 pb:Nat
 po:Nat
 k:Int
 it:It
 nm:ByteArray
 at_:ByteArray
 n:Int
 ax:Int
 tk:Int
 tn:ByteArray
 aa:Option Addr
 am:Nat
 ac:Nat
def CV.val (x:CV):Value:=.agg #[vP x.pb x.po,vI x.k,vI x.it.kind,vI x.it.n,vS x.it.s,vS x.nm,vS x.at_,vI x.n,vI x.ax,vI x.tk,vS x.tn,.slice x.aa x.am x.ac]
structure CvAt (w:World) (b off:Nat) (x:CV):Prop where
 c0:w.cell? ⟨b,off,none⟩=some (vP x.pb x.po)
 c1:w.cell? ⟨b,off + 1,none⟩=some (vI x.k)
 c2:w.cell? ⟨b,off + 2,none⟩=some (vI x.it.kind)
 c3:w.cell? ⟨b,off + 3,none⟩=some (vI x.it.n)
 c4:w.cell? ⟨b,off + 4,none⟩=some (vS x.it.s)
 c5:w.cell? ⟨b,off + 5,none⟩=some (vS x.nm)
 c6:w.cell? ⟨b,off + 6,none⟩=some (vS x.at_)
 c7:w.cell? ⟨b,off + 7,none⟩=some (vI x.n)
 c8:w.cell? ⟨b,off + 8,none⟩=some (vI x.ax)
 c9:w.cell? ⟨b,off + 9,none⟩=some (vI x.tk)
 c10:w.cell? ⟨b,off + 10,none⟩=some (vS x.tn)
 c11:w.cell? ⟨b,off + 11,none⟩=some (.slice x.aa x.am x.ac)
theorem CvAt.block {w w':World} {b off:Nat} {x:CV} (h:CvAt w b off x) (e:w'.heap[b]?=w.heap[b]?):CvAt w' b off x :=
 have e:∀ o,w'.cell? ⟨b,o,none⟩=w.cell? ⟨b,o,none⟩:=fun o=>by simp only [World.cell?,e]
 ⟨(e _).trans h.c0,(e _).trans h.c1,(e _).trans h.c2,(e _).trans h.c3,(e _).trans h.c4,(e _).trans h.c5,(e _).trans h.c6,(e _).trans h.c7,(e _).trans h.c8,(e _).trans h.c9,(e _).trans h.c10,(e _).trans h.c11⟩
def Two (B b:Nat) (w w':World):Prop:=w'.heap[B]?=w.heap[B]?/\w'.heap[b]?=w.heap[b]?
theorem Two.refl (B b:Nat) (w:World):Two B b w w:=⟨rfl,rfl⟩
theorem Two.trans {B b:Nat} {u v w:World} (h:Two B b u v) (k:Two B b v w):Two B b u w:=⟨k.1.trans h.1,k.2.trans h.2⟩
def dn (len m:Nat):List Nat:=(List.range m).map fun j=>len - 1 - j
theorem dn_succ (len m:Nat):dn len (m + 1)=dn len m ++ [len - 1 - m]:=by simp [dn,List.range_succ]
theorem dn_length (len m:Nat):(dn len m).length=m:=by simp [dn]
theorem backward1_in (F:Fence) (n:Nat) (h7:F.fn 148) (hro:F.round=none) (hn:1<=n) (l Bs b off len cap:Nat) (C:Nat->CV) (hlen:len<=1000) (J Jx:List Nat->World->Prop)
 (hY:∀ pre x W,J pre W->pre.length<len->YieldAt F (n - 1) Tryz.prog l #[vI ((x:Nat):Int),(C x).val] W fun e W' =>
  (e=.returned (.bool true)/\J (pre ++ [x]) W'/\Two Bs b W W')\/(e=.returned (.bool false)/\Jx (pre ++ [x]) W'))
 (W:World) (hBs:W.heap[Bs]?=some (.cells #[vL b off len cap] 130)) (hc:∀ j,j<len->CvAt W b (off + j * 12) (C j)) (h0:J [] W) :
 CallsIn F n Tryz.prog 148 #[.func (.yield l) #[] #[],vP Bs 0] W fun e W'=>(∃ v,e=.returned v) /\
  ((∃ ys,ys=dn len len/\J ys W')\/(∃ pre,(∃ k,k<=len/\pre=dn len k)/\Jx pre W')):=by
 have hs0:W.cell? ⟨Bs,0,none⟩=some (vL b off len cap):=by rw [Lib.cell_of_heap hBs];rfl
 have hw0:IntKind.i64.wrap ((len:Int) - 1)=(len:Int) - 1:=IntWalk.i64_in _ (by omega)
 refine callsIn_of_wp Tryz.func148 rfl h7 ?_ hro
 simp only [Tryz.ntmps148,List.size_toArray,List.length_cons,List.length_nil,Nat.reduceAdd,Nat.reduceSub,Array.replicate_succ,Array.replicate_zero,List.push_toArray,List.append_toArray,List.nil_append,List.cons_append]
 gi_wp2
 gi_loopw [3] (fun i wr=>∃ (m:Nat) (z:Int),m<=len/\i=vI z/\z=(len:Int) - 1 - m/\J (dn len m) wr/\Two Bs b W wr)
  (fun i _=>((intOf i) + 1).toNat)
 case atStart=>exact ⟨0,_,Nat.zero_le _,rfl,by simp,h0,Two.refl _ _ _⟩
 case round =>
  obtain ⟨m,z,hm,rfl,hz,hJs,hnx⟩:=hrel
  by_cases hlt:m<len
  · obtain ⟨j,hj⟩:∃ j:Nat,j=len - 1 - m:=⟨_,rfl⟩
    obtain rfl:z=(j:Int):=by omega
    have hjl:j<len:=by omega
    have hw1:IntKind.i64.wrap ((j:Int) - 1)=(j:Int) - 1:=IntWalk.i64_in _ (by omega)
    obtain ⟨fn,tmps,assign,body,hy,hR⟩:=hY _ j wr hJs (by rw [dn_length];exact hlt)
    have hs1:wr.cell? ⟨Bs,0,none⟩=some (vL b off len cap):=by rw [Lib.cell_of_heap (hnx.1.trans hBs)];rfl
    obtain ⟨c0,c1,c2,c3,c4,c5,c6,c7,c8,c9,c10,c11⟩:=(hc j hjl).block hnx.2
    simp only [CV.val] at hy
    have HJ:=hidC hj
    have HZ:=hidC hz
    clear hj hz
    gi_wp2
    refine hR.mono ?_
    rintro e W3 (⟨rfl,hJ3,hk3⟩ | ⟨rfl,hJx3⟩)
    · gi_wp2
      go_roundw
      case rel=>exact ⟨m + 1,_,by omega,rfl,by have:=HZ.out;omega,by rw [dn_succ,<- HJ.out];exact hJ3,hnx.trans hk3⟩
      case measure=>simp [intOf]
    · gi_wp2
      refine bodyPost_ret (results_none rfl _ _ _) rfl ?_
      exact ⟨⟨_,rfl⟩,.inr ⟨_,⟨m + 1,by omega,rfl⟩,by rw [dn_succ,<- HJ.out];exact hJx3⟩⟩
  · obtain rfl:m=len:=by omega
    obtain rfl:z = -1:=by omega
    gi_wp2
    go_end0
    exact ⟨⟨_,rfl⟩,.inl ⟨_,rfl,hJs⟩⟩
theorem backward_is (a:Option Addr) (len cap:Nat) (w:World) :
 Calls Tryz.prog 130 #[.slice a len cap] w fun e w'=>e=.returned (.func (.func 148) #[] #[vP w.heap.size 0])/\w'=w.alloc (.cells #[.slice a len cap] 130):=by
 go_enter Tryz.func130,Tryz.ntmps130
 go_wp2
 go_ret
 exact ⟨rfl,rfl⟩
theorem backward_stops (F:Fence) (n:Nat) (h7:F.fn 148) (hro:F.round=none) (hn:1<=n) (Bs b off len cap:Nat) (C:Nat->CV) (hlen:len<=1000) (w:World) (hBs:w.heap[Bs]?=some (.cells #[vL b off len cap] 130)) (hc:∀ j,j<len->CvAt w b (off + j * 12) (C j)) (hb:b<w.heap.size) :
 SeqStopsK F n Tryz.prog 148 #[vP Bs 0] (fun x:Nat=>#[Value.int .i64 (x:Int),(C x).val]) (Two Bs b) (fun ys=>ys=dn len len) (fun _=>True) len w:=fun l J Jx W hW _ _ hY h0=>by
 refine (backward1_in F n h7 hro hn l Bs b off len cap C hlen J Jx hY W (blC hW (gI hBs).1 hBs) (fun j hj=>(hc j hj).block (hW.block b hb)) h0).mono ?_
 rintro e W' ⟨he,⟨ys,rfl,hj⟩ | ⟨pre,_,hj⟩⟩
 · exact ⟨he,.inl ⟨_,rfl,hj⟩⟩
 · exact ⟨he,.inr ⟨_,trivial,hj⟩⟩
theorem two_b {Bs b:Nat} {w:World} (h1:Bs<w.heap.size) (h2:b<w.heap.size) (W:World) (l:Nat) (o o':Obj) (hl:w.heap.size<=l) (_:W.heap[l]?=some o) (_:o.isCells=false) (_:o.isWalk=false):Two Bs b W (W.putObj l o') :=
 ⟨World.putObj_heap_other (by omega),World.putObj_heap_other (by omega)⟩
open Go.RowKit Go.WideShapes
theorem size_two {w:World} {o o2:Obj}:((w.alloc o).alloc o2).heap.size=w.heap.size + 1 + 1:=by simp
end Go.Proofs.YtmcmbdkpfcibkaaGreatDoor
