import Derived.Test.YtmcmbdkpfcibkaaGreatDoorRgIn
import Derived.Test.YtmcmbdkpfcibkaaGreatDoorLvD
import Derived.Test.YtmcmbdkpfcibkaaGreatDoorLcD
set_option linter.unusedVariables false
set_option maxHeartbeats 3200000
namespace Go.Proofs.YtmcmbdkpfcibkaaGreatDoor
set_option maxRecDepth 100000
open Go.RowKit Go.WideShapes Go.Shelf
theorem variable_is (lb:Nat) (m1 m2 m3:Value) (p:Nat) (nm:ByteArray) (w:World) (hl:w.heap[lb]?=some (.cells #[m1,m2,m3,vI (p:Int),vI 0] 73)) (hp:p + 1<=700) (h1:nm.size<=4000) :
 Calls Tryz.prog 106 #[vP lb 0,vS nm] w fun e w'=>e=.returned (.agg (eA 2 0 0 ⟨#[]⟩ nm ⟨#[]⟩ 0 0 0 ⟨#[]⟩ none 0 0))/\Kp lb m1 m2 m3 (p + 1) w w':=by
 have HL:=hidC hl
 obtain ⟨_,_,_,_,_,_,l6⟩:=bk5 hl
 have CM:Hid (∀ W,W.heap[lb]?=some (.cells #[m1,m2,m3,vI (p:Int),vI 0] 73)->Calls Tryz.prog 101 _ W _):=fun W hW=>made_is lb m1 m2 m3 p 2 ⟨0,0,⟨#[]⟩⟩ nm ⟨#[]⟩ 0 0 0 ⟨#[]⟩ none 0 0 none 0 0 W hW hp (Nat.zero_le _) h1 (Nat.zero_le _) (Nat.zero_le _)
 clear hl hp
 unfold Kp
 generalize ((p + 1:Nat):Int)=q at *
 go_enter Tryz.func106,Tryz.ntmps106
 go_wp2_with (go_at_call 101;refine (CM.out _ ?_).mono ?_;(· exact aOld (HL.out));rintro e w1 ⟨rfl,hl1,ho1,hb1⟩;have HL1:=hidC hl1;have HZ1:=hidC ((ho1 (w.heap.size) (by simp) (by omega)).trans (aNew rfl));have HO1:Hid (∀ b,b<w.heap.size->b≠lb->w1.heap[b]?=w.heap[b]?):=(fun b hb hne=>(by obtain ⟨o,ho⟩:∃ o,w.heap[b]?=some o:=⟨_,Array.getElem?_eq_getElem hb⟩;rw [ho];exact (ho1 b (by simp;omega) hne).trans (aOld (ho))));have HB1:Hid (Below lb w w1):=Below.trans (Below.alloc (Below.refl lb w) (Nat.le_of_lt l6) _) hb1;obtain ⟨z0,z1,z2,z3,z4,z5,z6,z7,z8,z9,z10,z11,z12⟩:=bk11 HZ1.out;clear hl1 ho1 hb1)
 generalize hW2:World.setCell _ _ _=W2
 have hW3:W2=putL w1 (w.heap.size) 0 (eL 2 0 0 ⟨#[]⟩ nm ⟨#[]⟩ 0 0 0 ⟨#[]⟩ none 0 0):=hW2.symm
 have HZ2:Hid (W2.heap[w.heap.size]?=some (.cells (eA 2 0 0 ⟨#[]⟩ nm ⟨#[]⟩ 0 0 0 ⟨#[]⟩ none 0 0) 29)):=by rw [hW3];exact putL_same HZ1.out _ rfl
 have HL2:Hid (W2.heap[lb]?=some (.cells #[m1,m2,m3,vI q,vI 0] 73)):=by rw [hW3];exact (putL_other (by omega) _ _ _).trans HL1.out
 have HO2:Hid (∀ c,c<w.heap.size->c≠lb->W2.heap[c]?=w.heap[c]?):=by rw [hW3];exact fun c h1 h2=>(putL_other (by omega) _ _ _).trans (HO1.out c h1 h2)
 have HB2:Hid (Below lb w W2):=by rw [hW3];exact putL_below (B:=lb) (by omega) _ _ _ HB1.out
 clear hW2 hW3
 obtain ⟨y0,y1,y2,y3,y4,y5,y6,y7,y8,y9,y10,_,_⟩:=bk11 HZ2.out
 exact bodyPost_ret (v:=.agg (eA 2 0 0 ⟨#[]⟩ nm ⟨#[]⟩ 0 0 0 ⟨#[]⟩ none 0 0)) (by simp [results,Tryz.results106,go_sem,y0,y1,y2,y3,y4,y5,y6,y7,y8,y9,y10]) rfl ⟨rfl,⟨HL2.out,HO2.out,HB2.out⟩⟩
def exV (nm:ByteArray):Ex:=exN 2 ⟨0,0,⟨#[]⟩⟩ nm ⟨#[]⟩ 0 0 (fun _=>.no)
def exNo:Ex:=exN 3 ⟨0,0,⟨#[]⟩⟩ ⟨#[]⟩ ⟨#[]⟩ 0 0 (fun _=>.no)
def exC (nm:ByteArray) (m:Nat) (A:Nat->Ex):Ex:=exN 8 ⟨0,0,⟨#[]⟩⟩ nm ⟨#[]⟩ 0 m A
def ex2 (X Y:Ex) (i:Nat):Ex:=if i=0 then X else Y
def ex3 (X Y Z:Ex) (i:Nat):Ex:=if i=0 then X else if i=1 then Y else Z
theorem ex_flat {w:World} {S:Nat->Prop} {k:Int} {it:It} {nm a:ByteArray} {n:Int} (s1:it.s.size<=maxLen) (s2:nm.size<=maxLen) (s3:a.size<=maxLen):(exN k it nm a n 0 (fun _=>.no)).W w S (exL k it nm a n 0 0 ⟨#[]⟩ (vN)) :=
 ⟨none,0,rfl,⟨s1,s2,s3⟩,Nat.le_refl _,by decide,fun h=>absurd h (by decide)⟩
theorem variable_X {w W:World} {lb tb ob sb:Nat} {N:ByteArray->Nat} {p:Nat} (hls:lb≠sb) (h:XS w lb tb ob sb N p W) (hp:p + 1<=700) (nm:ByteArray) (hn:nm.size<=4000) :
 Calls Tryz.prog 106 #[vP lb 0,vS nm] W fun e w'=>∃ v,e=.returned v/\(∀ w2 S,VX (exV nm) w2 S v)/\XS w lb tb ob sb N (p + 1) w'/\(∀ b,b<W.heap.size->b≠lb->b≠sb->w'.heap[b]?=W.heap[b]?)/\W.heap.size<=w'.heap.size :=
 (variable_is lb _ _ _ p nm W h.l hp hn).mono fun e w' ⟨k1,k2⟩=>⟨_,k1,fun _ _=>⟨_,rfl,ex_flat (by decide) (Nat.le_trans hn (by decide)) (by decide)⟩,h.trans (h.here.ofKp hls k2),fun b q1 q2 _=>k2.2.1 b q1 q2,k2.2.2.size⟩
theorem nothing_X {w W:World} {lb tb ob sb:Nat} {N:ByteArray->Nat} {p:Nat} (hls:lb≠sb) (h:XS w lb tb ob sb N p W) (hp:p + 1<=700) :
 Calls Tryz.prog 125 #[vP lb 0] W fun e w'=>∃ v,e=.returned v/\(∀ w2 S,VX exNo w2 S v)/\XS w lb tb ob sb N (p + 1) w'/\(∀ b,b<W.heap.size->b≠lb->b≠sb->w'.heap[b]?=W.heap[b]?)/\W.heap.size<=w'.heap.size :=
 (nothing_is lb _ _ _ p W h.l hp).mono fun e w' ⟨k1,k2⟩=>⟨_,k1,fun _ _=>⟨_,rfl,ex_flat (by decide) (by decide) (by decide)⟩,h.trans (h.here.ofKp hls k2),fun b q1 q2 _=>k2.2.1 b q1 q2,k2.2.2.size⟩
theorem call_X {w W:World} {lb tb ob sb:Nat} {N:ByteArray->Nat} {p:Nat} (hls:lb≠sb) (h:XS w lb tb ob sb N p W) (hp:p + 1<=700) (nm:ByteArray) (hn:nm.size<=4000) {S0:Nat->Prop} (hS0:∀ b,S0 b->b<W.heap.size/\b≠lb/\b≠sb) {m:Nat} {A:Nat->Ex} {aa:Option Addr} {am ac:Nat} (hv:VL m A W S0 (.slice aa am ac)) (hm:m<=maxLen) :
 Calls Tryz.prog 91 #[vP lb 0,vS nm,.slice aa am ac] W fun e w'=>∃ v,e=.returned v/\VX (exC nm m A) w' (fun b=>S0 b\/(W.heap.size<=b/\b<w'.heap.size)) v/\XS w lb tb ob sb N (p + 1) w'/\(∀ b,b<W.heap.size->b≠lb->b≠sb->w'.heap[b]?=W.heap[b]?)/\W.heap.size<=w'.heap.size :=
 (call_is lb _ _ _ p nm aa am ac W h.l hp hn).mono fun e w' ⟨k1,k2⟩=>⟨_,k1,⟨_,rfl,VL.ex (VL.kept _ _ _ _ _ _ _ (fun b q=>.inl q) (fun b q=>k2.2.1 b (hS0 b q).1 (hS0 b q).2.1) hv) hm (by decide) (Nat.le_trans hn (by decide)) (by decide)⟩,h.trans (h.here.ofKp hls k2),fun b q1 q2 _=>k2.2.1 b q1 q2,k2.2.2.size⟩
theorem let_X {w W:World} {lb tb ob sb:Nat} {N:ByteArray->Nat} {p:Nat} (hls:lb≠sb) (h:XS w lb tb ob sb N p W) (hp:p + 1<=700) (nm:ByteArray) (hn:nm.size<=4000) {S0:Nat->Prop} (hS0:∀ b,S0 b->b<W.heap.size/\b≠lb/\b≠sb) {X1 X2:Ex} {x0_1 x1_1 x2_1 x6_1 x7_1 x8_1:Int} {y3_1 y4_1 y5_1 y9_1:ByteArray} {b10_1:Option Addr} {l10_1 c10_1:Nat} {x0_2 x1_2 x2_2 x6_2 x7_2 x8_2:Int} {y3_2 y4_2 y5_2 y9_2:ByteArray} {b10_2:Option Addr} {l10_2 c10_2:Nat} (hx1:X1.W W S0 (eL x0_1 x1_1 x2_1 y3_1 y4_1 y5_1 x6_1 x7_1 x8_1 y9_1 b10_1 l10_1 c10_1)) (hx2:X2.W W S0 (eL x0_2 x1_2 x2_2 y3_2 y4_2 y5_2 x6_2 x7_2 x8_2 y9_2 b10_2 l10_2 c10_2)) :
 Calls Tryz.prog 126 #[vP lb 0,vS nm,.agg (eA x0_1 x1_1 x2_1 y3_1 y4_1 y5_1 x6_1 x7_1 x8_1 y9_1 b10_1 l10_1 c10_1),.agg (eA x0_2 x1_2 x2_2 y3_2 y4_2 y5_2 x6_2 x7_2 x8_2 y9_2 b10_2 l10_2 c10_2)] W fun e w'=>∃ v,e=.returned v/\VX (exN 4 ⟨0,0,⟨#[]⟩⟩ nm ⟨#[]⟩ 0 2 (ex2 X1 X2)) w' (fun b=>S0 b\/(W.heap.size<=b/\b<w'.heap.size)) v/\XS w lb tb ob sb N (p + 1) w'/\(∀ b,b<W.heap.size->b≠lb->b≠sb->w'.heap[b]?=W.heap[b]?)/\W.heap.size<=w'.heap.size:=by
 refine (let_is lb _ _ _ p nm x0_1 ⟨x1_1,x2_1,y3_1⟩ y4_1 y5_1 x6_1 x7_1 x8_1 y9_1 b10_1 l10_1 c10_1 x0_2 ⟨x1_2,x2_2,y3_2⟩ y4_2 y5_2 x6_2 x7_2 x8_2 y9_2 b10_2 l10_2 c10_2 W h.l hp hn).mono fun e w' ⟨k1,k2,k3⟩=>⟨_,k1,⟨_,rfl,VL.ex (n:=2) ⟨_,rfl,.inr ⟨by omega,(gI k3).1⟩,fun i hi=>?_⟩ (by decide) (by decide) (Nat.le_trans hn (by decide)) (by decide)⟩,h.trans (h.here.ofKp hls k2),fun b q1 q2 _=>k2.2.1 b q1 q2,k2.2.2.size⟩
 have hk1:X1.W w' (fun b=>S0 b\/(W.heap.size<=b/\b<w'.heap.size)) (eL x0_1 x1_1 x2_1 y3_1 y4_1 y5_1 x6_1 x7_1 x8_1 y9_1 b10_1 l10_1 c10_1):=Ex.W.keep (fun b q=>.inl q) (fun b q=>k2.2.1 b (hS0 b q).1 (hS0 b q).2.1) hx1
 have hk2:X2.W w' (fun b=>S0 b\/(W.heap.size<=b/\b<w'.heap.size)) (eL x0_2 x1_2 x2_2 y3_2 y4_2 y5_2 x6_2 x7_2 x8_2 y9_2 b10_2 l10_2 c10_2):=Ex.W.keep (fun b q=>.inl q) (fun b q=>k2.2.1 b (hS0 b q).1 (hS0 b q).2.1) hx2
 have hc:i=0\/i=1:=by omega
 rcases hc with rfl | rfl
 · refine ⟨(eL x0_1 x1_1 x2_1 y3_1 y4_1 y5_1 x6_1 x7_1 x8_1 y9_1 b10_1 l10_1 c10_1),fun j hj=>?_,hk1⟩
   have hj':j<11:=hj
   rw [World.cell?,k3]
   match j,hj' with
   | 0,_ | 1,_ | 2,_ | 3,_ | 4,_ | 5,_ | 6,_ | 7,_ | 8,_ | 9,_ | 10,_=>rfl
 · refine ⟨(eL x0_2 x1_2 x2_2 y3_2 y4_2 y5_2 x6_2 x7_2 x8_2 y9_2 b10_2 l10_2 c10_2),fun j hj=>?_,hk2⟩
   have hj':j<11:=hj
   rw [World.cell?,k3]
   match j,hj' with
   | 0,_ | 1,_ | 2,_ | 3,_ | 4,_ | 5,_ | 6,_ | 7,_ | 8,_ | 9,_ | 10,_=>rfl
theorem loop_X {w W:World} {lb tb ob sb:Nat} {N:ByteArray->Nat} {p:Nat} (hls:lb≠sb) (h:XS w lb tb ob sb N p W) (hp:p + 1<=700) (nm at':ByteArray) (hn:nm.size<=4000) (ha:at'.size<=4000) {S0:Nat->Prop} (hS0:∀ b,S0 b->b<W.heap.size/\b≠lb/\b≠sb) {X1 X2:Ex} {x0_1 x1_1 x2_1 x6_1 x7_1 x8_1:Int} {y3_1 y4_1 y5_1 y9_1:ByteArray} {b10_1:Option Addr} {l10_1 c10_1:Nat} {x0_2 x1_2 x2_2 x6_2 x7_2 x8_2:Int} {y3_2 y4_2 y5_2 y9_2:ByteArray} {b10_2:Option Addr} {l10_2 c10_2:Nat} (hx1:X1.W W S0 (eL x0_1 x1_1 x2_1 y3_1 y4_1 y5_1 x6_1 x7_1 x8_1 y9_1 b10_1 l10_1 c10_1)) (hx2:X2.W W S0 (eL x0_2 x1_2 x2_2 y3_2 y4_2 y5_2 x6_2 x7_2 x8_2 y9_2 b10_2 l10_2 c10_2)) :
 Calls Tryz.prog 92 #[vP lb 0,vS nm,vS at',.agg (eA x0_1 x1_1 x2_1 y3_1 y4_1 y5_1 x6_1 x7_1 x8_1 y9_1 b10_1 l10_1 c10_1),.agg (eA x0_2 x1_2 x2_2 y3_2 y4_2 y5_2 x6_2 x7_2 x8_2 y9_2 b10_2 l10_2 c10_2)] W fun e w'=>∃ v,e=.returned v/\VX (exN 5 ⟨0,0,⟨#[]⟩⟩ nm at' 0 2 (ex2 X1 X2)) w' (fun b=>S0 b\/(W.heap.size<=b/\b<w'.heap.size)) v/\XS w lb tb ob sb N (p + 1) w'/\(∀ b,b<W.heap.size->b≠lb->b≠sb->w'.heap[b]?=W.heap[b]?)/\W.heap.size<=w'.heap.size:=by
 refine (loop_is lb _ _ _ p nm at' x0_1 ⟨x1_1,x2_1,y3_1⟩ y4_1 y5_1 x6_1 x7_1 x8_1 y9_1 b10_1 l10_1 c10_1 x0_2 ⟨x1_2,x2_2,y3_2⟩ y4_2 y5_2 x6_2 x7_2 x8_2 y9_2 b10_2 l10_2 c10_2 W h.l hp hn ha).mono fun e w' ⟨k1,k2,k3⟩=>⟨_,k1,⟨_,rfl,VL.ex (n:=2) ⟨_,rfl,.inr ⟨by omega,(gI k3).1⟩,fun i hi=>?_⟩ (by decide) (by decide) (Nat.le_trans hn (by decide)) (Nat.le_trans ha (by decide))⟩,h.trans (h.here.ofKp hls k2),fun b q1 q2 _=>k2.2.1 b q1 q2,k2.2.2.size⟩
 have hk1:X1.W w' (fun b=>S0 b\/(W.heap.size<=b/\b<w'.heap.size)) (eL x0_1 x1_1 x2_1 y3_1 y4_1 y5_1 x6_1 x7_1 x8_1 y9_1 b10_1 l10_1 c10_1):=Ex.W.keep (fun b q=>.inl q) (fun b q=>k2.2.1 b (hS0 b q).1 (hS0 b q).2.1) hx1
 have hk2:X2.W w' (fun b=>S0 b\/(W.heap.size<=b/\b<w'.heap.size)) (eL x0_2 x1_2 x2_2 y3_2 y4_2 y5_2 x6_2 x7_2 x8_2 y9_2 b10_2 l10_2 c10_2):=Ex.W.keep (fun b q=>.inl q) (fun b q=>k2.2.1 b (hS0 b q).1 (hS0 b q).2.1) hx2
 have hc:i=0\/i=1:=by omega
 rcases hc with rfl | rfl
 · refine ⟨(eL x0_1 x1_1 x2_1 y3_1 y4_1 y5_1 x6_1 x7_1 x8_1 y9_1 b10_1 l10_1 c10_1),fun j hj=>?_,hk1⟩
   have hj':j<11:=hj
   rw [World.cell?,k3]
   match j,hj' with
   | 0,_ | 1,_ | 2,_ | 3,_ | 4,_ | 5,_ | 6,_ | 7,_ | 8,_ | 9,_ | 10,_=>rfl
 · refine ⟨(eL x0_2 x1_2 x2_2 y3_2 y4_2 y5_2 x6_2 x7_2 x8_2 y9_2 b10_2 l10_2 c10_2),fun j hj=>?_,hk2⟩
   have hj':j<11:=hj
   rw [World.cell?,k3]
   match j,hj' with
   | 0,_ | 1,_ | 2,_ | 3,_ | 4,_ | 5,_ | 6,_ | 7,_ | 8,_ | 9,_ | 10,_=>rfl
theorem cond_X {w W:World} {lb tb ob sb:Nat} {N:ByteArray->Nat} {p:Nat} (hls:lb≠sb) (h:XS w lb tb ob sb N p W) (hp:p + 1<=700)  {S0:Nat->Prop} (hS0:∀ b,S0 b->b<W.heap.size/\b≠lb/\b≠sb) {X1 X2 X3:Ex} {x0_1 x1_1 x2_1 x6_1 x7_1 x8_1:Int} {y3_1 y4_1 y5_1 y9_1:ByteArray} {b10_1:Option Addr} {l10_1 c10_1:Nat} {x0_2 x1_2 x2_2 x6_2 x7_2 x8_2:Int} {y3_2 y4_2 y5_2 y9_2:ByteArray} {b10_2:Option Addr} {l10_2 c10_2:Nat} {x0_3 x1_3 x2_3 x6_3 x7_3 x8_3:Int} {y3_3 y4_3 y5_3 y9_3:ByteArray} {b10_3:Option Addr} {l10_3 c10_3:Nat} (hx1:X1.W W S0 (eL x0_1 x1_1 x2_1 y3_1 y4_1 y5_1 x6_1 x7_1 x8_1 y9_1 b10_1 l10_1 c10_1)) (hx2:X2.W W S0 (eL x0_2 x1_2 x2_2 y3_2 y4_2 y5_2 x6_2 x7_2 x8_2 y9_2 b10_2 l10_2 c10_2)) (hx3:X3.W W S0 (eL x0_3 x1_3 x2_3 y3_3 y4_3 y5_3 x6_3 x7_3 x8_3 y9_3 b10_3 l10_3 c10_3)) :
 Calls Tryz.prog 100 #[vP lb 0,.agg (eA x0_1 x1_1 x2_1 y3_1 y4_1 y5_1 x6_1 x7_1 x8_1 y9_1 b10_1 l10_1 c10_1),.agg (eA x0_2 x1_2 x2_2 y3_2 y4_2 y5_2 x6_2 x7_2 x8_2 y9_2 b10_2 l10_2 c10_2),.agg (eA x0_3 x1_3 x2_3 y3_3 y4_3 y5_3 x6_3 x7_3 x8_3 y9_3 b10_3 l10_3 c10_3)] W fun e w'=>∃ v,e=.returned v/\VX (exN 7 ⟨0,0,⟨#[]⟩⟩ ⟨#[]⟩ ⟨#[]⟩ 0 3 (ex3 X1 X2 X3)) w' (fun b=>S0 b\/(W.heap.size<=b/\b<w'.heap.size)) v/\XS w lb tb ob sb N (p + 1) w'/\(∀ b,b<W.heap.size->b≠lb->b≠sb->w'.heap[b]?=W.heap[b]?)/\W.heap.size<=w'.heap.size:=by
 refine (conditional_is lb _ _ _ p x0_1 ⟨x1_1,x2_1,y3_1⟩ y4_1 y5_1 x6_1 x7_1 x8_1 y9_1 b10_1 l10_1 c10_1 x0_2 ⟨x1_2,x2_2,y3_2⟩ y4_2 y5_2 x6_2 x7_2 x8_2 y9_2 b10_2 l10_2 c10_2 x0_3 ⟨x1_3,x2_3,y3_3⟩ y4_3 y5_3 x6_3 x7_3 x8_3 y9_3 b10_3 l10_3 c10_3 W h.l hp ).mono fun e w' ⟨k1,k2,k3⟩=>⟨_,k1,⟨_,rfl,VL.ex (n:=3) ⟨_,rfl,.inr ⟨by omega,(gI k3).1⟩,fun i hi=>?_⟩ (by decide) (by decide) (by decide) (by decide)⟩,h.trans (h.here.ofKp hls k2),fun b q1 q2 _=>k2.2.1 b q1 q2,k2.2.2.size⟩
 have hk1:X1.W w' (fun b=>S0 b\/(W.heap.size<=b/\b<w'.heap.size)) (eL x0_1 x1_1 x2_1 y3_1 y4_1 y5_1 x6_1 x7_1 x8_1 y9_1 b10_1 l10_1 c10_1):=Ex.W.keep (fun b q=>.inl q) (fun b q=>k2.2.1 b (hS0 b q).1 (hS0 b q).2.1) hx1
 have hk2:X2.W w' (fun b=>S0 b\/(W.heap.size<=b/\b<w'.heap.size)) (eL x0_2 x1_2 x2_2 y3_2 y4_2 y5_2 x6_2 x7_2 x8_2 y9_2 b10_2 l10_2 c10_2):=Ex.W.keep (fun b q=>.inl q) (fun b q=>k2.2.1 b (hS0 b q).1 (hS0 b q).2.1) hx2
 have hk3:X3.W w' (fun b=>S0 b\/(W.heap.size<=b/\b<w'.heap.size)) (eL x0_3 x1_3 x2_3 y3_3 y4_3 y5_3 x6_3 x7_3 x8_3 y9_3 b10_3 l10_3 c10_3):=Ex.W.keep (fun b q=>.inl q) (fun b q=>k2.2.1 b (hS0 b q).1 (hS0 b q).2.1) hx3
 have hc:i=0\/i=1\/i=2:=by omega
 rcases hc with rfl | rfl | rfl
 · refine ⟨(eL x0_1 x1_1 x2_1 y3_1 y4_1 y5_1 x6_1 x7_1 x8_1 y9_1 b10_1 l10_1 c10_1),fun j hj=>?_,hk1⟩
   have hj':j<11:=hj
   rw [World.cell?,k3]
   match j,hj' with
   | 0,_ | 1,_ | 2,_ | 3,_ | 4,_ | 5,_ | 6,_ | 7,_ | 8,_ | 9,_ | 10,_=>rfl
 · refine ⟨(eL x0_2 x1_2 x2_2 y3_2 y4_2 y5_2 x6_2 x7_2 x8_2 y9_2 b10_2 l10_2 c10_2),fun j hj=>?_,hk2⟩
   have hj':j<11:=hj
   rw [World.cell?,k3]
   match j,hj' with
   | 0,_ | 1,_ | 2,_ | 3,_ | 4,_ | 5,_ | 6,_ | 7,_ | 8,_ | 9,_ | 10,_=>rfl
 · refine ⟨(eL x0_3 x1_3 x2_3 y3_3 y4_3 y5_3 x6_3 x7_3 x8_3 y9_3 b10_3 l10_3 c10_3),fun j hj=>?_,hk3⟩
   have hj':j<11:=hj
   rw [World.cell?,k3]
   match j,hj' with
   | 0,_ | 1,_ | 2,_ | 3,_ | 4,_ | 5,_ | 6,_ | 7,_ | 8,_ | 9,_ | 10,_=>rfl
end Go.Proofs.YtmcmbdkpfcibkaaGreatDoor
