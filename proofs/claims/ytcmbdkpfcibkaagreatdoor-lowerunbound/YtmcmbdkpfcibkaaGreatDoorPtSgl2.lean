import Derived.Test.YtmcmbdkpfcibkaaGreatDoorCkSt
set_option linter.unusedVariables false
set_option maxHeartbeats 3200000
namespace Go.Proofs.YtmcmbdkpfcibkaaGreatDoor
set_option maxRecDepth 100000
open Go.RowKit
def opForA:Oper:={ dst:=some 22,op:=Op.load 65 (Operand.tmp 4),type:=65,pos:= "parse.go:136",after:=#[{ on:=5,ground:=Ground.guard }],guard:=some (5,false) }
theorem opForA_eq:opForA={ dst:=some 22,op:=Op.load 65 (Operand.tmp 4),type:=65,pos:= "parse.go:136",after:=#[{ on:=5,ground:=Ground.guard }],guard:=some (5,false) }:=rfl
def opForB:Oper:={ dst:=some 24,op:=Op.binOp BinOp.eql 65 (Operand.tmp 22) (Operand.tmp 23) 65,type:=4,pos:= "parse.go:136",after:=#[{ on:=6,ground:=Ground.data },{ on:=7,ground:=Ground.data },{ on:=5,ground:=Ground.guard }],guard:=some (5,false) }
theorem opForB_eq:opForB={ dst:=some 24,op:=Op.binOp BinOp.eql 65 (Operand.tmp 22) (Operand.tmp 23) 65,type:=4,pos:= "parse.go:136",after:=#[{ on:=6,ground:=Ground.data },{ on:=7,ground:=Ground.data },{ on:=5,ground:=Ground.guard }],guard:=some (5,false) }:=rfl
theorem single_for {pb b c:Nat} {T:List Tok} {st:Pst} {s0 s1:Pst} {p:Ph} {us vs:ByteArray} {uk un vk vn:Int} (hT:T.length<=200) (hat:st.at'<=300) (hat0:s0.at'<=300) (ho:st.opn<=100) (hop:1<=s1.opn/\s1.opn<=200) (he:enterM T st (singleB (seeM T st 0))=s0) (hu:seeM T s0 0=⟨uk,us,un⟩) (hu1:seeM T s0 1=⟨vk,vs,vn⟩) (k4:(vk == 4)=true) (y1:eqT ⟨uk,us,un⟩ ⟨1,⟨#[102,111,114]⟩,0⟩=true) (hlu:RunT pb b c T 120 #[vP pb 0] s0 s1 p):RunT pb b c T 84 #[vP pb 0] st { s1 with opn:=s1.opn - 1 } p:=by
 intro w h htb
 have HTB:Hid (RTab w pb):=htb
 clear htb
 have HLU:Hid (RunT pb b c T 120 #[vP pb 0] s0 s1 p):=hlu
 clear hlu
 have y1E:=eqT_run y1
 obtain ⟨beg,hbeg⟩:∃ x,x=singleB (seeM T st 0):=⟨_,rfl⟩
 have SB:Hid (∀ W,PaS W pb b c T st->Calls Tryz.prog 50 #[vP pb 0] W fun e w'=>e=.returned (.bool beg)/\Below W.heap.size W w'):=fun W h=>by rw [hbeg];exact singleBegins_any h hT hat
 rw [<- hbeg] at he
 clear hbeg
 have EF:=field_kind vk vn vs
 have hpl:=h.pl
 have hbl:=h.bl
 have HPW:Hid (pb<w.heap.size):=hpl
 go_enter_defers Tryz.func84,Tryz.ntmps84
 go_upto_region 1 with fail
 obtain ⟨W1,hW1⟩:∃ W,W=w.alloc (.cells (pZA 0) 44):=⟨_,rfl⟩
 have HG1:Hid (GrowA pb w W1):=by rw [hW1];exact (GrowA.refl _ _).alloc _
 have HP1:Hid (PaS W1 pb b c T st):=by rw [hW1];exact h.allocI _
 have HR1:Hid (PhZ W1 w.heap.size):=by rw [hW1];exact PhB.new w _
 rw [<- hW1]
 obtain ⟨r,hr⟩:∃ r,r=w.heap.size:=⟨_,rfl⟩
 have HRW:Hid (w.heap.size<=r):=Nat.le_of_eq hr.symm
 have hrp:r≠pb:=by omega
 have hrb:r≠b:=by omega
 rw [<- hr] at HR1 ⊢
 clear hW1 hr h hpl hbl
 go_upto_region 4 with (first
  | (go_at_call 50;(refine (SB.out _ HP1.out).mono ?_);rintro e w2 ⟨rfl,hb⟩;have HG2:=HidOf (HG1.out.below hb);have HP2:=HidOf (HP1.out.below hb);have HR2:=HidOf (HR1.out.below hb);clear hb HP1 HG1 HR1)
  | (go_at_call 49;(refine (penter_is HP2.out _ ho).mono ?_);rintro e w3 ⟨q,rfl,hl,hp,hg,hq⟩;have HG3:=HidOf (HG2.out.trans hg);have HP3:Hid (PaS w3 pb b c T s0):=(by rw [<- he];exact hp);have HR3:=HidOf (HR2.out.grow hg hrp);have HL3:Hid (Leave w3 pb q):=hl;have hrq:r≠q:=(by have k1:=HR2.out.lt;first | omega | (simp at hq;omega));clear hl hp hg hq HP2 HG2 HR2)
  | (go_at_call 81;(refine (see_lit HP3.out 1 (by omega) hT hat0 hu1).mono ?_);rintro e w4 ⟨rfl,hb⟩;have HG4:=HidOf (HG3.out.below hb);have HP4:=HidOf (HP3.out.below hb);have HR4:=HidOf (HR3.out.below hb);have HL4:=HidOf (HL3.out.below hb);clear hb HP3 HG3 HR3 HL3)
  | (go_at_call 81;(refine (see_lit HP4.out 0 (by omega) hT hat0 hu).mono ?_);rintro e w5 ⟨rfl,hb⟩;have HG5:=HidOf (HG4.out.below hb);have HP5:=HidOf (HP4.out.below hb);have HR5:=HidOf (HR4.out.below hb);have HL5:=HidOf (HL4.out.below hb);clear hb HP4 HG4 HR4 HL4))
 obtain ⟨w6,hw6⟩:∃ W,W=w5.alloc (.cells #[vI uk,vS us,vI un] 65):=⟨_,rfl⟩
 obtain ⟨x,hx⟩:∃ x,x=w5.heap.size:=⟨_,rfl⟩
 have HG6:Hid (GrowA pb w w6):=by rw [hw6];exact HG5.out.alloc _
 have HP6:Hid (PaS w6 pb b c T s0):=by rw [hw6];exact HP5.out.allocI _
 have HR6:Hid (PhZ w6 r):=by rw [hw6];exact HR5.out.allocI _
 have HL6:Hid (Leave w6 pb q):=by rw [hw6];exact HL5.out.allocI _
 have HX6:Hid (TkB w6 x #[vI uk,vS us,vI un]):=by rw [hw6,hx];exact TkB.new w5 _
 obtain ⟨c0,c1,c2⟩:=HX6.out.cells
 rw [<- hw6,<- hx]
 clear hw6 hx HG5 HP5 HR5 HL5
 have CW0:Hid (∀ W,Below w6.heap.size w6 W->Calls Tryz.prog 119 #[vS ⟨#[102,111,114]⟩] W fun e w'=>e=.returned (.agg #[vI 1,vS ⟨#[102,111,114]⟩,vI 0])/\Below w6.heap.size w6 w'):=fun W hW=>(word_is _ W).mono fun e w' ⟨k1,k2⟩=>⟨k1,hW.trans (k2.mono hW.size)⟩
 have HSS:Hid (∀ W,Below w6.heap.size w6 W->W.cell? ⟨x,0,none⟩=some (vI uk)/\W.cell? ⟨x,1,none⟩=some (vS us)/\W.cell? ⟨x,2,none⟩=some (vI un)):=fun W hb=>(HX6.out.below hb).cells
 rw [<- opForA_eq,<- opForB_eq]
 have hopForA:=opForA_eq
 have hopForB:=opForB_eq
 go_region_held3 (fun W=>W.cell? ⟨x,0,none⟩=some (vI uk)/\W.cell? ⟨x,1,none⟩=some (vS us)/\W.cell? ⟨x,2,none⟩=some (vI un))
  ((refine HSS.out _ ?_;repeat (first | exact Hid.out (by assumption) | exact Below.refl _ _ | refine Below.drew ?_)))
  (first
   | (go_at_call 119;refine (CW0.out _ ?_).mono ?_;(focus (repeat (first | exact Below.refl _ _ | refine Below.drew ?_)));rintro e w7 ⟨rfl,hb⟩;have HB7:Hid (Below w6.heap.size w6 w7):=hb;clear hb CW0))
 all_goals
  have HG7:Hid (GrowA pb w w7):=HG6.out.below HB7.out
  have HP7:Hid (PaS w7 pb b c T s0):=HP6.out.below HB7.out
  have HR7:Hid (PhZ w7 r):=HR6.out.below HB7.out
  have HL7:Hid (Leave w7 pb q):=HL6.out.below HB7.out
  have HX7:Hid (TkB w7 x #[vI uk,vS us,vI un]):=HX6.out.below HB7.out
  clear hopForA hopForB c0 c1 c2 HSS HG6 HP6 HR6 HL6 HX6 HB7
  go_wp2_with (first
   | (go_at_call 120;(first | refine (HLU.out.use HTB.out HP7.out HG7.out (show r<_ from by have k:=HR7.out.lt;first | exact k | (simp;omega))).mono ?_ | refine (HLU.out.use HTB.out (HP7.out.allocI _) (HG7.out.alloc _) (show r<_ from by have k:=HR7.out.lt;first | exact k | (simp;omega))).mono ?_ | refine (HLU.out.use HTB.out ((HP7.out.allocI _).allocI _) ((HG7.out.alloc _).alloc _) (show r<_ from by have k:=HR7.out.lt;first | exact k | (simp;omega))).mono ?_);rintro e w8 ⟨lo1,v,hlo,hv,rfl,hp,hg⟩;obtain ⟨k0_1,k1_1,k2_1,k5_1,k6_1,k7_1,s3_1,s4_1,s8_1,a9_1,a10_1,l9_1,c9_1,l10_1,c10_1,rfl⟩:=hv.form;have hlo1:=hlo.1;have hlp1:=hlo.2.1;have hlz1:=hlo.2.2;have HG8:=HidOf (HG7.out.trans hg);have HP8:Hid (PaS w8 pb b c T s1):=hp;have HR8:=HidOf (HR7.out.grow hg hrp);have HL8:=HidOf (HL7.out.grow hg);have HV1_8:Hid (Tre w8 lo1 p (pL k0_1 k1_1 k2_1 s3_1 s4_1 k5_1 k6_1 k7_1 s8_1 a9_1 l9_1 c9_1 a10_1 l10_1 c10_1)):=hv;obtain ⟨⟨y0,y1,y2,y3,y4,y5,y6,y7,y8,y9,y10⟩,z0,z1,z2,z3,z4,z5,z6,z7,z8,z9,z10⟩:=HR8.out.cells;clear hv hlo hp hg HP7 HG7 HR7 HL7))
  obtain ⟨Wd,hWd⟩:∃ W,W=(((((((((((w8.setCell ⟨r,0,none⟩ (vI k0_1)).setCell ⟨r,1,none⟩ (vI k1_1)).setCell ⟨r,2,none⟩ (vI k2_1)).setCell ⟨r,3,none⟩ (vS s3_1)).setCell ⟨r,4,none⟩ (vS s4_1)).setCell ⟨r,5,none⟩ (vI k5_1)).setCell ⟨r,6,none⟩ (vI k6_1)).setCell ⟨r,7,none⟩ (vI k7_1)).setCell ⟨r,8,none⟩ (vS s8_1)).setCell ⟨r,9,none⟩ (.slice a9_1 l9_1 c9_1)).setCell ⟨r,10,none⟩ (.slice a10_1 l10_1 c10_1)):=⟨_,rfl⟩
  have HD:Hid (PaS Wd pb b c T s1):=by
   refine HidOf ?_
   rw [hWd]
   (repeat (first | with_reducible refine PaS.setR ?_ hrp hrb _ _ | with_reducible refine PaS.allocI ?_ _ | exact HP8.out))
  have HE:Hid (GrowA pb w Wd):=by
   refine HidOf ?_
   rw [hWd]
   (repeat (first | with_reducible refine GrowA.setR ?_ HRW.out _ _ | with_reducible refine GrowA.alloc ?_ _ | exact HG8.out))
  have HQ:Hid (Leave Wd pb q):=by
   refine HidOf ?_
   rw [hWd]
   (repeat (first | with_reducible refine Leave.setR ?_ hrq _ _ | with_reducible refine Leave.allocI ?_ _ | exact HL8.out))
  have HZ:Hid (PhB Wd r (pA k0_1 k1_1 k2_1 s3_1 s4_1 k5_1 k6_1 k7_1 s8_1 a9_1 l9_1 c9_1 a10_1 l10_1 c10_1)):=by rw [hWd];exact PhB.put HR8.out
  have HT:Hid (Tre Wd w.heap.size p (pL k0_1 k1_1 k2_1 s3_1 s4_1 k5_1 k6_1 k7_1 s8_1 a9_1 l9_1 c9_1 a10_1 l10_1 c10_1)):=by
   refine HidOf ?_
   rw [hWd]
   (refine Tre.mono (lo:=lo1) ?_ (by have:=HRW.out;omega);(repeat (first | with_reducible refine Tre.setR ?_ hlo1 _ _ | with_reducible refine Tre.allocI ?_ _ | with_reducible exact HV1_8.out)))
  rw [<- hWd]
  clear hWd
  refine leaves_cons (f:=80) (args:=#[vP q 0]) (by simp) (by simp [go_sem]) ?_
  refine (pleave_is HD.out HQ.out hop .returning).mono ?_
  rintro e u' w99 ⟨rfl,rfl,hp,hg⟩
  obtain ⟨⟨u0,u1,u2,u3,u4,u5,u6,u7,u8,u9,u10⟩,_⟩:=(HZ.out.grow hg hrp).cells
  exact ⟨.agg (pA k0_1 k1_1 k2_1 s3_1 s4_1 k5_1 k6_1 k7_1 s8_1 a9_1 l9_1 c9_1 a10_1 l10_1 c10_1),by simp [results,Tryz.results84,go_sem,u0,u1,u2,u3,u4,u5,u6,u7,u8,u9,u10],⟨_,HT.out.grow hg HPW.out,rfl,hp,HE.out.trans hg⟩⟩
theorem single_let {pb b c:Nat} {T:List Tok} {st:Pst} {s0 s1:Pst} {p:Ph} {us vs:ByteArray} {uk un vk vn:Int} (hT:T.length<=200) (hat:st.at'<=300) (hat0:s0.at'<=300) (ho:st.opn<=100) (hop:1<=s1.opn/\s1.opn<=200) (he:enterM T st (singleB (seeM T st 0))=s0) (hu:seeM T s0 0=⟨uk,us,un⟩) (hu1:seeM T s0 1=⟨vk,vs,vn⟩) (k4:(vk == 4)=true) (n1:eqT ⟨uk,us,un⟩ ⟨1,⟨#[102,111,114]⟩,0⟩=false) (y2:eqT ⟨uk,us,un⟩ ⟨1,⟨#[108,101,116]⟩,0⟩=true) (hlu:RunT pb b c T 120 #[vP pb 0] s0 s1 p):RunT pb b c T 84 #[vP pb 0] st { s1 with opn:=s1.opn - 1 } p:=by
 intro w h htb
 have HTB:Hid (RTab w pb):=htb
 clear htb
 have HLU:Hid (RunT pb b c T 120 #[vP pb 0] s0 s1 p):=hlu
 clear hlu
 have n1E:=eqT_run n1
 have y2E:=eqT_run y2
 obtain ⟨beg,hbeg⟩:∃ x,x=singleB (seeM T st 0):=⟨_,rfl⟩
 have SB:Hid (∀ W,PaS W pb b c T st->Calls Tryz.prog 50 #[vP pb 0] W fun e w'=>e=.returned (.bool beg)/\Below W.heap.size W w'):=fun W h=>by rw [hbeg];exact singleBegins_any h hT hat
 rw [<- hbeg] at he
 clear hbeg
 have EF:=field_kind vk vn vs
 have hpl:=h.pl
 have hbl:=h.bl
 have HPW:Hid (pb<w.heap.size):=hpl
 go_enter_defers Tryz.func84,Tryz.ntmps84
 go_upto_region 1 with fail
 obtain ⟨W1,hW1⟩:∃ W,W=w.alloc (.cells (pZA 0) 44):=⟨_,rfl⟩
 have HG1:Hid (GrowA pb w W1):=by rw [hW1];exact (GrowA.refl _ _).alloc _
 have HP1:Hid (PaS W1 pb b c T st):=by rw [hW1];exact h.allocI _
 have HR1:Hid (PhZ W1 w.heap.size):=by rw [hW1];exact PhB.new w _
 rw [<- hW1]
 obtain ⟨r,hr⟩:∃ r,r=w.heap.size:=⟨_,rfl⟩
 have HRW:Hid (w.heap.size<=r):=Nat.le_of_eq hr.symm
 have hrp:r≠pb:=by omega
 have hrb:r≠b:=by omega
 rw [<- hr] at HR1 ⊢
 clear hW1 hr h hpl hbl
 go_upto_region 4 with (first
  | (go_at_call 50;(refine (SB.out _ HP1.out).mono ?_);rintro e w2 ⟨rfl,hb⟩;have HG2:=HidOf (HG1.out.below hb);have HP2:=HidOf (HP1.out.below hb);have HR2:=HidOf (HR1.out.below hb);clear hb HP1 HG1 HR1)
  | (go_at_call 49;(refine (penter_is HP2.out _ ho).mono ?_);rintro e w3 ⟨q,rfl,hl,hp,hg,hq⟩;have HG3:=HidOf (HG2.out.trans hg);have HP3:Hid (PaS w3 pb b c T s0):=(by rw [<- he];exact hp);have HR3:=HidOf (HR2.out.grow hg hrp);have HL3:Hid (Leave w3 pb q):=hl;have hrq:r≠q:=(by have k1:=HR2.out.lt;first | omega | (simp at hq;omega));clear hl hp hg hq HP2 HG2 HR2)
  | (go_at_call 81;(refine (see_lit HP3.out 1 (by omega) hT hat0 hu1).mono ?_);rintro e w4 ⟨rfl,hb⟩;have HG4:=HidOf (HG3.out.below hb);have HP4:=HidOf (HP3.out.below hb);have HR4:=HidOf (HR3.out.below hb);have HL4:=HidOf (HL3.out.below hb);clear hb HP3 HG3 HR3 HL3)
  | (go_at_call 81;(refine (see_lit HP4.out 0 (by omega) hT hat0 hu).mono ?_);rintro e w5 ⟨rfl,hb⟩;have HG5:=HidOf (HG4.out.below hb);have HP5:=HidOf (HP4.out.below hb);have HR5:=HidOf (HR4.out.below hb);have HL5:=HidOf (HL4.out.below hb);clear hb HP4 HG4 HR4 HL4))
 obtain ⟨w6,hw6⟩:∃ W,W=w5.alloc (.cells #[vI uk,vS us,vI un] 65):=⟨_,rfl⟩
 obtain ⟨x,hx⟩:∃ x,x=w5.heap.size:=⟨_,rfl⟩
 have HG6:Hid (GrowA pb w w6):=by rw [hw6];exact HG5.out.alloc _
 have HP6:Hid (PaS w6 pb b c T s0):=by rw [hw6];exact HP5.out.allocI _
 have HR6:Hid (PhZ w6 r):=by rw [hw6];exact HR5.out.allocI _
 have HL6:Hid (Leave w6 pb q):=by rw [hw6];exact HL5.out.allocI _
 have HX6:Hid (TkB w6 x #[vI uk,vS us,vI un]):=by rw [hw6,hx];exact TkB.new w5 _
 obtain ⟨c0,c1,c2⟩:=HX6.out.cells
 rw [<- hw6,<- hx]
 clear hw6 hx HG5 HP5 HR5 HL5
 have CW0:Hid (∀ W,Below w6.heap.size w6 W->Calls Tryz.prog 119 #[vS ⟨#[102,111,114]⟩] W fun e w'=>e=.returned (.agg #[vI 1,vS ⟨#[102,111,114]⟩,vI 0])/\Below w6.heap.size w6 w'):=fun W hW=>(word_is _ W).mono fun e w' ⟨k1,k2⟩=>⟨k1,hW.trans (k2.mono hW.size)⟩
 have CW1:Hid (∀ W,Below w6.heap.size w6 W->Calls Tryz.prog 119 #[vS ⟨#[108,101,116]⟩] W fun e w'=>e=.returned (.agg #[vI 1,vS ⟨#[108,101,116]⟩,vI 0])/\Below w6.heap.size w6 w'):=fun W hW=>(word_is _ W).mono fun e w' ⟨k1,k2⟩=>⟨k1,hW.trans (k2.mono hW.size)⟩
 have HSS:Hid (∀ W,Below w6.heap.size w6 W->W.cell? ⟨x,0,none⟩=some (vI uk)/\W.cell? ⟨x,1,none⟩=some (vS us)/\W.cell? ⟨x,2,none⟩=some (vI un)):=fun W hb=>(HX6.out.below hb).cells
 go_region_held3 (fun W=>W.cell? ⟨x,0,none⟩=some (vI uk)/\W.cell? ⟨x,1,none⟩=some (vS us)/\W.cell? ⟨x,2,none⟩=some (vI un))
  ((refine HSS.out _ ?_;repeat (first | exact Hid.out (by assumption) | exact Below.refl _ _ | refine Below.drew ?_)))
  (first
   | (go_at_call 119;refine (CW0.out _ ?_).mono ?_;(focus (repeat (first | exact Below.refl _ _ | refine Below.drew ?_)));rintro e w7 ⟨rfl,hb⟩;have HB7:Hid (Below w6.heap.size w6 w7):=hb;clear hb CW0)
   | (go_at_call 119;refine (CW1.out _ ?_).mono ?_;(focus (repeat (exact Hid.out (by assumption))));rintro e w8 ⟨rfl,hb⟩;have HB8:Hid (Below w6.heap.size w6 w8):=hb;clear hb CW1))
 have HG8:Hid (GrowA pb w w8):=HG6.out.below HB8.out
 have HP8:Hid (PaS w8 pb b c T s0):=HP6.out.below HB8.out
 have HR8:Hid (PhZ w8 r):=HR6.out.below HB8.out
 have HL8:Hid (Leave w8 pb q):=HL6.out.below HB8.out
 have HX8:Hid (TkB w8 x #[vI uk,vS us,vI un]):=HX6.out.below HB8.out
 clear  c0 c1 c2 HSS HG6 HP6 HR6 HL6 HX6 HB8
 go_wp2_with (first
  | (go_at_call 120;(first | refine (HLU.out.use HTB.out HP8.out HG8.out (show r<_ from by have k:=HR8.out.lt;first | exact k | (simp;omega))).mono ?_ | refine (HLU.out.use HTB.out (HP8.out.allocI _) (HG8.out.alloc _) (show r<_ from by have k:=HR8.out.lt;first | exact k | (simp;omega))).mono ?_ | refine (HLU.out.use HTB.out ((HP8.out.allocI _).allocI _) ((HG8.out.alloc _).alloc _) (show r<_ from by have k:=HR8.out.lt;first | exact k | (simp;omega))).mono ?_);rintro e w9 ⟨lo1,v,hlo,hv,rfl,hp,hg⟩;obtain ⟨k0_1,k1_1,k2_1,k5_1,k6_1,k7_1,s3_1,s4_1,s8_1,a9_1,a10_1,l9_1,c9_1,l10_1,c10_1,rfl⟩:=hv.form;have hlo1:=hlo.1;have hlp1:=hlo.2.1;have hlz1:=hlo.2.2;have HG9:=HidOf (HG8.out.trans hg);have HP9:Hid (PaS w9 pb b c T s1):=hp;have HR9:=HidOf (HR8.out.grow hg hrp);have HL9:=HidOf (HL8.out.grow hg);have HV1_9:Hid (Tre w9 lo1 p (pL k0_1 k1_1 k2_1 s3_1 s4_1 k5_1 k6_1 k7_1 s8_1 a9_1 l9_1 c9_1 a10_1 l10_1 c10_1)):=hv;obtain ⟨⟨y0,y1,y2,y3,y4,y5,y6,y7,y8,y9,y10⟩,z0,z1,z2,z3,z4,z5,z6,z7,z8,z9,z10⟩:=HR9.out.cells;clear hv hlo hp hg HP8 HG8 HR8 HL8))
 obtain ⟨Wd,hWd⟩:∃ W,W=(((((((((((w9.setCell ⟨r,0,none⟩ (vI k0_1)).setCell ⟨r,1,none⟩ (vI k1_1)).setCell ⟨r,2,none⟩ (vI k2_1)).setCell ⟨r,3,none⟩ (vS s3_1)).setCell ⟨r,4,none⟩ (vS s4_1)).setCell ⟨r,5,none⟩ (vI k5_1)).setCell ⟨r,6,none⟩ (vI k6_1)).setCell ⟨r,7,none⟩ (vI k7_1)).setCell ⟨r,8,none⟩ (vS s8_1)).setCell ⟨r,9,none⟩ (.slice a9_1 l9_1 c9_1)).setCell ⟨r,10,none⟩ (.slice a10_1 l10_1 c10_1)):=⟨_,rfl⟩
 have HD:Hid (PaS Wd pb b c T s1):=by
  refine HidOf ?_
  rw [hWd]
  (repeat (first | with_reducible refine PaS.setR ?_ hrp hrb _ _ | with_reducible refine PaS.allocI ?_ _ | exact HP9.out))
 have HE:Hid (GrowA pb w Wd):=by
  refine HidOf ?_
  rw [hWd]
  (repeat (first | with_reducible refine GrowA.setR ?_ HRW.out _ _ | with_reducible refine GrowA.alloc ?_ _ | exact HG9.out))
 have HQ:Hid (Leave Wd pb q):=by
  refine HidOf ?_
  rw [hWd]
  (repeat (first | with_reducible refine Leave.setR ?_ hrq _ _ | with_reducible refine Leave.allocI ?_ _ | exact HL9.out))
 have HZ:Hid (PhB Wd r (pA k0_1 k1_1 k2_1 s3_1 s4_1 k5_1 k6_1 k7_1 s8_1 a9_1 l9_1 c9_1 a10_1 l10_1 c10_1)):=by rw [hWd];exact PhB.put HR9.out
 have HT:Hid (Tre Wd w.heap.size p (pL k0_1 k1_1 k2_1 s3_1 s4_1 k5_1 k6_1 k7_1 s8_1 a9_1 l9_1 c9_1 a10_1 l10_1 c10_1)):=by
  refine HidOf ?_
  rw [hWd]
  (refine Tre.mono (lo:=lo1) ?_ (by have:=HRW.out;omega);(repeat (first | with_reducible refine Tre.setR ?_ hlo1 _ _ | with_reducible refine Tre.allocI ?_ _ | with_reducible exact HV1_9.out)))
 rw [<- hWd]
 clear hWd
 refine leaves_cons (f:=80) (args:=#[vP q 0]) (by simp) (by simp [go_sem]) ?_
 refine (pleave_is HD.out HQ.out hop .returning).mono ?_
 rintro e u' w99 ⟨rfl,rfl,hp,hg⟩
 obtain ⟨⟨u0,u1,u2,u3,u4,u5,u6,u7,u8,u9,u10⟩,_⟩:=(HZ.out.grow hg hrp).cells
 exact ⟨.agg (pA k0_1 k1_1 k2_1 s3_1 s4_1 k5_1 k6_1 k7_1 s8_1 a9_1 l9_1 c9_1 a10_1 l10_1 c10_1),by simp [results,Tryz.results84,go_sem,u0,u1,u2,u3,u4,u5,u6,u7,u8,u9,u10],⟨_,HT.out.grow hg HPW.out,rfl,hp,HE.out.trans hg⟩⟩
theorem single_some {pb b c:Nat} {T:List Tok} {st:Pst} {s0 s1:Pst} {p:Ph} {us vs:ByteArray} {uk un vk vn:Int} (hT:T.length<=200) (hat:st.at'<=300) (hat0:s0.at'<=300) (ho:st.opn<=100) (hop:1<=s1.opn/\s1.opn<=200) (he:enterM T st (singleB (seeM T st 0))=s0) (hu:seeM T s0 0=⟨uk,us,un⟩) (hu1:seeM T s0 1=⟨vk,vs,vn⟩) (k4:(vk == 4)=true) (n1:eqT ⟨uk,us,un⟩ ⟨1,⟨#[102,111,114]⟩,0⟩=false) (n2:eqT ⟨uk,us,un⟩ ⟨1,⟨#[108,101,116]⟩,0⟩=false) (y3:eqT ⟨uk,us,un⟩ ⟨1,⟨#[115,111,109,101]⟩,0⟩=true) (hlu:RunT pb b c T 121 #[vP pb 0,vI 23] s0 s1 p):RunT pb b c T 84 #[vP pb 0] st { s1 with opn:=s1.opn - 1 } p:=by
 intro w h htb
 have HTB:Hid (RTab w pb):=htb
 clear htb
 have HLU:Hid (RunT pb b c T 121 #[vP pb 0,vI 23] s0 s1 p):=hlu
 clear hlu
 have n1E:=eqT_run n1
 have n2E:=eqT_run n2
 have y3E:=eqT_run y3
 obtain ⟨beg,hbeg⟩:∃ x,x=singleB (seeM T st 0):=⟨_,rfl⟩
 have SB:Hid (∀ W,PaS W pb b c T st->Calls Tryz.prog 50 #[vP pb 0] W fun e w'=>e=.returned (.bool beg)/\Below W.heap.size W w'):=fun W h=>by rw [hbeg];exact singleBegins_any h hT hat
 rw [<- hbeg] at he
 clear hbeg
 have EF:=field_kind vk vn vs
 have hpl:=h.pl
 have hbl:=h.bl
 have HPW:Hid (pb<w.heap.size):=hpl
 go_enter_defers Tryz.func84,Tryz.ntmps84
 go_upto_region 1 with fail
 obtain ⟨W1,hW1⟩:∃ W,W=w.alloc (.cells (pZA 0) 44):=⟨_,rfl⟩
 have HG1:Hid (GrowA pb w W1):=by rw [hW1];exact (GrowA.refl _ _).alloc _
 have HP1:Hid (PaS W1 pb b c T st):=by rw [hW1];exact h.allocI _
 have HR1:Hid (PhZ W1 w.heap.size):=by rw [hW1];exact PhB.new w _
 rw [<- hW1]
 obtain ⟨r,hr⟩:∃ r,r=w.heap.size:=⟨_,rfl⟩
 have HRW:Hid (w.heap.size<=r):=Nat.le_of_eq hr.symm
 have hrp:r≠pb:=by omega
 have hrb:r≠b:=by omega
 rw [<- hr] at HR1 ⊢
 clear hW1 hr h hpl hbl
 go_upto_region 4 with (first
  | (go_at_call 50;(refine (SB.out _ HP1.out).mono ?_);rintro e w2 ⟨rfl,hb⟩;have HG2:=HidOf (HG1.out.below hb);have HP2:=HidOf (HP1.out.below hb);have HR2:=HidOf (HR1.out.below hb);clear hb HP1 HG1 HR1)
  | (go_at_call 49;(refine (penter_is HP2.out _ ho).mono ?_);rintro e w3 ⟨q,rfl,hl,hp,hg,hq⟩;have HG3:=HidOf (HG2.out.trans hg);have HP3:Hid (PaS w3 pb b c T s0):=(by rw [<- he];exact hp);have HR3:=HidOf (HR2.out.grow hg hrp);have HL3:Hid (Leave w3 pb q):=hl;have hrq:r≠q:=(by have k1:=HR2.out.lt;first | omega | (simp at hq;omega));clear hl hp hg hq HP2 HG2 HR2)
  | (go_at_call 81;(refine (see_lit HP3.out 1 (by omega) hT hat0 hu1).mono ?_);rintro e w4 ⟨rfl,hb⟩;have HG4:=HidOf (HG3.out.below hb);have HP4:=HidOf (HP3.out.below hb);have HR4:=HidOf (HR3.out.below hb);have HL4:=HidOf (HL3.out.below hb);clear hb HP3 HG3 HR3 HL3)
  | (go_at_call 81;(refine (see_lit HP4.out 0 (by omega) hT hat0 hu).mono ?_);rintro e w5 ⟨rfl,hb⟩;have HG5:=HidOf (HG4.out.below hb);have HP5:=HidOf (HP4.out.below hb);have HR5:=HidOf (HR4.out.below hb);have HL5:=HidOf (HL4.out.below hb);clear hb HP4 HG4 HR4 HL4))
 obtain ⟨w6,hw6⟩:∃ W,W=w5.alloc (.cells #[vI uk,vS us,vI un] 65):=⟨_,rfl⟩
 obtain ⟨x,hx⟩:∃ x,x=w5.heap.size:=⟨_,rfl⟩
 have HG6:Hid (GrowA pb w w6):=by rw [hw6];exact HG5.out.alloc _
 have HP6:Hid (PaS w6 pb b c T s0):=by rw [hw6];exact HP5.out.allocI _
 have HR6:Hid (PhZ w6 r):=by rw [hw6];exact HR5.out.allocI _
 have HL6:Hid (Leave w6 pb q):=by rw [hw6];exact HL5.out.allocI _
 have HX6:Hid (TkB w6 x #[vI uk,vS us,vI un]):=by rw [hw6,hx];exact TkB.new w5 _
 obtain ⟨c0,c1,c2⟩:=HX6.out.cells
 rw [<- hw6,<- hx]
 clear hw6 hx HG5 HP5 HR5 HL5
 have CW0:Hid (∀ W,Below w6.heap.size w6 W->Calls Tryz.prog 119 #[vS ⟨#[102,111,114]⟩] W fun e w'=>e=.returned (.agg #[vI 1,vS ⟨#[102,111,114]⟩,vI 0])/\Below w6.heap.size w6 w'):=fun W hW=>(word_is _ W).mono fun e w' ⟨k1,k2⟩=>⟨k1,hW.trans (k2.mono hW.size)⟩
 have CW1:Hid (∀ W,Below w6.heap.size w6 W->Calls Tryz.prog 119 #[vS ⟨#[108,101,116]⟩] W fun e w'=>e=.returned (.agg #[vI 1,vS ⟨#[108,101,116]⟩,vI 0])/\Below w6.heap.size w6 w'):=fun W hW=>(word_is _ W).mono fun e w' ⟨k1,k2⟩=>⟨k1,hW.trans (k2.mono hW.size)⟩
 have HSS:Hid (∀ W,Below w6.heap.size w6 W->W.cell? ⟨x,0,none⟩=some (vI uk)/\W.cell? ⟨x,1,none⟩=some (vS us)/\W.cell? ⟨x,2,none⟩=some (vI un)):=fun W hb=>(HX6.out.below hb).cells
 go_region_held3 (fun W=>W.cell? ⟨x,0,none⟩=some (vI uk)/\W.cell? ⟨x,1,none⟩=some (vS us)/\W.cell? ⟨x,2,none⟩=some (vI un))
  ((refine HSS.out _ ?_;repeat (first | exact Hid.out (by assumption) | exact Below.refl _ _ | refine Below.drew ?_)))
  (first
   | (go_at_call 119;refine (CW0.out _ ?_).mono ?_;(focus (repeat (first | exact Below.refl _ _ | refine Below.drew ?_)));rintro e w7 ⟨rfl,hb⟩;have HB7:Hid (Below w6.heap.size w6 w7):=hb;clear hb CW0)
   | (go_at_call 119;refine (CW1.out _ ?_).mono ?_;(focus (repeat (exact Hid.out (by assumption))));rintro e w8 ⟨rfl,hb⟩;have HB8:Hid (Below w6.heap.size w6 w8):=hb;clear hb CW1))
 have HG8:Hid (GrowA pb w w8):=HG6.out.below HB8.out
 have HP8:Hid (PaS w8 pb b c T s0):=HP6.out.below HB8.out
 have HR8:Hid (PhZ w8 r):=HR6.out.below HB8.out
 have HL8:Hid (Leave w8 pb q):=HL6.out.below HB8.out
 have HX8:Hid (TkB w8 x #[vI uk,vS us,vI un]):=HX6.out.below HB8.out
 clear  c0 c1 c2 HSS HG6 HP6 HR6 HL6 HX6 HB8
 obtain ⟨c0,c1,c2⟩:=HX8.out.cells
 have CW0:Hid (∀ W,Below w8.heap.size w8 W->Calls Tryz.prog 119 #[vS ⟨#[115,111,109,101]⟩] W fun e w'=>e=.returned (.agg #[vI 1,vS ⟨#[115,111,109,101]⟩,vI 0])/\Below w8.heap.size w8 w'):=fun W hW=>(word_is _ W).mono fun e w' ⟨k1,k2⟩=>⟨k1,hW.trans (k2.mono hW.size)⟩
 have HSS:Hid (∀ W,Below w8.heap.size w8 W->W.cell? ⟨x,0,none⟩=some (vI uk)/\W.cell? ⟨x,1,none⟩=some (vS us)/\W.cell? ⟨x,2,none⟩=some (vI un)):=fun W hb=>(HX8.out.below hb).cells
 go_upto_region 6 with fail
 go_region_held3 (fun W=>W.cell? ⟨x,0,none⟩=some (vI uk)/\W.cell? ⟨x,1,none⟩=some (vS us)/\W.cell? ⟨x,2,none⟩=some (vI un))
  ((refine HSS.out _ ?_;repeat (first | exact Hid.out (by assumption) | exact Below.refl _ _ | refine Below.drew ?_)))
  (first
   | (go_at_call 119;refine (CW0.out _ ?_).mono ?_;(focus (repeat (first | exact Below.refl _ _ | refine Below.drew ?_)));rintro e w9 ⟨rfl,hb⟩;have HB9:Hid (Below w8.heap.size w8 w9):=hb;clear hb CW0))
 have HG9:Hid (GrowA pb w w9):=HG8.out.below HB9.out
 have HP9:Hid (PaS w9 pb b c T s0):=HP8.out.below HB9.out
 have HR9:Hid (PhZ w9 r):=HR8.out.below HB9.out
 have HL9:Hid (Leave w9 pb q):=HL8.out.below HB9.out
 have HX9:Hid (TkB w9 x #[vI uk,vS us,vI un]):=HX8.out.below HB9.out
 clear  c0 c1 c2 HSS HG8 HP8 HR8 HL8 HX8 HB9
 go_wp2_with (first
  | (go_at_call 121;(first | refine (HLU.out.use HTB.out HP9.out HG9.out (show r<_ from by have k:=HR9.out.lt;first | exact k | (simp;omega))).mono ?_ | refine (HLU.out.use HTB.out (HP9.out.allocI _) (HG9.out.alloc _) (show r<_ from by have k:=HR9.out.lt;first | exact k | (simp;omega))).mono ?_ | refine (HLU.out.use HTB.out ((HP9.out.allocI _).allocI _) ((HG9.out.alloc _).alloc _) (show r<_ from by have k:=HR9.out.lt;first | exact k | (simp;omega))).mono ?_);rintro e w10 ⟨lo1,v,hlo,hv,rfl,hp,hg⟩;obtain ⟨k0_1,k1_1,k2_1,k5_1,k6_1,k7_1,s3_1,s4_1,s8_1,a9_1,a10_1,l9_1,c9_1,l10_1,c10_1,rfl⟩:=hv.form;have hlo1:=hlo.1;have hlp1:=hlo.2.1;have hlz1:=hlo.2.2;have HG10:=HidOf (HG9.out.trans hg);have HP10:Hid (PaS w10 pb b c T s1):=hp;have HR10:=HidOf (HR9.out.grow hg hrp);have HL10:=HidOf (HL9.out.grow hg);have HV1_10:Hid (Tre w10 lo1 p (pL k0_1 k1_1 k2_1 s3_1 s4_1 k5_1 k6_1 k7_1 s8_1 a9_1 l9_1 c9_1 a10_1 l10_1 c10_1)):=hv;obtain ⟨⟨y0,y1,y2,y3,y4,y5,y6,y7,y8,y9,y10⟩,z0,z1,z2,z3,z4,z5,z6,z7,z8,z9,z10⟩:=HR10.out.cells;clear hv hlo hp hg HP9 HG9 HR9 HL9))
 obtain ⟨Wd,hWd⟩:∃ W,W=(((((((((((w10.setCell ⟨r,0,none⟩ (vI k0_1)).setCell ⟨r,1,none⟩ (vI k1_1)).setCell ⟨r,2,none⟩ (vI k2_1)).setCell ⟨r,3,none⟩ (vS s3_1)).setCell ⟨r,4,none⟩ (vS s4_1)).setCell ⟨r,5,none⟩ (vI k5_1)).setCell ⟨r,6,none⟩ (vI k6_1)).setCell ⟨r,7,none⟩ (vI k7_1)).setCell ⟨r,8,none⟩ (vS s8_1)).setCell ⟨r,9,none⟩ (.slice a9_1 l9_1 c9_1)).setCell ⟨r,10,none⟩ (.slice a10_1 l10_1 c10_1)):=⟨_,rfl⟩
 have HD:Hid (PaS Wd pb b c T s1):=by
  refine HidOf ?_
  rw [hWd]
  (repeat (first | with_reducible refine PaS.setR ?_ hrp hrb _ _ | with_reducible refine PaS.allocI ?_ _ | exact HP10.out))
 have HE:Hid (GrowA pb w Wd):=by
  refine HidOf ?_
  rw [hWd]
  (repeat (first | with_reducible refine GrowA.setR ?_ HRW.out _ _ | with_reducible refine GrowA.alloc ?_ _ | exact HG10.out))
 have HQ:Hid (Leave Wd pb q):=by
  refine HidOf ?_
  rw [hWd]
  (repeat (first | with_reducible refine Leave.setR ?_ hrq _ _ | with_reducible refine Leave.allocI ?_ _ | exact HL10.out))
 have HZ:Hid (PhB Wd r (pA k0_1 k1_1 k2_1 s3_1 s4_1 k5_1 k6_1 k7_1 s8_1 a9_1 l9_1 c9_1 a10_1 l10_1 c10_1)):=by rw [hWd];exact PhB.put HR10.out
 have HT:Hid (Tre Wd w.heap.size p (pL k0_1 k1_1 k2_1 s3_1 s4_1 k5_1 k6_1 k7_1 s8_1 a9_1 l9_1 c9_1 a10_1 l10_1 c10_1)):=by
  refine HidOf ?_
  rw [hWd]
  (refine Tre.mono (lo:=lo1) ?_ (by have:=HRW.out;omega);(repeat (first | with_reducible refine Tre.setR ?_ hlo1 _ _ | with_reducible refine Tre.allocI ?_ _ | with_reducible exact HV1_10.out)))
 rw [<- hWd]
 clear hWd
 refine leaves_cons (f:=80) (args:=#[vP q 0]) (by simp) (by simp [go_sem]) ?_
 refine (pleave_is HD.out HQ.out hop .returning).mono ?_
 rintro e u' w99 ⟨rfl,rfl,hp,hg⟩
 obtain ⟨⟨u0,u1,u2,u3,u4,u5,u6,u7,u8,u9,u10⟩,_⟩:=(HZ.out.grow hg hrp).cells
 exact ⟨.agg (pA k0_1 k1_1 k2_1 s3_1 s4_1 k5_1 k6_1 k7_1 s8_1 a9_1 l9_1 c9_1 a10_1 l10_1 c10_1),by simp [results,Tryz.results84,go_sem,u0,u1,u2,u3,u4,u5,u6,u7,u8,u9,u10],⟨_,HT.out.grow hg HPW.out,rfl,hp,HE.out.trans hg⟩⟩
theorem single_bnd {pb b c:Nat} {T:List Tok} {st:Pst} {s0 s1:Pst} {p:Ph} {us vs:ByteArray} {uk un vk vn:Int} (hT:T.length<=200) (hat:st.at'<=300) (hat0:s0.at'<=300) (ho:st.opn<=100) (hop:1<=s1.opn/\s1.opn<=200) (he:enterM T st (singleB (seeM T st 0))=s0) (hu:seeM T s0 0=⟨uk,us,un⟩) (hu1:seeM T s0 1=⟨vk,vs,vn⟩) (k4:(vk == 4)=true) (n1:eqT ⟨uk,us,un⟩ ⟨1,⟨#[102,111,114]⟩,0⟩=false) (n2:eqT ⟨uk,us,un⟩ ⟨1,⟨#[108,101,116]⟩,0⟩=false) (n3:eqT ⟨uk,us,un⟩ ⟨1,⟨#[115,111,109,101]⟩,0⟩=false) (n4:eqT ⟨uk,us,un⟩ ⟨1,⟨#[101,118,101,114,121]⟩,0⟩=false) (nif:eqT ⟨uk,us,un⟩ ⟨1,⟨#[105,102]⟩,0⟩=false) (hlu:RunT pb b c T 123 #[vP pb 0,vI 0] s0 s1 p):RunT pb b c T 84 #[vP pb 0] st { s1 with opn:=s1.opn - 1 } p:=by
 intro w h htb
 have HTB:Hid (RTab w pb):=htb
 clear htb
 have HLU:Hid (RunT pb b c T 123 #[vP pb 0,vI 0] s0 s1 p):=hlu
 clear hlu
 have n1E:=eqT_run n1
 have n2E:=eqT_run n2
 have n3E:=eqT_run n3
 have n4E:=eqT_run n4
 have nifE:=eqT_run nif
 obtain ⟨beg,hbeg⟩:∃ x,x=singleB (seeM T st 0):=⟨_,rfl⟩
 have SB:Hid (∀ W,PaS W pb b c T st->Calls Tryz.prog 50 #[vP pb 0] W fun e w'=>e=.returned (.bool beg)/\Below W.heap.size W w'):=fun W h=>by rw [hbeg];exact singleBegins_any h hT hat
 rw [<- hbeg] at he
 clear hbeg
 have EF:=field_kind vk vn vs
 have hpl:=h.pl
 have hbl:=h.bl
 have HPW:Hid (pb<w.heap.size):=hpl
 go_enter_defers Tryz.func84,Tryz.ntmps84
 go_upto_region 1 with fail
 obtain ⟨W1,hW1⟩:∃ W,W=w.alloc (.cells (pZA 0) 44):=⟨_,rfl⟩
 have HG1:Hid (GrowA pb w W1):=by rw [hW1];exact (GrowA.refl _ _).alloc _
 have HP1:Hid (PaS W1 pb b c T st):=by rw [hW1];exact h.allocI _
 have HR1:Hid (PhZ W1 w.heap.size):=by rw [hW1];exact PhB.new w _
 rw [<- hW1]
 obtain ⟨r,hr⟩:∃ r,r=w.heap.size:=⟨_,rfl⟩
 have HRW:Hid (w.heap.size<=r):=Nat.le_of_eq hr.symm
 have hrp:r≠pb:=by omega
 have hrb:r≠b:=by omega
 rw [<- hr] at HR1 ⊢
 clear hW1 hr h hpl hbl
 go_upto_region 4 with (first
  | (go_at_call 50;(refine (SB.out _ HP1.out).mono ?_);rintro e w2 ⟨rfl,hb⟩;have HG2:=HidOf (HG1.out.below hb);have HP2:=HidOf (HP1.out.below hb);have HR2:=HidOf (HR1.out.below hb);clear hb HP1 HG1 HR1)
  | (go_at_call 49;(refine (penter_is HP2.out _ ho).mono ?_);rintro e w3 ⟨q,rfl,hl,hp,hg,hq⟩;have HG3:=HidOf (HG2.out.trans hg);have HP3:Hid (PaS w3 pb b c T s0):=(by rw [<- he];exact hp);have HR3:=HidOf (HR2.out.grow hg hrp);have HL3:Hid (Leave w3 pb q):=hl;have hrq:r≠q:=(by have k1:=HR2.out.lt;first | omega | (simp at hq;omega));clear hl hp hg hq HP2 HG2 HR2)
  | (go_at_call 81;(refine (see_lit HP3.out 1 (by omega) hT hat0 hu1).mono ?_);rintro e w4 ⟨rfl,hb⟩;have HG4:=HidOf (HG3.out.below hb);have HP4:=HidOf (HP3.out.below hb);have HR4:=HidOf (HR3.out.below hb);have HL4:=HidOf (HL3.out.below hb);clear hb HP3 HG3 HR3 HL3)
  | (go_at_call 81;(refine (see_lit HP4.out 0 (by omega) hT hat0 hu).mono ?_);rintro e w5 ⟨rfl,hb⟩;have HG5:=HidOf (HG4.out.below hb);have HP5:=HidOf (HP4.out.below hb);have HR5:=HidOf (HR4.out.below hb);have HL5:=HidOf (HL4.out.below hb);clear hb HP4 HG4 HR4 HL4))
 obtain ⟨w6,hw6⟩:∃ W,W=w5.alloc (.cells #[vI uk,vS us,vI un] 65):=⟨_,rfl⟩
 obtain ⟨x,hx⟩:∃ x,x=w5.heap.size:=⟨_,rfl⟩
 have HG6:Hid (GrowA pb w w6):=by rw [hw6];exact HG5.out.alloc _
 have HP6:Hid (PaS w6 pb b c T s0):=by rw [hw6];exact HP5.out.allocI _
 have HR6:Hid (PhZ w6 r):=by rw [hw6];exact HR5.out.allocI _
 have HL6:Hid (Leave w6 pb q):=by rw [hw6];exact HL5.out.allocI _
 have HX6:Hid (TkB w6 x #[vI uk,vS us,vI un]):=by rw [hw6,hx];exact TkB.new w5 _
 obtain ⟨c0,c1,c2⟩:=HX6.out.cells
 rw [<- hw6,<- hx]
 clear hw6 hx HG5 HP5 HR5 HL5
 have CW0:Hid (∀ W,Below w6.heap.size w6 W->Calls Tryz.prog 119 #[vS ⟨#[102,111,114]⟩] W fun e w'=>e=.returned (.agg #[vI 1,vS ⟨#[102,111,114]⟩,vI 0])/\Below w6.heap.size w6 w'):=fun W hW=>(word_is _ W).mono fun e w' ⟨k1,k2⟩=>⟨k1,hW.trans (k2.mono hW.size)⟩
 have CW1:Hid (∀ W,Below w6.heap.size w6 W->Calls Tryz.prog 119 #[vS ⟨#[108,101,116]⟩] W fun e w'=>e=.returned (.agg #[vI 1,vS ⟨#[108,101,116]⟩,vI 0])/\Below w6.heap.size w6 w'):=fun W hW=>(word_is _ W).mono fun e w' ⟨k1,k2⟩=>⟨k1,hW.trans (k2.mono hW.size)⟩
 have HSS:Hid (∀ W,Below w6.heap.size w6 W->W.cell? ⟨x,0,none⟩=some (vI uk)/\W.cell? ⟨x,1,none⟩=some (vS us)/\W.cell? ⟨x,2,none⟩=some (vI un)):=fun W hb=>(HX6.out.below hb).cells
 go_region_held3 (fun W=>W.cell? ⟨x,0,none⟩=some (vI uk)/\W.cell? ⟨x,1,none⟩=some (vS us)/\W.cell? ⟨x,2,none⟩=some (vI un))
  ((refine HSS.out _ ?_;repeat (first | exact Hid.out (by assumption) | exact Below.refl _ _ | refine Below.drew ?_)))
  (first
   | (go_at_call 119;refine (CW0.out _ ?_).mono ?_;(focus (repeat (first | exact Below.refl _ _ | refine Below.drew ?_)));rintro e w7 ⟨rfl,hb⟩;have HB7:Hid (Below w6.heap.size w6 w7):=hb;clear hb CW0)
   | (go_at_call 119;refine (CW1.out _ ?_).mono ?_;(focus (repeat (exact Hid.out (by assumption))));rintro e w8 ⟨rfl,hb⟩;have HB8:Hid (Below w6.heap.size w6 w8):=hb;clear hb CW1))
 have HG8:Hid (GrowA pb w w8):=HG6.out.below HB8.out
 have HP8:Hid (PaS w8 pb b c T s0):=HP6.out.below HB8.out
 have HR8:Hid (PhZ w8 r):=HR6.out.below HB8.out
 have HL8:Hid (Leave w8 pb q):=HL6.out.below HB8.out
 have HX8:Hid (TkB w8 x #[vI uk,vS us,vI un]):=HX6.out.below HB8.out
 clear  c0 c1 c2 HSS HG6 HP6 HR6 HL6 HX6 HB8
 obtain ⟨c0,c1,c2⟩:=HX8.out.cells
 have CW0:Hid (∀ W,Below w8.heap.size w8 W->Calls Tryz.prog 119 #[vS ⟨#[115,111,109,101]⟩] W fun e w'=>e=.returned (.agg #[vI 1,vS ⟨#[115,111,109,101]⟩,vI 0])/\Below w8.heap.size w8 w'):=fun W hW=>(word_is _ W).mono fun e w' ⟨k1,k2⟩=>⟨k1,hW.trans (k2.mono hW.size)⟩
 have HSS:Hid (∀ W,Below w8.heap.size w8 W->W.cell? ⟨x,0,none⟩=some (vI uk)/\W.cell? ⟨x,1,none⟩=some (vS us)/\W.cell? ⟨x,2,none⟩=some (vI un)):=fun W hb=>(HX8.out.below hb).cells
 go_upto_region 6 with fail
 go_region_held3 (fun W=>W.cell? ⟨x,0,none⟩=some (vI uk)/\W.cell? ⟨x,1,none⟩=some (vS us)/\W.cell? ⟨x,2,none⟩=some (vI un))
  ((refine HSS.out _ ?_;repeat (first | exact Hid.out (by assumption) | exact Below.refl _ _ | refine Below.drew ?_)))
  (first
   | (go_at_call 119;refine (CW0.out _ ?_).mono ?_;(focus (repeat (first | exact Below.refl _ _ | refine Below.drew ?_)));rintro e w9 ⟨rfl,hb⟩;have HB9:Hid (Below w8.heap.size w8 w9):=hb;clear hb CW0))
 have HG9:Hid (GrowA pb w w9):=HG8.out.below HB9.out
 have HP9:Hid (PaS w9 pb b c T s0):=HP8.out.below HB9.out
 have HR9:Hid (PhZ w9 r):=HR8.out.below HB9.out
 have HL9:Hid (Leave w9 pb q):=HL8.out.below HB9.out
 have HX9:Hid (TkB w9 x #[vI uk,vS us,vI un]):=HX8.out.below HB9.out
 clear  c0 c1 c2 HSS HG8 HP8 HR8 HL8 HX8 HB9
 obtain ⟨c0,c1,c2⟩:=HX9.out.cells
 have CW0:Hid (∀ W,Below w9.heap.size w9 W->Calls Tryz.prog 119 #[vS ⟨#[101,118,101,114,121]⟩] W fun e w'=>e=.returned (.agg #[vI 1,vS ⟨#[101,118,101,114,121]⟩,vI 0])/\Below w9.heap.size w9 w'):=fun W hW=>(word_is _ W).mono fun e w' ⟨k1,k2⟩=>⟨k1,hW.trans (k2.mono hW.size)⟩
 have HSS:Hid (∀ W,Below w9.heap.size w9 W->W.cell? ⟨x,0,none⟩=some (vI uk)/\W.cell? ⟨x,1,none⟩=some (vS us)/\W.cell? ⟨x,2,none⟩=some (vI un)):=fun W hb=>(HX9.out.below hb).cells
 go_upto_region 8 with fail
 go_region_held3 (fun W=>W.cell? ⟨x,0,none⟩=some (vI uk)/\W.cell? ⟨x,1,none⟩=some (vS us)/\W.cell? ⟨x,2,none⟩=some (vI un))
  ((refine HSS.out _ ?_;repeat (first | exact Hid.out (by assumption) | exact Below.refl _ _ | refine Below.drew ?_)))
  (first
   | (go_at_call 119;refine (CW0.out _ ?_).mono ?_;(focus (repeat (first | exact Below.refl _ _ | refine Below.drew ?_)));rintro e w10 ⟨rfl,hb⟩;have HB10:Hid (Below w9.heap.size w9 w10):=hb;clear hb CW0))
 have HG10:Hid (GrowA pb w w10):=HG9.out.below HB10.out
 have HP10:Hid (PaS w10 pb b c T s0):=HP9.out.below HB10.out
 have HR10:Hid (PhZ w10 r):=HR9.out.below HB10.out
 have HL10:Hid (Leave w10 pb q):=HL9.out.below HB10.out
 have HX10:Hid (TkB w10 x #[vI uk,vS us,vI un]):=HX9.out.below HB10.out
 clear  c0 c1 c2 HSS HG9 HP9 HR9 HL9 HX9 HB10
 obtain ⟨c0,c1,c2⟩:=HX10.out.cells
 have CW0:Hid (∀ W,Below w10.heap.size w10 W->Calls Tryz.prog 119 #[vS ⟨#[105,102]⟩] W fun e w'=>e=.returned (.agg #[vI 1,vS ⟨#[105,102]⟩,vI 0])/\Below w10.heap.size w10 w'):=fun W hW=>(word_is _ W).mono fun e w' ⟨k1,k2⟩=>⟨k1,hW.trans (k2.mono hW.size)⟩
 have HSS:Hid (∀ W,Below w10.heap.size w10 W->W.cell? ⟨x,0,none⟩=some (vI uk)/\W.cell? ⟨x,1,none⟩=some (vS us)/\W.cell? ⟨x,2,none⟩=some (vI un)):=fun W hb=>(HX10.out.below hb).cells
 go_upto_region 10 with fail
 rw [<- opIfA_eq,<- opIfB_eq]
 have hopIfA:=opIfA_eq
 have hopIfB:=opIfB_eq
 go_region_held3 (fun W=>W.cell? ⟨x,0,none⟩=some (vI uk)/\W.cell? ⟨x,1,none⟩=some (vS us)/\W.cell? ⟨x,2,none⟩=some (vI un))
  ((refine HSS.out _ ?_;repeat (first | exact Hid.out (by assumption) | exact Below.refl _ _ | refine Below.drew ?_)))
  (first
   | (go_at_call 119;refine (CW0.out _ ?_).mono ?_;(focus (repeat (first | exact Below.refl _ _ | refine Below.drew ?_)));rintro e w11 ⟨rfl,hb⟩;have HB11:Hid (Below w10.heap.size w10 w11):=hb;clear hb CW0))
 have HG11:Hid (GrowA pb w w11):=HG10.out.below HB11.out
 have HP11:Hid (PaS w11 pb b c T s0):=HP10.out.below HB11.out
 have HR11:Hid (PhZ w11 r):=HR10.out.below HB11.out
 have HL11:Hid (Leave w11 pb q):=HL10.out.below HB11.out
 have HX11:Hid (TkB w11 x #[vI uk,vS us,vI un]):=HX10.out.below HB11.out
 clear hopIfA hopIfB c0 c1 c2 HSS HG10 HP10 HR10 HL10 HX10 HB11
 go_wp2_with (first
  | (go_at_call 123;(first | refine (HLU.out.use HTB.out HP11.out HG11.out (show r<_ from by have k:=HR11.out.lt;first | exact k | (simp;omega))).mono ?_ | refine (HLU.out.use HTB.out (HP11.out.allocI _) (HG11.out.alloc _) (show r<_ from by have k:=HR11.out.lt;first | exact k | (simp;omega))).mono ?_ | refine (HLU.out.use HTB.out ((HP11.out.allocI _).allocI _) ((HG11.out.alloc _).alloc _) (show r<_ from by have k:=HR11.out.lt;first | exact k | (simp;omega))).mono ?_);rintro e w12 ⟨lo1,v,hlo,hv,rfl,hp,hg⟩;obtain ⟨k0_1,k1_1,k2_1,k5_1,k6_1,k7_1,s3_1,s4_1,s8_1,a9_1,a10_1,l9_1,c9_1,l10_1,c10_1,rfl⟩:=hv.form;have hlo1:=hlo.1;have hlp1:=hlo.2.1;have hlz1:=hlo.2.2;have HG12:=HidOf (HG11.out.trans hg);have HP12:Hid (PaS w12 pb b c T s1):=hp;have HR12:=HidOf (HR11.out.grow hg hrp);have HL12:=HidOf (HL11.out.grow hg);have HV1_12:Hid (Tre w12 lo1 p (pL k0_1 k1_1 k2_1 s3_1 s4_1 k5_1 k6_1 k7_1 s8_1 a9_1 l9_1 c9_1 a10_1 l10_1 c10_1)):=hv;obtain ⟨⟨y0,y1,y2,y3,y4,y5,y6,y7,y8,y9,y10⟩,z0,z1,z2,z3,z4,z5,z6,z7,z8,z9,z10⟩:=HR12.out.cells;clear hv hlo hp hg HP11 HG11 HR11 HL11))
 obtain ⟨Wd,hWd⟩:∃ W,W=(((((((((((w12.setCell ⟨r,0,none⟩ (vI k0_1)).setCell ⟨r,1,none⟩ (vI k1_1)).setCell ⟨r,2,none⟩ (vI k2_1)).setCell ⟨r,3,none⟩ (vS s3_1)).setCell ⟨r,4,none⟩ (vS s4_1)).setCell ⟨r,5,none⟩ (vI k5_1)).setCell ⟨r,6,none⟩ (vI k6_1)).setCell ⟨r,7,none⟩ (vI k7_1)).setCell ⟨r,8,none⟩ (vS s8_1)).setCell ⟨r,9,none⟩ (.slice a9_1 l9_1 c9_1)).setCell ⟨r,10,none⟩ (.slice a10_1 l10_1 c10_1)):=⟨_,rfl⟩
 have HD:Hid (PaS Wd pb b c T s1):=by
  refine HidOf ?_
  rw [hWd]
  (repeat (first | with_reducible refine PaS.setR ?_ hrp hrb _ _ | with_reducible refine PaS.allocI ?_ _ | exact HP12.out))
 have HE:Hid (GrowA pb w Wd):=by
  refine HidOf ?_
  rw [hWd]
  (repeat (first | with_reducible refine GrowA.setR ?_ HRW.out _ _ | with_reducible refine GrowA.alloc ?_ _ | exact HG12.out))
 have HQ:Hid (Leave Wd pb q):=by
  refine HidOf ?_
  rw [hWd]
  (repeat (first | with_reducible refine Leave.setR ?_ hrq _ _ | with_reducible refine Leave.allocI ?_ _ | exact HL12.out))
 have HZ:Hid (PhB Wd r (pA k0_1 k1_1 k2_1 s3_1 s4_1 k5_1 k6_1 k7_1 s8_1 a9_1 l9_1 c9_1 a10_1 l10_1 c10_1)):=by rw [hWd];exact PhB.put HR12.out
 have HT:Hid (Tre Wd w.heap.size p (pL k0_1 k1_1 k2_1 s3_1 s4_1 k5_1 k6_1 k7_1 s8_1 a9_1 l9_1 c9_1 a10_1 l10_1 c10_1)):=by
  refine HidOf ?_
  rw [hWd]
  (refine Tre.mono (lo:=lo1) ?_ (by have:=HRW.out;omega);(repeat (first | with_reducible refine Tre.setR ?_ hlo1 _ _ | with_reducible refine Tre.allocI ?_ _ | with_reducible exact HV1_12.out)))
 rw [<- hWd]
 clear hWd
 refine leaves_cons (f:=80) (args:=#[vP q 0]) (by simp) (by simp [go_sem]) ?_
 refine (pleave_is HD.out HQ.out hop .returning).mono ?_
 rintro e u' w99 ⟨rfl,rfl,hp,hg⟩
 obtain ⟨⟨u0,u1,u2,u3,u4,u5,u6,u7,u8,u9,u10⟩,_⟩:=(HZ.out.grow hg hrp).cells
 exact ⟨.agg (pA k0_1 k1_1 k2_1 s3_1 s4_1 k5_1 k6_1 k7_1 s8_1 a9_1 l9_1 c9_1 a10_1 l10_1 c10_1),by simp [results,Tryz.results84,go_sem,u0,u1,u2,u3,u4,u5,u6,u7,u8,u9,u10],⟨_,HT.out.grow hg HPW.out,rfl,hp,HE.out.trans hg⟩⟩
end Go.Proofs.YtmcmbdkpfcibkaaGreatDoor
