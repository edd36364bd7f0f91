import Derived.Test.YtmcmbdkpfcibkaaGreatDoorPoNext
set_option linter.unusedVariables false
set_option maxHeartbeats 1600000
namespace Go.Proofs.YtmcmbdkpfcibkaaGreatDoor
set_option maxRecDepth 100000
open Go.RowKit
theorem makeBegins_eq {w:World} {pb b c:Nat} {T:List Tok} {st:Pst} (h:PaS w pb b c T st) (hT:T.length<=200) (hat:st.at'<=300) {v:Bool} (hm:mkBeg (seeM T st 0) (seeM T st 1) (seeM T st 2)=v) :
 Calls Tryz.prog 179 #[vP pb 0] w fun e w'=>e=.returned (.bool v)/\Below w.heap.size w w':=by
 have:=makeBegins_any h hT hat
 rw [hm] at this
 exact this
theorem noStep_dot {pb b c:Nat} {T:List Tok} {st:Pst} {us:ByteArray} {uk un:Int} (hT:T.length<=200) (hat:st.at'<=300) (hu:seeM T st 0=⟨uk,us,un⟩) (q2:(uk == 2)=false) (q3:(uk == 3)=false) (q4:(uk == 4)=false) (y1:eqT ⟨uk,us,un⟩ ⟨5,⟨#[46]⟩,0⟩=true):RunT pb b c T 176 #[vP pb 0] st { st with at':=st.at' + 1 } (ph0 27 ⟨0,0,⟨#[]⟩⟩ ⟨#[]⟩ 0 0 0 ⟨#[]⟩):=by
 intro w h htb
 have HTB:Hid (RTab w pb):=htb
 clear htb
 have hpl:=h.pl
 have hbl:=h.bl
 go_enter Tryz.func176,Tryz.ntmps176
 go_upto_region 1 with fail
 obtain ⟨W1,hW1⟩:∃ W,W=w.alloc (.cells (pZA 0) 44):=⟨_,rfl⟩
 have HG1:Hid (GrowA pb w W1):=by rw [hW1];exact (GrowA.refl _ _).alloc _
 have HP1:Hid (PaS W1 pb b c T st):=by rw [hW1];exact h.allocI _
 have HR1:Hid (PhZ W1 w.heap.size):=by rw [hW1];exact PhB.new w _
 rw [<- hW1]
 obtain ⟨r,hr⟩:∃ r,r=w.heap.size:=⟨_,rfl⟩
 have HRW:Hid (w.heap.size<=r):=Nat.le_of_eq hr.symm
 have hrp:r≠pb:=by omega
 have hrb:r≠b:=by omega
 rw [<- hr] at HR1 ⊢
 clear hW1 hr h hpl hbl
 go_wp2_with (first
  | (go_at_call 81;(refine (see_lit HP1.out 0 (by omega) hT hat hu).mono ?_);rintro e w2 ⟨rfl,hb⟩;have HG2:Hid (GrowA pb w w2):=(HG1.out.below hb);have HP2:Hid (PaS w2 pb b c T st):=(HP1.out.below hb);have HR2:Hid (PhZ w2 r):=(HR1.out.below hb);have hxp:w2.heap.size≠pb:=(by have:=HP2.out.pl;omega);clear hb HP1 HG1 HR1)
  | (go_at_call 82;have HNX:=HP2;refine (mark_is _ _).mono ?_;rintro e w3 ⟨rfl,hb⟩;have HG3:Hid (GrowA pb w w3):=((HG2.out.alloc _).below hb);have HP3:Hid (PaS w3 pb b c T st):=((HP2.out.allocI _).below hb);have HR3:Hid (PhZ w3 r):=((HR2.out.allocI _).below hb);have HX3:Hid (TkB w3 w2.heap.size #[vI uk,vS us,vI un]):=(TkB.new w2 #[vI uk,vS us,vI un]).below hb;clear hb HNX HP2 HG2 HR2)
  | (go_at_call 85;(refine (skip_yes HP3.out hT hat _ _ _ (by rw [hu];exact y1)).mono ?_);rintro e w4 ⟨rfl,hp,hg⟩;have HG4:Hid (GrowA pb w w4):=(HG3.out.trans hg);have HP4:Hid (PaS w4 pb b c T { st with at':=st.at' + 1 }):=hp;have HR4:Hid (PhZ w4 r):=(HR3.out.grow hg hrp);have HX4:Hid (TkB w4 w2.heap.size #[vI uk,vS us,vI un]):=(HX3.out.grow hg hxp);obtain ⟨⟨y0,y1,y2,y3,y4,y5,y6,y7,y8,y9,y10⟩,z0,z1,z2,z3,z4,z5,z6,z7,z8,z9,z10⟩:=HR4.out.cells;clear hp hg HP3 HG3 HR3 HX3))
 refine bodyPost_ret (v:=.agg (pZA 27)) (by simp [results,Tryz.results176,go_sem,y0,y1,y2,y3,y4,y5,y6,y7,y8,y9,y10]) rfl ⟨(pZ 27),?_,rfl,?_,?_⟩
 · exact tre_ph0
 · (repeat (first | with_reducible refine PaS.setR ?_ hrp hrb _ _ | with_reducible refine PaS.allocI ?_ _ | exact HP4.out))
 · (repeat (first | with_reducible refine GrowA.setR ?_ HRW.out _ _ | with_reducible refine GrowA.alloc ?_ _ | exact HG4.out))
theorem noStep_par {pb b c:Nat} {T:List Tok} {st:Pst} {us:ByteArray} {uk un:Int} {s2:Pst} {p:Ph} (hT:T.length<=200) (hat:st.at'<=300) (hu:seeM T st 0=⟨uk,us,un⟩) (q2:(uk == 2)=false) (q3:(uk == 3)=false) (q4:(uk == 4)=false) (n1:eqT ⟨uk,us,un⟩ ⟨5,⟨#[46]⟩,0⟩=false) (y2:eqT ⟨uk,us,un⟩ ⟨5,⟨#[40]⟩,0⟩=true) (hlu:RunT pb b c T 180 #[vP pb 0,.agg #[vI 5,vS ⟨#[41]⟩,vI 0]] { st with at':=st.at' + 1 } s2 p):RunT pb b c T 176 #[vP pb 0] st s2 p:=by
 intro w h htb
 have HTB:Hid (RTab w pb):=htb
 clear htb
 have HLU:Hid (RunT pb b c T 180 #[vP pb 0,.agg #[vI 5,vS ⟨#[41]⟩,vI 0]] { st with at':=st.at' + 1 } s2 p):=hlu
 clear hlu
 have hpl:=h.pl
 have hbl:=h.bl
 go_enter Tryz.func176,Tryz.ntmps176
 go_upto_region 1 with fail
 obtain ⟨W1,hW1⟩:∃ W,W=w.alloc (.cells (pZA 0) 44):=⟨_,rfl⟩
 have HG1:Hid (GrowA pb w W1):=by rw [hW1];exact (GrowA.refl _ _).alloc _
 have HP1:Hid (PaS W1 pb b c T st):=by rw [hW1];exact h.allocI _
 have HR1:Hid (PhZ W1 w.heap.size):=by rw [hW1];exact PhB.new w _
 rw [<- hW1]
 obtain ⟨r,hr⟩:∃ r,r=w.heap.size:=⟨_,rfl⟩
 have HRW:Hid (w.heap.size<=r):=Nat.le_of_eq hr.symm
 have hrp:r≠pb:=by omega
 have hrb:r≠b:=by omega
 rw [<- hr] at HR1 ⊢
 clear hW1 hr h hpl hbl
 go_wp2_with (first
  | (go_at_call 81;(refine (see_lit HP1.out 0 (by omega) hT hat hu).mono ?_);rintro e w2 ⟨rfl,hb⟩;have HG2:Hid (GrowA pb w w2):=(HG1.out.below hb);have HP2:Hid (PaS w2 pb b c T st):=(HP1.out.below hb);have HR2:Hid (PhZ w2 r):=(HR1.out.below hb);have hxp:w2.heap.size≠pb:=(by have:=HP2.out.pl;omega);clear hb HP1 HG1 HR1)
  | (go_at_call 82;have HNX:=HP2;refine (mark_is _ _).mono ?_;rintro e w3 ⟨rfl,hb⟩;have HG3:Hid (GrowA pb w w3):=((HG2.out.alloc _).below hb);have HP3:Hid (PaS w3 pb b c T st):=((HP2.out.allocI _).below hb);have HR3:Hid (PhZ w3 r):=((HR2.out.allocI _).below hb);have HX3:Hid (TkB w3 w2.heap.size #[vI uk,vS us,vI un]):=(TkB.new w2 #[vI uk,vS us,vI un]).below hb;clear hb HNX HP2 HG2 HR2)
  | (go_at_call 85;(refine (skip_no HP3.out hT hat _ _ _ (by rw [hu];exact n1)).mono ?_);rintro e w4 ⟨rfl,hp,hg⟩;have HG4:Hid (GrowA pb w w4):=(HG3.out.trans hg);have HP4:Hid (PaS w4 pb b c T st):=hp;have HR4:Hid (PhZ w4 r):=(HR3.out.grow hg hrp);have HX4:Hid (TkB w4 w2.heap.size #[vI uk,vS us,vI un]):=(HX3.out.grow hg hxp);clear hp hg HP3 HG3 HR3 HX3)
  | (go_at_call 82;have HNX:=HP4;refine (mark_is _ _).mono ?_;rintro e w5 ⟨rfl,hb⟩;have HG5:Hid (GrowA pb w w5):=(HG4.out.below hb);have HP5:Hid (PaS w5 pb b c T st):=(HP4.out.below hb);have HR5:Hid (PhZ w5 r):=(HR4.out.below hb);have HX5:Hid (TkB w5 w2.heap.size #[vI uk,vS us,vI un]):=(HX4.out.below hb);clear hb HNX HP4 HG4 HR4 HX4)
  | (go_at_call 85;(refine (skip_yes HP5.out hT hat _ _ _ (by rw [hu];exact y2)).mono ?_);rintro e w6 ⟨rfl,hp,hg⟩;have HG6:Hid (GrowA pb w w6):=(HG5.out.trans hg);have HP6:Hid (PaS w6 pb b c T { st with at':=st.at' + 1 }):=hp;have HR6:Hid (PhZ w6 r):=(HR5.out.grow hg hrp);have HX6:Hid (TkB w6 w2.heap.size #[vI uk,vS us,vI un]):=(HX5.out.grow hg hxp);clear hp hg HP5 HG5 HR5 HX5)
  | (go_at_call 82;have HNX:=HP6;refine (mark_is _ _).mono ?_;rintro e w7 ⟨rfl,hb⟩;have HG7:Hid (GrowA pb w w7):=(HG6.out.below hb);have HP7:Hid (PaS w7 pb b c T { st with at':=st.at' + 1 }):=(HP6.out.below hb);have HR7:Hid (PhZ w7 r):=(HR6.out.below hb);have HX7:Hid (TkB w7 w2.heap.size #[vI uk,vS us,vI un]):=(HX6.out.below hb);clear hb HNX HP6 HG6 HR6 HX6)
  | (go_at_call 180;(first | refine (HLU.out.use HTB.out HP7.out HG7.out (show r<_ from by have k:=HR7.out.lt;first | exact k | (simp;omega))).mono ?_ | refine (HLU.out.use HTB.out (HP7.out.allocI _) (HG7.out.alloc _) (show r<_ from by have k:=HR7.out.lt;first | exact k | (simp;omega))).mono ?_ | refine (HLU.out.use HTB.out ((HP7.out.allocI _).allocI _) ((HG7.out.alloc _).alloc _) (show r<_ from by have k:=HR7.out.lt;first | exact k | (simp;omega))).mono ?_);rintro e w8 ⟨lo1,v,hlo,hv,rfl,hp,hg⟩;obtain ⟨k0_1,k1_1,k2_1,k5_1,k6_1,k7_1,s3_1,s4_1,s8_1,a9_1,a10_1,l9_1,c9_1,l10_1,c10_1,rfl⟩:=hv.form;have hlo1:=hlo.1;have hlp1:=hlo.2.1;have hlz1:=hlo.2.2;have HG8:Hid (GrowA pb w w8):=(HG7.out.trans hg);have HP8:Hid (PaS w8 pb b c T s2):=hp;have HR8:Hid (PhZ w8 r):=(HR7.out.grow hg hrp);have HX8:Hid (TkB w8 w2.heap.size #[vI uk,vS us,vI un]):=(HX7.out.grow hg hxp);have HV1_8:Hid (Tre w8 lo1 p (pL k0_1 k1_1 k2_1 s3_1 s4_1 k5_1 k6_1 k7_1 s8_1 a9_1 l9_1 c9_1 a10_1 l10_1 c10_1)):=hv;obtain ⟨⟨y0,y1,y2,y3,y4,y5,y6,y7,y8,y9,y10⟩,z0,z1,z2,z3,z4,z5,z6,z7,z8,z9,z10⟩:=HR8.out.cells;clear hv hlo hp hg HP7 HG7 HR7 HX7))
 refine bodyPost_ret (v:=.agg (pA k0_1 k1_1 k2_1 s3_1 s4_1 k5_1 k6_1 k7_1 s8_1 a9_1 l9_1 c9_1 a10_1 l10_1 c10_1)) (by simp [results,Tryz.results176,go_sem,y0,y1,y2,y3,y4,y5,y6,y7,y8,y9,y10]) rfl ⟨(pL k0_1 k1_1 k2_1 s3_1 s4_1 k5_1 k6_1 k7_1 s8_1 a9_1 l9_1 c9_1 a10_1 l10_1 c10_1),?_,rfl,?_,?_⟩
 · (refine Tre.mono (lo:=lo1) ?_ (by have:=HRW.out;omega);(repeat (first | with_reducible refine Tre.setR ?_ hlo1 _ _ | with_reducible refine Tre.allocI ?_ _ | with_reducible exact HV1_8.out)))
 · (repeat (first | with_reducible refine PaS.setR ?_ hrp hrb _ _ | with_reducible refine PaS.allocI ?_ _ | exact HP8.out))
 · (repeat (first | with_reducible refine GrowA.setR ?_ HRW.out _ _ | with_reducible refine GrowA.alloc ?_ _ | exact HG8.out))
theorem noStep_call {pb b c:Nat} {T:List Tok} {st:Pst} {us u1s:ByteArray} {un u1k u1n:Int} {s2:Pst} {p:Ph} (hT:T.length<=200) (hat:st.at'<=300) (hu:seeM T st 0=⟨1,us,un⟩) (hu1:seeM T st 1=⟨u1k,u1s,u1n⟩) (n1:eqT ⟨1,us,un⟩ ⟨5,⟨#[46]⟩,0⟩=false) (n2:eqT ⟨1,us,un⟩ ⟨5,⟨#[40]⟩,0⟩=false) (y3:eqT ⟨u1k,u1s,u1n⟩ ⟨5,⟨#[40]⟩,0⟩=true) (hm:mkBeg (seeM T st 0) (seeM T st 1) (seeM T st 2)=false) (hlu:RunT pb b c T 182 #[vP pb 0] st s2 p):RunT pb b c T 176 #[vP pb 0] st s2 p:=by
 intro w h htb
 have HTB:Hid (RTab w pb):=htb
 clear htb
 have HLU:Hid (RunT pb b c T 182 #[vP pb 0] st s2 p):=hlu
 clear hlu
 have E3:=eqT_run y3
 have hpl:=h.pl
 have hbl:=h.bl
 go_enter Tryz.func176,Tryz.ntmps176
 go_upto_region 1 with fail
 obtain ⟨W1,hW1⟩:∃ W,W=w.alloc (.cells (pZA 0) 44):=⟨_,rfl⟩
 have HG1:Hid (GrowA pb w W1):=by rw [hW1];exact (GrowA.refl _ _).alloc _
 have HP1:Hid (PaS W1 pb b c T st):=by rw [hW1];exact h.allocI _
 have HR1:Hid (PhZ W1 w.heap.size):=by rw [hW1];exact PhB.new w _
 rw [<- hW1]
 obtain ⟨r,hr⟩:∃ r,r=w.heap.size:=⟨_,rfl⟩
 have HRW:Hid (w.heap.size<=r):=Nat.le_of_eq hr.symm
 have hrp:r≠pb:=by omega
 have hrb:r≠b:=by omega
 rw [<- hr] at HR1 ⊢
 clear hW1 hr h hpl hbl
 go_wp2_with (first
  | (go_at_call 81;(refine (see_lit HP1.out 0 (by omega) hT hat hu).mono ?_);rintro e w2 ⟨rfl,hb⟩;have HG2:Hid (GrowA pb w w2):=(HG1.out.below hb);have HP2:Hid (PaS w2 pb b c T st):=(HP1.out.below hb);have HR2:Hid (PhZ w2 r):=(HR1.out.below hb);have hxp:w2.heap.size≠pb:=(by have:=HP2.out.pl;omega);clear hb HP1 HG1 HR1)
  | (go_at_call 82;have HNX:=HP2;refine (mark_is _ _).mono ?_;rintro e w3 ⟨rfl,hb⟩;have HG3:Hid (GrowA pb w w3):=((HG2.out.alloc _).below hb);have HP3:Hid (PaS w3 pb b c T st):=((HP2.out.allocI _).below hb);have HR3:Hid (PhZ w3 r):=((HR2.out.allocI _).below hb);have HX3:Hid (TkB w3 w2.heap.size #[vI 1,vS us,vI un]):=(TkB.new w2 #[vI 1,vS us,vI un]).below hb;clear hb HNX HP2 HG2 HR2)
  | (go_at_call 85;(refine (skip_no HP3.out hT hat _ _ _ (by rw [hu];exact n1)).mono ?_);rintro e w4 ⟨rfl,hp,hg⟩;have HG4:Hid (GrowA pb w w4):=(HG3.out.trans hg);have HP4:Hid (PaS w4 pb b c T st):=hp;have HR4:Hid (PhZ w4 r):=(HR3.out.grow hg hrp);have HX4:Hid (TkB w4 w2.heap.size #[vI 1,vS us,vI un]):=(HX3.out.grow hg hxp);clear hp hg HP3 HG3 HR3 HX3)
  | (go_at_call 82;have HNX:=HP4;refine (mark_is _ _).mono ?_;rintro e w5 ⟨rfl,hb⟩;have HG5:Hid (GrowA pb w w5):=(HG4.out.below hb);have HP5:Hid (PaS w5 pb b c T st):=(HP4.out.below hb);have HR5:Hid (PhZ w5 r):=(HR4.out.below hb);have HX5:Hid (TkB w5 w2.heap.size #[vI 1,vS us,vI un]):=(HX4.out.below hb);clear hb HNX HP4 HG4 HR4 HX4)
  | (go_at_call 85;(refine (skip_no HP5.out hT hat _ _ _ (by rw [hu];exact n2)).mono ?_);rintro e w6 ⟨rfl,hp,hg⟩;have HG6:Hid (GrowA pb w w6):=(HG5.out.trans hg);have HP6:Hid (PaS w6 pb b c T st):=hp;have HR6:Hid (PhZ w6 r):=(HR5.out.grow hg hrp);have HX6:Hid (TkB w6 w2.heap.size #[vI 1,vS us,vI un]):=(HX5.out.grow hg hxp);clear hp hg HP5 HG5 HR5 HX5)
  | (go_at_call 179;(refine (makeBegins_eq HP6.out hT hat hm).mono ?_);rintro e w7 ⟨rfl,hb⟩;have HG7:Hid (GrowA pb w w7):=(HG6.out.below hb);have HP7:Hid (PaS w7 pb b c T st):=(HP6.out.below hb);have HR7:Hid (PhZ w7 r):=(HR6.out.below hb);have HX7:Hid (TkB w7 w2.heap.size #[vI 1,vS us,vI un]):=(HX6.out.below hb);obtain ⟨c0,c1,c2⟩:=HX7.out.cells;clear hb HP6 HG6 HR6 HX6)
  | (go_at_call 81;(refine (see_lit HP7.out 1 (by omega) hT hat hu1).mono ?_);rintro e w8 ⟨rfl,hb⟩;have HG8:Hid (GrowA pb w w8):=(HG7.out.below hb);have HP8:Hid (PaS w8 pb b c T st):=(HP7.out.below hb);have HR8:Hid (PhZ w8 r):=(HR7.out.below hb);have HX8:Hid (TkB w8 w2.heap.size #[vI 1,vS us,vI un]):=(HX7.out.below hb);clear hb HP7 HG7 HR7 HX7)
  | (go_at_call 82;have HNX:=HP8;refine (mark_is _ _).mono ?_;rintro e w9 ⟨rfl,hb⟩;have HG9:Hid (GrowA pb w w9):=(HG8.out.below hb);have HP9:Hid (PaS w9 pb b c T st):=(HP8.out.below hb);have HR9:Hid (PhZ w9 r):=(HR8.out.below hb);have HX9:Hid (TkB w9 w2.heap.size #[vI 1,vS us,vI un]):=(HX8.out.below hb);clear hb HNX HP8 HG8 HR8 HX8)
  | (go_at_call 182;(first | refine (HLU.out.use HTB.out HP9.out HG9.out (show r<_ from by have k:=HR9.out.lt;first | exact k | (simp;omega))).mono ?_ | refine (HLU.out.use HTB.out (HP9.out.allocI _) (HG9.out.alloc _) (show r<_ from by have k:=HR9.out.lt;first | exact k | (simp;omega))).mono ?_ | refine (HLU.out.use HTB.out ((HP9.out.allocI _).allocI _) ((HG9.out.alloc _).alloc _) (show r<_ from by have k:=HR9.out.lt;first | exact k | (simp;omega))).mono ?_);rintro e w10 ⟨lo1,v,hlo,hv,rfl,hp,hg⟩;obtain ⟨k0_1,k1_1,k2_1,k5_1,k6_1,k7_1,s3_1,s4_1,s8_1,a9_1,a10_1,l9_1,c9_1,l10_1,c10_1,rfl⟩:=hv.form;have hlo1:=hlo.1;have hlp1:=hlo.2.1;have hlz1:=hlo.2.2;have HG10:Hid (GrowA pb w w10):=(HG9.out.trans hg);have HP10:Hid (PaS w10 pb b c T s2):=hp;have HR10:Hid (PhZ w10 r):=(HR9.out.grow hg hrp);have HX10:Hid (TkB w10 w2.heap.size #[vI 1,vS us,vI un]):=(HX9.out.grow hg hxp);have HV1_10:Hid (Tre w10 lo1 p (pL k0_1 k1_1 k2_1 s3_1 s4_1 k5_1 k6_1 k7_1 s8_1 a9_1 l9_1 c9_1 a10_1 l10_1 c10_1)):=hv;obtain ⟨⟨y0,y1,y2,y3,y4,y5,y6,y7,y8,y9,y10⟩,z0,z1,z2,z3,z4,z5,z6,z7,z8,z9,z10⟩:=HR10.out.cells;clear hv hlo hp hg HP9 HG9 HR9 HX9))
 refine bodyPost_ret (v:=.agg (pA k0_1 k1_1 k2_1 s3_1 s4_1 k5_1 k6_1 k7_1 s8_1 a9_1 l9_1 c9_1 a10_1 l10_1 c10_1)) (by simp [results,Tryz.results176,go_sem,y0,y1,y2,y3,y4,y5,y6,y7,y8,y9,y10]) rfl ⟨(pL k0_1 k1_1 k2_1 s3_1 s4_1 k5_1 k6_1 k7_1 s8_1 a9_1 l9_1 c9_1 a10_1 l10_1 c10_1),?_,rfl,?_,?_⟩
 · (refine Tre.mono (lo:=lo1) ?_ (by have:=HRW.out;omega);(repeat (first | with_reducible refine Tre.setR ?_ hlo1 _ _ | with_reducible refine Tre.allocI ?_ _ | with_reducible exact HV1_10.out)))
 · (repeat (first | with_reducible refine PaS.setR ?_ hrp hrb _ _ | with_reducible refine PaS.allocI ?_ _ | exact HP10.out))
 · (repeat (first | with_reducible refine GrowA.setR ?_ HRW.out _ _ | with_reducible refine GrowA.alloc ?_ _ | exact HG10.out))
end Go.Proofs.YtmcmbdkpfcibkaaGreatDoor
