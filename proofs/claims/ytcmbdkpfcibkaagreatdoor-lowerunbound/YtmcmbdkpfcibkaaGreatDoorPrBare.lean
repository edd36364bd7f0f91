import Derived.Test.YtmcmbdkpfcibkaaGreatDoorCkSt
set_option linter.unusedVariables false
set_option maxHeartbeats 1600000
namespace Go.Proofs.YtmcmbdkpfcibkaaGreatDoor
set_option maxRecDepth 100000
open Go.RowKit
theorem bareStep_at {pb b c:Nat} {T:List Tok} {st:Pst} {us:ByteArray} {uk un:Int} {s2:Pst} {tk:Int} {tn:ByteArray} (hT:T.length<=200) (hat:st.at'<=300) (hu:seeM T st 0=⟨uk,us,un⟩) (k1:(uk == 1)=false) (y2:eqT ⟨uk,us,un⟩ ⟨5,⟨#[64]⟩,0⟩=true) (hte:RunK pb b c T { st with at':=st.at' + 1 } s2 tk tn):RunT pb b c T 172 #[vP pb 0] st s2 (ph0 9 ⟨0,0,⟨#[]⟩⟩ ⟨#[]⟩ 0 12 tk tn):=by
 intro w h htb
 have HTB:Hid (RTab w pb):=htb
 clear htb
 have HTE:Hid (RunK pb b c T { st with at':=st.at' + 1 } s2 tk tn):=hte
 clear hte
 have EF:=field_kind uk un us
 have hpl:=h.pl
 have hbl:=h.bl
 go_enter Tryz.func172,Tryz.ntmps172
 go_upto_region 1 with fail
 obtain ⟨W1,hW1⟩:∃ W,W=w.alloc (.cells (pZA 0) 44):=⟨_,rfl⟩
 have HG1:Hid (GrowA pb w W1):=by rw [hW1];exact (GrowA.refl _ _).alloc _
 have HP1:Hid (PaS W1 pb b c T st):=by rw [hW1];exact h.allocI _
 have HR1:Hid (PhZ W1 w.heap.size):=by rw [hW1];exact PhB.new w _
 rw [<- hW1]
 obtain ⟨r,hr⟩:∃ r,r=w.heap.size:=⟨_,rfl⟩
 have HRW:Hid (w.heap.size<=r):=Nat.le_of_eq hr.symm
 have hrp:r≠pb:=by omega
 have hrb:r≠b:=by omega
 rw [<- hr] at HR1 ⊢
 clear hW1 hr h hpl hbl
 go_wp2_with (first
  | (go_at_call 81;(refine (see_lit HP1.out 0 (by omega) hT hat hu).mono ?_);rintro e w2 ⟨rfl,hb⟩;have HG2:Hid (GrowA pb w w2):=(HG1.out.below hb);have HP2:Hid (PaS w2 pb b c T st):=(HP1.out.below hb);have HR2:Hid (PhZ w2 r):=(HR1.out.below hb);clear hb HP1 HG1 HR1)
  | (go_at_call 82;have HNX:=HP2;refine (mark_is _ _).mono ?_;rintro e w3 ⟨rfl,hb⟩;have HG3:Hid (GrowA pb w w3):=(HG2.out.below hb);have HP3:Hid (PaS w3 pb b c T st):=(HP2.out.below hb);have HR3:Hid (PhZ w3 r):=(HR2.out.below hb);clear hb HNX HP2 HG2 HR2)
  | (go_at_call 85;(refine (skip_yes HP3.out hT hat _ _ _ (by rw [hu];exact y2)).mono ?_);rintro e w4 ⟨rfl,hp,hg⟩;have HG4:Hid (GrowA pb w w4):=(HG3.out.trans hg);have HP4:Hid (PaS w4 pb b c T { st with at':=st.at' + 1 }):=hp;have HR4:Hid (PhZ w4 r):=(HR3.out.grow hg hrp);clear hp hg HP3 HG3 HR3)
  | (go_at_call 174;(refine (HTE.out.use HTB.out HP4.out HG4.out).mono ?_);rintro e w5 ⟨rfl,hp,hg⟩;have HG5:Hid (GrowA pb w w5):=(HG4.out.trans hg);have HP5:Hid (PaS w5 pb b c T s2):=hp;have HR5:Hid (PhZ w5 r):=(HR4.out.grow hg hrp);clear hp hg HP4 HG4 HR4)
  | (go_at_call 171;have HNX:=HP5;refine (along_is _ _ _ _).mono ?_;rintro e w6 ⟨rfl,hb⟩;have HG6:Hid (GrowA pb w w6):=(HG5.out.below hb);have HP6:Hid (PaS w6 pb b c T s2):=(HP5.out.below hb);have HR6:Hid (PhZ w6 r):=(HR5.out.below hb);obtain ⟨⟨y0,y1,y2,y3,y4,y5,y6,y7,y8,y9,y10⟩,z0,z1,z2,z3,z4,z5,z6,z7,z8,z9,z10⟩:=HR6.out.cells;clear hb HNX HP5 HG5 HR5))
 refine bodyPost_ret (v:=.agg (pA 9 0 0 ⟨#[]⟩ ⟨#[]⟩ 0 12 tk tn none 0 0 none 0 0)) (by simp [results,Tryz.results172,go_sem,y0,y1,y2,y3,y4,y5,y6,y7,y8,y9,y10]) rfl ⟨(pL 9 0 0 ⟨#[]⟩ ⟨#[]⟩ 0 12 tk tn none 0 0 none 0 0),?_,rfl,?_,?_⟩
 · exact tre_ph0
 · (repeat (first | with_reducible refine PaS.setR ?_ hrp hrb _ _ | with_reducible refine PaS.allocI ?_ _ | exact HP6.out))
 · (repeat (first | with_reducible refine GrowA.setR ?_ HRW.out _ _ | with_reducible refine GrowA.alloc ?_ _ | exact HG6.out))
theorem bareStep_up {pb b c:Nat} {T:List Tok} {st:Pst} {us:ByteArray} {uk un:Int} (hT:T.length<=200) (hat:st.at'<=300) (hu:seeM T st 0=⟨uk,us,un⟩) (k1:(uk == 1)=false) (n2:eqT ⟨uk,us,un⟩ ⟨5,⟨#[64]⟩,0⟩=false) (y3:eqT ⟨uk,us,un⟩ ⟨5,⟨#[46,46]⟩,0⟩=true):RunT pb b c T 172 #[vP pb 0] st { st with at':=st.at' + 1 } (ph0 9 ⟨0,0,⟨#[]⟩⟩ ⟨#[]⟩ 0 5 1 ⟨#[]⟩):=by
 intro w h htb
 have HTB:Hid (RTab w pb):=htb
 clear htb
 have EF:=field_kind uk un us
 have hpl:=h.pl
 have hbl:=h.bl
 go_enter Tryz.func172,Tryz.ntmps172
 go_upto_region 1 with fail
 obtain ⟨W1,hW1⟩:∃ W,W=w.alloc (.cells (pZA 0) 44):=⟨_,rfl⟩
 have HG1:Hid (GrowA pb w W1):=by rw [hW1];exact (GrowA.refl _ _).alloc _
 have HP1:Hid (PaS W1 pb b c T st):=by rw [hW1];exact h.allocI _
 have HR1:Hid (PhZ W1 w.heap.size):=by rw [hW1];exact PhB.new w _
 rw [<- hW1]
 obtain ⟨r,hr⟩:∃ r,r=w.heap.size:=⟨_,rfl⟩
 have HRW:Hid (w.heap.size<=r):=Nat.le_of_eq hr.symm
 have hrp:r≠pb:=by omega
 have hrb:r≠b:=by omega
 rw [<- hr] at HR1 ⊢
 clear hW1 hr h hpl hbl
 go_wp2_with (first
  | (go_at_call 81;(refine (see_lit HP1.out 0 (by omega) hT hat hu).mono ?_);rintro e w2 ⟨rfl,hb⟩;have HG2:Hid (GrowA pb w w2):=(HG1.out.below hb);have HP2:Hid (PaS w2 pb b c T st):=(HP1.out.below hb);have HR2:Hid (PhZ w2 r):=(HR1.out.below hb);clear hb HP1 HG1 HR1)
  | (go_at_call 82;have HNX:=HP2;refine (mark_is _ _).mono ?_;rintro e w3 ⟨rfl,hb⟩;have HG3:Hid (GrowA pb w w3):=(HG2.out.below hb);have HP3:Hid (PaS w3 pb b c T st):=(HP2.out.below hb);have HR3:Hid (PhZ w3 r):=(HR2.out.below hb);clear hb HNX HP2 HG2 HR2)
  | (go_at_call 85;(refine (skip_no HP3.out hT hat _ _ _ (by rw [hu];exact n2)).mono ?_);rintro e w4 ⟨rfl,hp,hg⟩;have HG4:Hid (GrowA pb w w4):=(HG3.out.trans hg);have HP4:Hid (PaS w4 pb b c T st):=hp;have HR4:Hid (PhZ w4 r):=(HR3.out.grow hg hrp);clear hp hg HP3 HG3 HR3)
  | (go_at_call 82;have HNX:=HP4;refine (mark_is _ _).mono ?_;rintro e w5 ⟨rfl,hb⟩;have HG5:Hid (GrowA pb w w5):=(HG4.out.below hb);have HP5:Hid (PaS w5 pb b c T st):=(HP4.out.below hb);have HR5:Hid (PhZ w5 r):=(HR4.out.below hb);clear hb HNX HP4 HG4 HR4)
  | (go_at_call 85;(refine (skip_yes HP5.out hT hat _ _ _ (by rw [hu];exact y3)).mono ?_);rintro e w6 ⟨rfl,hp,hg⟩;have HG6:Hid (GrowA pb w w6):=(HG5.out.trans hg);have HP6:Hid (PaS w6 pb b c T { st with at':=st.at' + 1 }):=hp;have HR6:Hid (PhZ w6 r):=(HR5.out.grow hg hrp);clear hp hg HP5 HG5 HR5)
  | (go_at_call 171;have HNX:=HP6;refine (along_is _ _ _ _).mono ?_;rintro e w7 ⟨rfl,hb⟩;have HG7:Hid (GrowA pb w w7):=(HG6.out.below hb);have HP7:Hid (PaS w7 pb b c T { st with at':=st.at' + 1 }):=(HP6.out.below hb);have HR7:Hid (PhZ w7 r):=(HR6.out.below hb);obtain ⟨⟨y0,y1,y2,y3,y4,y5,y6,y7,y8,y9,y10⟩,z0,z1,z2,z3,z4,z5,z6,z7,z8,z9,z10⟩:=HR7.out.cells;clear hb HNX HP6 HG6 HR6))
 refine bodyPost_ret (v:=.agg (pA 9 0 0 ⟨#[]⟩ ⟨#[]⟩ 0 5 1 ⟨#[]⟩ none 0 0 none 0 0)) (by simp [results,Tryz.results172,go_sem,y0,y1,y2,y3,y4,y5,y6,y7,y8,y9,y10]) rfl ⟨(pL 9 0 0 ⟨#[]⟩ ⟨#[]⟩ 0 5 1 ⟨#[]⟩ none 0 0 none 0 0),?_,rfl,?_,?_⟩
 · exact tre_ph0
 · (repeat (first | with_reducible refine PaS.setR ?_ hrp hrb _ _ | with_reducible refine PaS.allocI ?_ _ | exact HP7.out))
 · (repeat (first | with_reducible refine GrowA.setR ?_ HRW.out _ _ | with_reducible refine GrowA.alloc ?_ _ | exact HG7.out))
theorem bareStep_name {pb b c:Nat} {T:List Tok} {st:Pst} {us u1s:ByteArray} {un u1k u1n:Int} {s2:Pst} {tk:Int} {tn:ByteArray} (hT:T.length<=200) (hat:st.at'<=300) (hu:seeM T st 0=⟨1,us,un⟩) (hu1:seeM T st 1=⟨u1k,u1s,u1n⟩) (n1:eqT ⟨u1k,u1s,u1n⟩ ⟨5,⟨#[58,58]⟩,0⟩=false) (n2:eqT ⟨1,us,un⟩ ⟨5,⟨#[64]⟩,0⟩=false) (n3:eqT ⟨1,us,un⟩ ⟨5,⟨#[46,46]⟩,0⟩=false) (hc:childB (seeM T st 0) (seeM T st 1) (seeM T st 2)=true) (hte:RunK pb b c T st s2 tk tn):RunT pb b c T 172 #[vP pb 0] st s2 (ph0 9 ⟨0,0,⟨#[]⟩⟩ ⟨#[]⟩ 0 1 tk tn):=by
 intro w h htb
 have HTB:Hid (RTab w pb):=htb
 clear htb
 have HTE:Hid (RunK pb b c T st s2 tk tn):=hte
 clear hte
 have EF:=field_kind 1 un us
 have E1:=eqT_run n1
 have hpl:=h.pl
 have hbl:=h.bl
 go_enter Tryz.func172,Tryz.ntmps172
 go_upto_region 1 with fail
 obtain ⟨W1,hW1⟩:∃ W,W=w.alloc (.cells (pZA 0) 44):=⟨_,rfl⟩
 have HG1:Hid (GrowA pb w W1):=by rw [hW1];exact (GrowA.refl _ _).alloc _
 have HP1:Hid (PaS W1 pb b c T st):=by rw [hW1];exact h.allocI _
 have HR1:Hid (PhZ W1 w.heap.size):=by rw [hW1];exact PhB.new w _
 rw [<- hW1]
 obtain ⟨r,hr⟩:∃ r,r=w.heap.size:=⟨_,rfl⟩
 have HRW:Hid (w.heap.size<=r):=Nat.le_of_eq hr.symm
 have hrp:r≠pb:=by omega
 have hrb:r≠b:=by omega
 rw [<- hr] at HR1 ⊢
 clear hW1 hr h hpl hbl
 go_wp2_with (first
  | (go_at_call 81;(refine (see_lit HP1.out 0 (by omega) hT hat hu).mono ?_);rintro e w2 ⟨rfl,hb⟩;have HG2:Hid (GrowA pb w w2):=(HG1.out.below hb);have HP2:Hid (PaS w2 pb b c T st):=(HP1.out.below hb);have HR2:Hid (PhZ w2 r):=(HR1.out.below hb);clear hb HP1 HG1 HR1)
  | (go_at_call 81;(refine (see_lit HP2.out 1 (by omega) hT hat hu1).mono ?_);rintro e w3 ⟨rfl,hb⟩;have HG3:Hid (GrowA pb w w3):=(HG2.out.below hb);have HP3:Hid (PaS w3 pb b c T st):=(HP2.out.below hb);have HR3:Hid (PhZ w3 r):=(HR2.out.below hb);clear hb HP2 HG2 HR2)
  | (go_at_call 82;have HNX:=HP3;refine (mark_is _ _).mono ?_;rintro e w4 ⟨rfl,hb⟩;have HG4:Hid (GrowA pb w w4):=(HG3.out.below hb);have HP4:Hid (PaS w4 pb b c T st):=(HP3.out.below hb);have HR4:Hid (PhZ w4 r):=(HR3.out.below hb);clear hb HNX HP3 HG3 HR3)
  | (go_at_call 82;have HNX:=HP4;refine (mark_is _ _).mono ?_;rintro e w5 ⟨rfl,hb⟩;have HG5:Hid (GrowA pb w w5):=(HG4.out.below hb);have HP5:Hid (PaS w5 pb b c T st):=(HP4.out.below hb);have HR5:Hid (PhZ w5 r):=(HR4.out.below hb);clear hb HNX HP4 HG4 HR4)
  | (go_at_call 85;(refine (skip_no HP5.out hT hat _ _ _ (by rw [hu];exact n2)).mono ?_);rintro e w6 ⟨rfl,hp,hg⟩;have HG6:Hid (GrowA pb w w6):=(HG5.out.trans hg);have HP6:Hid (PaS w6 pb b c T st):=hp;have HR6:Hid (PhZ w6 r):=(HR5.out.grow hg hrp);clear hp hg HP5 HG5 HR5)
  | (go_at_call 82;have HNX:=HP6;refine (mark_is _ _).mono ?_;rintro e w7 ⟨rfl,hb⟩;have HG7:Hid (GrowA pb w w7):=(HG6.out.below hb);have HP7:Hid (PaS w7 pb b c T st):=(HP6.out.below hb);have HR7:Hid (PhZ w7 r):=(HR6.out.below hb);clear hb HNX HP6 HG6 HR6)
  | (go_at_call 85;(refine (skip_no HP7.out hT hat _ _ _ (by rw [hu];exact n3)).mono ?_);rintro e w8 ⟨rfl,hp,hg⟩;have HG8:Hid (GrowA pb w w8):=(HG7.out.trans hg);have HP8:Hid (PaS w8 pb b c T st):=hp;have HR8:Hid (PhZ w8 r):=(HR7.out.grow hg hrp);clear hp hg HP7 HG7 HR7)
  | (go_at_call 175;(refine (childBegins_use HTB.out HP8.out HG8.out hT hat hc).mono ?_);rintro e w9 ⟨rfl,hb⟩;have HG9:Hid (GrowA pb w w9):=(HG8.out.below hb);have HP9:Hid (PaS w9 pb b c T st):=(HP8.out.below hb);have HR9:Hid (PhZ w9 r):=(HR8.out.below hb);clear hb HP8 HG8 HR8)
  | (go_at_call 174;(refine (HTE.out.use HTB.out HP9.out HG9.out).mono ?_);rintro e w10 ⟨rfl,hp,hg⟩;have HG10:Hid (GrowA pb w w10):=(HG9.out.trans hg);have HP10:Hid (PaS w10 pb b c T s2):=hp;have HR10:Hid (PhZ w10 r):=(HR9.out.grow hg hrp);clear hp hg HP9 HG9 HR9)
  | (go_at_call 171;have HNX:=HP10;refine (along_is _ _ _ _).mono ?_;rintro e w11 ⟨rfl,hb⟩;have HG11:Hid (GrowA pb w w11):=(HG10.out.below hb);have HP11:Hid (PaS w11 pb b c T s2):=(HP10.out.below hb);have HR11:Hid (PhZ w11 r):=(HR10.out.below hb);obtain ⟨⟨y0,y1,y2,y3,y4,y5,y6,y7,y8,y9,y10⟩,z0,z1,z2,z3,z4,z5,z6,z7,z8,z9,z10⟩:=HR11.out.cells;clear hb HNX HP10 HG10 HR10))
 refine bodyPost_ret (v:=.agg (pA 9 0 0 ⟨#[]⟩ ⟨#[]⟩ 0 1 tk tn none 0 0 none 0 0)) (by simp [results,Tryz.results172,go_sem,y0,y1,y2,y3,y4,y5,y6,y7,y8,y9,y10]) rfl ⟨(pL 9 0 0 ⟨#[]⟩ ⟨#[]⟩ 0 1 tk tn none 0 0 none 0 0),?_,rfl,?_,?_⟩
 · exact tre_ph0
 · (repeat (first | with_reducible refine PaS.setR ?_ hrp hrb _ _ | with_reducible refine PaS.allocI ?_ _ | exact HP11.out))
 · (repeat (first | with_reducible refine GrowA.setR ?_ HRW.out _ _ | with_reducible refine GrowA.alloc ?_ _ | exact HG11.out))
theorem bareStep_star {pb b c:Nat} {T:List Tok} {st:Pst} {us:ByteArray} {uk un:Int} {s2:Pst} {tk:Int} {tn:ByteArray} (hT:T.length<=200) (hat:st.at'<=300) (hu:seeM T st 0=⟨uk,us,un⟩) (k1:(uk == 1)=false) (n2:eqT ⟨uk,us,un⟩ ⟨5,⟨#[64]⟩,0⟩=false) (n3:eqT ⟨uk,us,un⟩ ⟨5,⟨#[46,46]⟩,0⟩=false) (hc:childB (seeM T st 0) (seeM T st 1) (seeM T st 2)=true) (hte:RunK pb b c T st s2 tk tn):RunT pb b c T 172 #[vP pb 0] st s2 (ph0 9 ⟨0,0,⟨#[]⟩⟩ ⟨#[]⟩ 0 1 tk tn):=by
 intro w h htb
 have HTB:Hid (RTab w pb):=htb
 clear htb
 have HTE:Hid (RunK pb b c T st s2 tk tn):=hte
 clear hte
 have EF:=field_kind uk un us
 have hpl:=h.pl
 have hbl:=h.bl
 go_enter Tryz.func172,Tryz.ntmps172
 go_upto_region 1 with fail
 obtain ⟨W1,hW1⟩:∃ W,W=w.alloc (.cells (pZA 0) 44):=⟨_,rfl⟩
 have HG1:Hid (GrowA pb w W1):=by rw [hW1];exact (GrowA.refl _ _).alloc _
 have HP1:Hid (PaS W1 pb b c T st):=by rw [hW1];exact h.allocI _
 have HR1:Hid (PhZ W1 w.heap.size):=by rw [hW1];exact PhB.new w _
 rw [<- hW1]
 obtain ⟨r,hr⟩:∃ r,r=w.heap.size:=⟨_,rfl⟩
 have HRW:Hid (w.heap.size<=r):=Nat.le_of_eq hr.symm
 have hrp:r≠pb:=by omega
 have hrb:r≠b:=by omega
 rw [<- hr] at HR1 ⊢
 clear hW1 hr h hpl hbl
 go_wp2_with (first
  | (go_at_call 81;(refine (see_lit HP1.out 0 (by omega) hT hat hu).mono ?_);rintro e w2 ⟨rfl,hb⟩;have HG2:Hid (GrowA pb w w2):=(HG1.out.below hb);have HP2:Hid (PaS w2 pb b c T st):=(HP1.out.below hb);have HR2:Hid (PhZ w2 r):=(HR1.out.below hb);clear hb HP1 HG1 HR1)
  | (go_at_call 82;have HNX:=HP2;refine (mark_is _ _).mono ?_;rintro e w3 ⟨rfl,hb⟩;have HG3:Hid (GrowA pb w w3):=(HG2.out.below hb);have HP3:Hid (PaS w3 pb b c T st):=(HP2.out.below hb);have HR3:Hid (PhZ w3 r):=(HR2.out.below hb);clear hb HNX HP2 HG2 HR2)
  | (go_at_call 85;(refine (skip_no HP3.out hT hat _ _ _ (by rw [hu];exact n2)).mono ?_);rintro e w4 ⟨rfl,hp,hg⟩;have HG4:Hid (GrowA pb w w4):=(HG3.out.trans hg);have HP4:Hid (PaS w4 pb b c T st):=hp;have HR4:Hid (PhZ w4 r):=(HR3.out.grow hg hrp);clear hp hg HP3 HG3 HR3)
  | (go_at_call 82;have HNX:=HP4;refine (mark_is _ _).mono ?_;rintro e w5 ⟨rfl,hb⟩;have HG5:Hid (GrowA pb w w5):=(HG4.out.below hb);have HP5:Hid (PaS w5 pb b c T st):=(HP4.out.below hb);have HR5:Hid (PhZ w5 r):=(HR4.out.below hb);clear hb HNX HP4 HG4 HR4)
  | (go_at_call 85;(refine (skip_no HP5.out hT hat _ _ _ (by rw [hu];exact n3)).mono ?_);rintro e w6 ⟨rfl,hp,hg⟩;have HG6:Hid (GrowA pb w w6):=(HG5.out.trans hg);have HP6:Hid (PaS w6 pb b c T st):=hp;have HR6:Hid (PhZ w6 r):=(HR5.out.grow hg hrp);clear hp hg HP5 HG5 HR5)
  | (go_at_call 175;(refine (childBegins_use HTB.out HP6.out HG6.out hT hat hc).mono ?_);rintro e w7 ⟨rfl,hb⟩;have HG7:Hid (GrowA pb w w7):=(HG6.out.below hb);have HP7:Hid (PaS w7 pb b c T st):=(HP6.out.below hb);have HR7:Hid (PhZ w7 r):=(HR6.out.below hb);clear hb HP6 HG6 HR6)
  | (go_at_call 174;(refine (HTE.out.use HTB.out HP7.out HG7.out).mono ?_);rintro e w8 ⟨rfl,hp,hg⟩;have HG8:Hid (GrowA pb w w8):=(HG7.out.trans hg);have HP8:Hid (PaS w8 pb b c T s2):=hp;have HR8:Hid (PhZ w8 r):=(HR7.out.grow hg hrp);clear hp hg HP7 HG7 HR7)
  | (go_at_call 171;have HNX:=HP8;refine (along_is _ _ _ _).mono ?_;rintro e w9 ⟨rfl,hb⟩;have HG9:Hid (GrowA pb w w9):=(HG8.out.below hb);have HP9:Hid (PaS w9 pb b c T s2):=(HP8.out.below hb);have HR9:Hid (PhZ w9 r):=(HR8.out.below hb);obtain ⟨⟨y0,y1,y2,y3,y4,y5,y6,y7,y8,y9,y10⟩,z0,z1,z2,z3,z4,z5,z6,z7,z8,z9,z10⟩:=HR9.out.cells;clear hb HNX HP8 HG8 HR8))
 refine bodyPost_ret (v:=.agg (pA 9 0 0 ⟨#[]⟩ ⟨#[]⟩ 0 1 tk tn none 0 0 none 0 0)) (by simp [results,Tryz.results172,go_sem,y0,y1,y2,y3,y4,y5,y6,y7,y8,y9,y10]) rfl ⟨(pL 9 0 0 ⟨#[]⟩ ⟨#[]⟩ 0 1 tk tn none 0 0 none 0 0),?_,rfl,?_,?_⟩
 · exact tre_ph0
 · (repeat (first | with_reducible refine PaS.setR ?_ hrp hrb _ _ | with_reducible refine PaS.allocI ?_ _ | exact HP9.out))
 · (repeat (first | with_reducible refine GrowA.setR ?_ HRW.out _ _ | with_reducible refine GrowA.alloc ?_ _ | exact HG9.out))
theorem field_text (k n:Int) (s:ByteArray) (W:World):Sem.run Tryz.prog (Instr.field 65 (.agg #[vI k,vS s,vI n]) 1) W=.ok (vS s) W:=by
 first
  | rfl
  | simp [Instr.field,run_underlying Tryz.underlying65,go_sem]
theorem namedAxis_ok {pb b c:Nat} {T:List Tok} {st:Pst} {us:ByteArray} {un ax:Int} {s2:Pst} {tk:Int} {tn:ByteArray} (hT:T.length<=200) (hat:st.at'<=300) (hu:seeM T st 0=⟨1,us,un⟩) (hax:axOf us=ax) (a0:(ax == 0)=false) (hte:RunK pb b c T { st with at':=st.at' + 2 } s2 tk tn):RunT pb b c T 173 #[vP pb 0] st s2 (ph0 9 ⟨0,0,⟨#[]⟩⟩ ⟨#[]⟩ 0 ax tk tn):=by
 intro w h htb
 have HTB:Hid (RTab w pb):=htb
 clear htb
 have HTE:Hid (RunK pb b c T { st with at':=st.at' + 2 } s2 tk tn):=hte
 clear hte
 have EF2:=field_text 1 un us
 have hwr:IntKind.i64.wrap ((st.at':Int) + 2)=((st.at' + 2:Nat):Int):=by rw [IntWalk.i64_in _ (by omega)];simp
 have hpl:=h.pl
 have hbl:=h.bl
 go_enter Tryz.func173,Tryz.ntmps173
 go_upto_region 1 with fail
 obtain ⟨W1,hW1⟩:∃ W,W=w.alloc (.cells (pZA 0) 44):=⟨_,rfl⟩
 have HG1:Hid (GrowA pb w W1):=by rw [hW1];exact (GrowA.refl _ _).alloc _
 have HP1:Hid (PaS W1 pb b c T st):=by rw [hW1];exact h.allocI _
 have HR1:Hid (PhZ W1 w.heap.size):=by rw [hW1];exact PhB.new w _
 rw [<- hW1]
 obtain ⟨r,hr⟩:∃ r,r=w.heap.size:=⟨_,rfl⟩
 have HRW:Hid (w.heap.size<=r):=Nat.le_of_eq hr.symm
 have hrp:r≠pb:=by omega
 have hrb:r≠b:=by omega
 rw [<- hr] at HR1 ⊢
 clear hW1 hr h hpl hbl
 go_upto_region 5 with (first
  | (go_at_call 81;(refine (see_lit HP1.out 0 (by omega) hT hat hu).mono ?_);rintro e w2 ⟨rfl,hb⟩;have HG2:Hid (GrowA pb w w2):=(HG1.out.below hb);have HP2:Hid (PaS w2 pb b c T st):=(HP1.out.below hb);have HR2:Hid (PhZ w2 r):=(HR1.out.below hb);clear hb HP1 HG1 HR1)
  | (go_at_call 177;(refine (axis_use HTB.out HP2.out HG2.out us hax).mono ?_);rintro e w3 ⟨rfl,hb⟩;have HG3:Hid (GrowA pb w w3):=(HG2.out.below hb);have HP3:Hid (PaS w3 pb b c T st):=(HP2.out.below hb);have HR3:Hid (PhZ w3 r):=(HR2.out.below hb);clear hb HP2 HG2 HR2))
 have x1:=HP3.out.a
 have f1:=HP3.out.fa
 have hl3:=HP3.out.pl
 have HR9:Hid (PhB (w3.setCell ⟨pb,1,none⟩ (vI ((st.at':Int) + 2))) r (pZA 0)):=HR3.out.grow ((GrowA.refl _ _).set 1 _) hrp
 obtain ⟨W4,hW4⟩:∃ W,W=w3.setCell ⟨pb,1,none⟩ (vI ((st.at':Int) + 2)):=⟨_,rfl⟩
 have HP4:Hid (PaS W4 pb b c T { st with at':=st.at' + 2 }):=by rw [hW4];exact HP3.out.setA (st.at' + 2)
 have HG4:Hid (GrowA pb w W4):=by rw [hW4];exact HG3.out.set 1 _
 have HR4:Hid (PhZ W4 r):=by rw [hW4];exact HR9.out
 go_upto_region 6 with fail
 rw [<- hW4]
 clear hW4 x1 f1 hl3 HR9 HP3 HG3 HR3
 go_wp2_with (first
  | (go_at_call 174;(refine (HTE.out.use HTB.out HP4.out HG4.out).mono ?_);rintro e w5 ⟨rfl,hp,hg⟩;have HG5:Hid (GrowA pb w w5):=(HG4.out.trans hg);have HP5:Hid (PaS w5 pb b c T s2):=hp;have HR5:Hid (PhZ w5 r):=(HR4.out.grow hg hrp);clear hp hg HP4 HG4 HR4)
  | (go_at_call 171;have HNX:=HP5;refine (along_is _ _ _ _).mono ?_;rintro e w6 ⟨rfl,hb⟩;have HG6:Hid (GrowA pb w w6):=(HG5.out.below hb);have HP6:Hid (PaS w6 pb b c T s2):=(HP5.out.below hb);have HR6:Hid (PhZ w6 r):=(HR5.out.below hb);obtain ⟨⟨y0,y1,y2,y3,y4,y5,y6,y7,y8,y9,y10⟩,z0,z1,z2,z3,z4,z5,z6,z7,z8,z9,z10⟩:=HR6.out.cells;clear hb HNX HP5 HG5 HR5))
 refine bodyPost_ret (v:=.agg (pA 9 0 0 ⟨#[]⟩ ⟨#[]⟩ 0 ax tk tn none 0 0 none 0 0)) (by simp [results,Tryz.results173,go_sem,y0,y1,y2,y3,y4,y5,y6,y7,y8,y9,y10]) rfl ⟨(pL 9 0 0 ⟨#[]⟩ ⟨#[]⟩ 0 ax tk tn none 0 0 none 0 0),?_,rfl,?_,?_⟩
 · exact tre_ph0
 · (repeat (first | with_reducible refine PaS.setR ?_ hrp hrb _ _ | with_reducible refine PaS.allocI ?_ _ | exact HP6.out))
 · (repeat (first | with_reducible refine GrowA.setR ?_ HRW.out _ _ | with_reducible refine GrowA.alloc ?_ _ | exact HG6.out))
theorem bareStep_axis {pb b c:Nat} {T:List Tok} {st:Pst} {us u1s:ByteArray} {un u1k u1n:Int} {s2:Pst} {p:Ph} (hT:T.length<=200) (hat:st.at'<=300) (hu:seeM T st 0=⟨1,us,un⟩) (hu1:seeM T st 1=⟨u1k,u1s,u1n⟩) (y1:eqT ⟨u1k,u1s,u1n⟩ ⟨5,⟨#[58,58]⟩,0⟩=true) (hlu:RunT pb b c T 173 #[vP pb 0] st s2 p):RunT pb b c T 172 #[vP pb 0] st s2 p:=by
 intro w h htb
 have HTB:Hid (RTab w pb):=htb
 clear htb
 have HLU:Hid (RunT pb b c T 173 #[vP pb 0] st s2 p):=hlu
 clear hlu
 have EF:=field_kind 1 un us
 have E1:=eqT_run y1
 have hpl:=h.pl
 have hbl:=h.bl
 go_enter Tryz.func172,Tryz.ntmps172
 go_upto_region 1 with fail
 obtain ⟨W1,hW1⟩:∃ W,W=w.alloc (.cells (pZA 0) 44):=⟨_,rfl⟩
 have HG1:Hid (GrowA pb w W1):=by rw [hW1];exact (GrowA.refl _ _).alloc _
 have HP1:Hid (PaS W1 pb b c T st):=by rw [hW1];exact h.allocI _
 have HR1:Hid (PhZ W1 w.heap.size):=by rw [hW1];exact PhB.new w _
 rw [<- hW1]
 obtain ⟨r,hr⟩:∃ r,r=w.heap.size:=⟨_,rfl⟩
 have HRW:Hid (w.heap.size<=r):=Nat.le_of_eq hr.symm
 have hrp:r≠pb:=by omega
 have hrb:r≠b:=by omega
 rw [<- hr] at HR1 ⊢
 clear hW1 hr h hpl hbl
 go_wp2_with (first
  | (go_at_call 81;(refine (see_lit HP1.out 0 (by omega) hT hat hu).mono ?_);rintro e w2 ⟨rfl,hb⟩;have HG2:Hid (GrowA pb w w2):=(HG1.out.below hb);have HP2:Hid (PaS w2 pb b c T st):=(HP1.out.below hb);have HR2:Hid (PhZ w2 r):=(HR1.out.below hb);clear hb HP1 HG1 HR1)
  | (go_at_call 81;(refine (see_lit HP2.out 1 (by omega) hT hat hu1).mono ?_);rintro e w3 ⟨rfl,hb⟩;have HG3:Hid (GrowA pb w w3):=(HG2.out.below hb);have HP3:Hid (PaS w3 pb b c T st):=(HP2.out.below hb);have HR3:Hid (PhZ w3 r):=(HR2.out.below hb);clear hb HP2 HG2 HR2)
  | (go_at_call 82;have HNX:=HP3;refine (mark_is _ _).mono ?_;rintro e w4 ⟨rfl,hb⟩;have HG4:Hid (GrowA pb w w4):=(HG3.out.below hb);have HP4:Hid (PaS w4 pb b c T st):=(HP3.out.below hb);have HR4:Hid (PhZ w4 r):=(HR3.out.below hb);clear hb HNX HP3 HG3 HR3)
  | (go_at_call 173;(first | refine (HLU.out.use HTB.out HP4.out HG4.out (show r<_ from by have k:=HR4.out.lt;first | exact k | (simp;omega))).mono ?_ | refine (HLU.out.use HTB.out (HP4.out.allocI _) (HG4.out.alloc _) (show r<_ from by have k:=HR4.out.lt;first | exact k | (simp;omega))).mono ?_ | refine (HLU.out.use HTB.out ((HP4.out.allocI _).allocI _) ((HG4.out.alloc _).alloc _) (show r<_ from by have k:=HR4.out.lt;first | exact k | (simp;omega))).mono ?_);rintro e w5 ⟨lo1,v,hlo,hv,rfl,hp,hg⟩;obtain ⟨k0_1,k1_1,k2_1,k5_1,k6_1,k7_1,s3_1,s4_1,s8_1,a9_1,a10_1,l9_1,c9_1,l10_1,c10_1,rfl⟩:=hv.form;have hlo1:=hlo.1;have hlp1:=hlo.2.1;have hlz1:=hlo.2.2;have HG5:Hid (GrowA pb w w5):=(HG4.out.trans hg);have HP5:Hid (PaS w5 pb b c T s2):=hp;have HR5:Hid (PhZ w5 r):=(HR4.out.grow hg hrp);have HV1_5:Hid (Tre w5 lo1 p (pL k0_1 k1_1 k2_1 s3_1 s4_1 k5_1 k6_1 k7_1 s8_1 a9_1 l9_1 c9_1 a10_1 l10_1 c10_1)):=hv;obtain ⟨⟨y0,y1,y2,y3,y4,y5,y6,y7,y8,y9,y10⟩,z0,z1,z2,z3,z4,z5,z6,z7,z8,z9,z10⟩:=HR5.out.cells;clear hv hlo hp hg HP4 HG4 HR4))
 refine bodyPost_ret (v:=.agg (pA k0_1 k1_1 k2_1 s3_1 s4_1 k5_1 k6_1 k7_1 s8_1 a9_1 l9_1 c9_1 a10_1 l10_1 c10_1)) (by simp [results,Tryz.results172,go_sem,y0,y1,y2,y3,y4,y5,y6,y7,y8,y9,y10]) rfl ⟨(pL k0_1 k1_1 k2_1 s3_1 s4_1 k5_1 k6_1 k7_1 s8_1 a9_1 l9_1 c9_1 a10_1 l10_1 c10_1),?_,rfl,?_,?_⟩
 · (refine Tre.mono (lo:=lo1) ?_ (by have:=HRW.out;omega);(repeat (first | with_reducible refine Tre.setR ?_ hlo1 _ _ | with_reducible refine Tre.allocI ?_ _ | with_reducible exact HV1_5.out)))
 · (repeat (first | with_reducible refine PaS.setR ?_ hrp hrb _ _ | with_reducible refine PaS.allocI ?_ _ | exact HP5.out))
 · (repeat (first | with_reducible refine GrowA.setR ?_ HRW.out _ _ | with_reducible refine GrowA.alloc ?_ _ | exact HG5.out))
end Go.Proofs.YtmcmbdkpfcibkaaGreatDoor
