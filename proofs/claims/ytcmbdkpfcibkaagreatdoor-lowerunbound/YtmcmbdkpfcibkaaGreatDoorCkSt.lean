import Derived.Test.YtmcmbdkpfcibkaaGreatDoorPoNext
import Derived.Test.YtmcmbdkpfcibkaaGreatDoorTie
import Derived.ProofKit
import Derived.Lib.LaidTab
import Derived.Lib.LaidIn
import Derived.Lib.LaidU8T
import Derived.PinnedBridge
import Derived.Test.YtmcmbdkpfcibkaaGreatDoorPtChild
import Derived.Test.YtmcmbdkpfcibkaaGreatDoorPtNo2
import Derived.Defers
import Derived.Laws.OwnMore
import Derived.Deep.RegionHeld3
import Derived.Deep.QuietTactic
import Derived.Test.YtmcmbdkpfcibkaaGreatDoorQoAst
import Derived.Laws.Concat
import Derived.Test.YtmcmbdkpfcibkaaGreatDoorCkFns
set_option maxHeartbeats 3200000
namespace Go.Proofs.YtmcmbdkpfcibkaaGreatDoor
open Go.ChangeShapes Go.WideShapes Go.ChangeAt Go.RowKit
theorem accept_eq:(Rows.laid_unicode_utf8_acceptRanges:DataW Unit)=Lib.acceptData:=by kernel_rfl
theorem first_eq:Rows.laid_unicode_utf8_first=Lib.firstData:=Pinned.utf8First_eq
theorem tabs_of {W:World} {l:List (String × DataW Unit)} (hL:laidMet Tryz.prog l W) (hf:("unicode/utf8.first",Rows.laid_unicode_utf8_first)∈l) (ha:("unicode/utf8.acceptRanges",Rows.laid_unicode_utf8_acceptRanges)∈l):Tabs W:=by
 have h1:Lib.VarReads Tryz.prog W "unicode/utf8.first" Rows.laid_unicode_utf8_first:=Lib.laidMet.reads hL hf
 have h2:Lib.VarReads Tryz.prog W "unicode/utf8.acceptRanges" Rows.laid_unicode_utf8_acceptRanges:=Lib.laidMet.reads hL ha
 rw [first_eq] at h1
 rw [accept_eq] at h2
 exact utf8Tabs_of_readsT (U8Types.of196 Tryz.laysValid) ⟨by kernel_rfl,by kernel_rfl,by kernel_rfl,by kernel_rfl,by kernel_rfl,by kernel_rfl,by kernel_rfl⟩ h1 h2
set_option linter.unusedVariables false
set_option maxRecDepth 100000
open Go.RowKit
theorem childBegins_use {pb b c:Nat} {T:List Tok} {st:Pst} {w W:World} (ht:RTab w pb) (h:PaS W pb b c T st) (hg:GrowA pb w W) (hT:T.length<=200) (hat:st.at'<=300) {v:Bool} (hc:childB (seeM T st 0) (seeM T st 1) (seeM T st 2)=v) :
 Calls Tryz.prog 175 #[vP pb 0] W fun e w'=>e=.returned (.bool v)/\Below W.heap.size W w':=by
 have:=childBegins_any h hT hat (ht.grow hg).2.1
 rw [hc] at this
 exact this
theorem bareStep_word {pb b c:Nat} {T:List Tok} {st:Pst} {us u1s:ByteArray} {un u1k u1n:Int} {s2:Pst} {p:Ph} (hT:T.length<=200) (hat:st.at'<=300) (hu:seeM T st 0=⟨1,us,un⟩) (hu1:seeM T st 1=⟨u1k,u1s,u1n⟩) (n1:eqT ⟨u1k,u1s,u1n⟩ ⟨5,⟨#[58,58]⟩,0⟩=false) (n2:eqT ⟨1,us,un⟩ ⟨5,⟨#[64]⟩,0⟩=false) (n3:eqT ⟨1,us,un⟩ ⟨5,⟨#[46,46]⟩,0⟩=false) (hc:childB (seeM T st 0) (seeM T st 1) (seeM T st 2)=false) (hlu:RunT pb b c T 176 #[vP pb 0] st s2 p):RunT pb b c T 172 #[vP pb 0] st s2 p:=by
 intro w h htb
 have HTB:Hid (RTab w pb):=htb
 clear htb
 have HLU:Hid (RunT pb b c T 176 #[vP pb 0] st s2 p):=hlu
 clear hlu
 have EF:=field_kind 1 un us
 have E1:=eqT_run n1
 have hpl:=h.pl
 have hbl:=h.bl
 go_enter Tryz.func172,Tryz.ntmps172
 go_upto_region 1 with fail
 obtain ⟨W1,hW1⟩:∃ W,W=w.alloc (.cells (pZA 0) 44):=⟨_,rfl⟩
 have HG1:Hid (GrowA pb w W1):=by rw [hW1];exact (GrowA.refl _ _).alloc _
 have HP1:Hid (PaS W1 pb b c T st):=by rw [hW1];exact h.allocI _
 have HR1:Hid (PhZ W1 w.heap.size):=by rw [hW1];exact PhB.new w _
 rw [<- hW1]
 obtain ⟨r,hr⟩:∃ r,r=w.heap.size:=⟨_,rfl⟩
 have HRW:Hid (w.heap.size<=r):=Nat.le_of_eq hr.symm
 have hrp:r≠pb:=by omega
 have hrb:r≠b:=by omega
 rw [<- hr] at HR1 ⊢
 clear hW1 hr h hpl hbl
 go_wp2_with (first
  | (go_at_call 81;(refine (see_lit HP1.out 0 (by omega) hT hat hu).mono ?_);rintro e w2 ⟨rfl,hb⟩;have HG2:=HidOf (HG1.out.below hb);have HP2:=HidOf (HP1.out.below hb);have HR2:=HidOf (HR1.out.below hb);clear hb HP1 HG1 HR1)
  | (go_at_call 81;(refine (see_lit HP2.out 1 (by omega) hT hat hu1).mono ?_);rintro e w3 ⟨rfl,hb⟩;have HG3:=HidOf (HG2.out.below hb);have HP3:=HidOf (HP2.out.below hb);have HR3:=HidOf (HR2.out.below hb);clear hb HP2 HG2 HR2)
  | (go_at_call 82;have HNX:=HP3;refine (mark_is _ _).mono ?_;rintro e w4 ⟨rfl,hb⟩;have HG4:=HidOf (HG3.out.below hb);have HP4:=HidOf (HP3.out.below hb);have HR4:=HidOf (HR3.out.below hb);clear hb HNX HP3 HG3 HR3)
  | (go_at_call 82;have HNX:=HP4;refine (mark_is _ _).mono ?_;rintro e w5 ⟨rfl,hb⟩;have HG5:=HidOf (HG4.out.below hb);have HP5:=HidOf (HP4.out.below hb);have HR5:=HidOf (HR4.out.below hb);clear hb HNX HP4 HG4 HR4)
  | (go_at_call 85;(refine (skip_no HP5.out hT hat _ _ _ (by rw [hu];exact n2)).mono ?_);rintro e w6 ⟨rfl,hp,hg⟩;have HG6:=HidOf (HG5.out.trans hg);have HP6:Hid (PaS w6 pb b c T st):=hp;have HR6:=HidOf (HR5.out.grow hg hrp);clear hp hg HP5 HG5 HR5)
  | (go_at_call 82;have HNX:=HP6;refine (mark_is _ _).mono ?_;rintro e w7 ⟨rfl,hb⟩;have HG7:=HidOf (HG6.out.below hb);have HP7:=HidOf (HP6.out.below hb);have HR7:=HidOf (HR6.out.below hb);clear hb HNX HP6 HG6 HR6)
  | (go_at_call 85;(refine (skip_no HP7.out hT hat _ _ _ (by rw [hu];exact n3)).mono ?_);rintro e w8 ⟨rfl,hp,hg⟩;have HG8:=HidOf (HG7.out.trans hg);have HP8:Hid (PaS w8 pb b c T st):=hp;have HR8:=HidOf (HR7.out.grow hg hrp);clear hp hg HP7 HG7 HR7)
  | (go_at_call 175;(refine (childBegins_use HTB.out HP8.out HG8.out hT hat hc).mono ?_);rintro e w9 ⟨rfl,hb⟩;have HG9:=HidOf (HG8.out.below hb);have HP9:=HidOf (HP8.out.below hb);have HR9:=HidOf (HR8.out.below hb);clear hb HP8 HG8 HR8)
  | (go_at_call 176;(first | refine (HLU.out.use HTB.out HP9.out HG9.out (show r<_ from by have k:=HR9.out.lt;first | exact k | (simp;omega))).mono ?_ | refine (HLU.out.use HTB.out (HP9.out.allocI _) (HG9.out.alloc _) (show r<_ from by have k:=HR9.out.lt;first | exact k | (simp;omega))).mono ?_ | refine (HLU.out.use HTB.out ((HP9.out.allocI _).allocI _) ((HG9.out.alloc _).alloc _) (show r<_ from by have k:=HR9.out.lt;first | exact k | (simp;omega))).mono ?_);rintro e w10 ⟨lo1,v,hlo,hv,rfl,hp,hg⟩;obtain ⟨k0_1,k1_1,k2_1,k5_1,k6_1,k7_1,s3_1,s4_1,s8_1,a9_1,a10_1,l9_1,c9_1,l10_1,c10_1,rfl⟩:=hv.form;have hlo1:=hlo.1;have hlp1:=hlo.2.1;have hlz1:=hlo.2.2;have HG10:=HidOf (HG9.out.trans hg);have HP10:Hid (PaS w10 pb b c T s2):=hp;have HR10:=HidOf (HR9.out.grow hg hrp);have HV1_10:Hid (Tre w10 lo1 p (pL k0_1 k1_1 k2_1 s3_1 s4_1 k5_1 k6_1 k7_1 s8_1 a9_1 l9_1 c9_1 a10_1 l10_1 c10_1)):=hv;obtain ⟨⟨y0,y1,y2,y3,y4,y5,y6,y7,y8,y9,y10⟩,z0,z1,z2,z3,z4,z5,z6,z7,z8,z9,z10⟩:=HR10.out.cells;clear hv hlo hp hg HP9 HG9 HR9))
 refine bodyPost_ret (v:=.agg (pA k0_1 k1_1 k2_1 s3_1 s4_1 k5_1 k6_1 k7_1 s8_1 a9_1 l9_1 c9_1 a10_1 l10_1 c10_1)) (by simp [results,Tryz.results172,go_sem,y0,y1,y2,y3,y4,y5,y6,y7,y8,y9,y10]) rfl ⟨(pL k0_1 k1_1 k2_1 s3_1 s4_1 k5_1 k6_1 k7_1 s8_1 a9_1 l9_1 c9_1 a10_1 l10_1 c10_1),?_,rfl,?_,?_⟩
 · (refine Tre.mono (lo:=lo1) ?_ (by have:=HRW.out;omega);(repeat (first | with_reducible refine Tre.setR ?_ hlo1 _ _ | with_reducible refine Tre.allocI ?_ _ | with_reducible exact HV1_10.out)))
 · (repeat (first | with_reducible refine PaS.setR ?_ hrp hrb _ _ | with_reducible refine PaS.allocI ?_ _ | exact HP10.out))
 · (repeat (first | with_reducible refine GrowA.setR ?_ HRW.out _ _ | with_reducible refine GrowA.alloc ?_ _ | exact HG10.out))
theorem bareStep_other {pb b c:Nat} {T:List Tok} {st:Pst} {us:ByteArray} {uk un:Int} {s2:Pst} {p:Ph} (hT:T.length<=200) (hat:st.at'<=300) (hu:seeM T st 0=⟨uk,us,un⟩) (k1:(uk == 1)=false) (n2:eqT ⟨uk,us,un⟩ ⟨5,⟨#[64]⟩,0⟩=false) (n3:eqT ⟨uk,us,un⟩ ⟨5,⟨#[46,46]⟩,0⟩=false) (hc:childB (seeM T st 0) (seeM T st 1) (seeM T st 2)=false) (hlu:RunT pb b c T 176 #[vP pb 0] st s2 p):RunT pb b c T 172 #[vP pb 0] st s2 p:=by
 intro w h htb
 have HTB:Hid (RTab w pb):=htb
 clear htb
 have HLU:Hid (RunT pb b c T 176 #[vP pb 0] st s2 p):=hlu
 clear hlu
 have EF:=field_kind uk un us
 have hpl:=h.pl
 have hbl:=h.bl
 go_enter Tryz.func172,Tryz.ntmps172
 go_upto_region 1 with fail
 obtain ⟨W1,hW1⟩:∃ W,W=w.alloc (.cells (pZA 0) 44):=⟨_,rfl⟩
 have HG1:Hid (GrowA pb w W1):=by rw [hW1];exact (GrowA.refl _ _).alloc _
 have HP1:Hid (PaS W1 pb b c T st):=by rw [hW1];exact h.allocI _
 have HR1:Hid (PhZ W1 w.heap.size):=by rw [hW1];exact PhB.new w _
 rw [<- hW1]
 obtain ⟨r,hr⟩:∃ r,r=w.heap.size:=⟨_,rfl⟩
 have HRW:Hid (w.heap.size<=r):=Nat.le_of_eq hr.symm
 have hrp:r≠pb:=by omega
 have hrb:r≠b:=by omega
 rw [<- hr] at HR1 ⊢
 clear hW1 hr h hpl hbl
 go_wp2_with (first
  | (go_at_call 81;(refine (see_lit HP1.out 0 (by omega) hT hat hu).mono ?_);rintro e w2 ⟨rfl,hb⟩;have HG2:=HidOf (HG1.out.below hb);have HP2:=HidOf (HP1.out.below hb);have HR2:=HidOf (HR1.out.below hb);clear hb HP1 HG1 HR1)
  | (go_at_call 82;have HNX:=HP2;refine (mark_is _ _).mono ?_;rintro e w3 ⟨rfl,hb⟩;have HG3:=HidOf (HG2.out.below hb);have HP3:=HidOf (HP2.out.below hb);have HR3:=HidOf (HR2.out.below hb);clear hb HNX HP2 HG2 HR2)
  | (go_at_call 85;(refine (skip_no HP3.out hT hat _ _ _ (by rw [hu];exact n2)).mono ?_);rintro e w4 ⟨rfl,hp,hg⟩;have HG4:=HidOf (HG3.out.trans hg);have HP4:Hid (PaS w4 pb b c T st):=hp;have HR4:=HidOf (HR3.out.grow hg hrp);clear hp hg HP3 HG3 HR3)
  | (go_at_call 82;have HNX:=HP4;refine (mark_is _ _).mono ?_;rintro e w5 ⟨rfl,hb⟩;have HG5:=HidOf (HG4.out.below hb);have HP5:=HidOf (HP4.out.below hb);have HR5:=HidOf (HR4.out.below hb);clear hb HNX HP4 HG4 HR4)
  | (go_at_call 85;(refine (skip_no HP5.out hT hat _ _ _ (by rw [hu];exact n3)).mono ?_);rintro e w6 ⟨rfl,hp,hg⟩;have HG6:=HidOf (HG5.out.trans hg);have HP6:Hid (PaS w6 pb b c T st):=hp;have HR6:=HidOf (HR5.out.grow hg hrp);clear hp hg HP5 HG5 HR5)
  | (go_at_call 175;(refine (childBegins_use HTB.out HP6.out HG6.out hT hat hc).mono ?_);rintro e w7 ⟨rfl,hb⟩;have HG7:=HidOf (HG6.out.below hb);have HP7:=HidOf (HP6.out.below hb);have HR7:=HidOf (HR6.out.below hb);clear hb HP6 HG6 HR6)
  | (go_at_call 176;(first | refine (HLU.out.use HTB.out HP7.out HG7.out (show r<_ from by have k:=HR7.out.lt;first | exact k | (simp;omega))).mono ?_ | refine (HLU.out.use HTB.out (HP7.out.allocI _) (HG7.out.alloc _) (show r<_ from by have k:=HR7.out.lt;first | exact k | (simp;omega))).mono ?_ | refine (HLU.out.use HTB.out ((HP7.out.allocI _).allocI _) ((HG7.out.alloc _).alloc _) (show r<_ from by have k:=HR7.out.lt;first | exact k | (simp;omega))).mono ?_);rintro e w8 ⟨lo1,v,hlo,hv,rfl,hp,hg⟩;obtain ⟨k0_1,k1_1,k2_1,k5_1,k6_1,k7_1,s3_1,s4_1,s8_1,a9_1,a10_1,l9_1,c9_1,l10_1,c10_1,rfl⟩:=hv.form;have hlo1:=hlo.1;have hlp1:=hlo.2.1;have hlz1:=hlo.2.2;have HG8:=HidOf (HG7.out.trans hg);have HP8:Hid (PaS w8 pb b c T s2):=hp;have HR8:=HidOf (HR7.out.grow hg hrp);have HV1_8:Hid (Tre w8 lo1 p (pL k0_1 k1_1 k2_1 s3_1 s4_1 k5_1 k6_1 k7_1 s8_1 a9_1 l9_1 c9_1 a10_1 l10_1 c10_1)):=hv;obtain ⟨⟨y0,y1,y2,y3,y4,y5,y6,y7,y8,y9,y10⟩,z0,z1,z2,z3,z4,z5,z6,z7,z8,z9,z10⟩:=HR8.out.cells;clear hv hlo hp hg HP7 HG7 HR7))
 refine bodyPost_ret (v:=.agg (pA k0_1 k1_1 k2_1 s3_1 s4_1 k5_1 k6_1 k7_1 s8_1 a9_1 l9_1 c9_1 a10_1 l10_1 c10_1)) (by simp [results,Tryz.results172,go_sem,y0,y1,y2,y3,y4,y5,y6,y7,y8,y9,y10]) rfl ⟨(pL k0_1 k1_1 k2_1 s3_1 s4_1 k5_1 k6_1 k7_1 s8_1 a9_1 l9_1 c9_1 a10_1 l10_1 c10_1),?_,rfl,?_,?_⟩
 · (refine Tre.mono (lo:=lo1) ?_ (by have:=HRW.out;omega);(repeat (first | with_reducible refine Tre.setR ?_ hlo1 _ _ | with_reducible refine Tre.allocI ?_ _ | with_reducible exact HV1_8.out)))
 · (repeat (first | with_reducible refine PaS.setR ?_ hrp hrb _ _ | with_reducible refine PaS.allocI ?_ _ | exact HP8.out))
 · (repeat (first | with_reducible refine GrowA.setR ?_ HRW.out _ _ | with_reducible refine GrowA.alloc ?_ _ | exact HG8.out))
open Go.RowKit
theorem listUpTo_end {pb b c:Nat} {T:List Tok} {st:Pst} {ek:Int} {es:ByteArray} (hT:T.length<=200) (hat:st.at'<=300) (hs:eqT (seeM T st 0) ⟨ek,es,0⟩=true):RunT pb b c T 180 #[vP pb 0,.agg #[vI ek,vS es,vI 0]] st { st with at':=st.at' + 1 } (ph0 3 ⟨0,0,⟨#[]⟩⟩ ⟨#[]⟩ 0 0 0 ⟨#[]⟩):=by
 intro w h htb
 have HTB:Hid (RTab w pb):=htb
 clear htb
 have hpl:=h.pl
 have hbl:=h.bl
 go_enter Tryz.func180,Tryz.ntmps180
 go_upto_region 1 with fail
 obtain ⟨W1,hW1⟩:∃ W,W=(w.alloc (.cells #[vI ek,vS es,vI 0] 65)).alloc (.cells (pZA 0) 44):=⟨_,rfl⟩
 have HG1:Hid (GrowA pb w W1):=by rw [hW1];exact ((GrowA.refl _ _).alloc _).alloc _
 have HP1:Hid (PaS W1 pb b c T st):=by rw [hW1];exact (h.allocI _).allocI _
 have HR1:Hid (PhZ W1 (w.heap.size + 1)):=by
  have k:=PhB.new (w.alloc (.cells #[vI ek,vS es,vI 0] 65)) (pZA 0)
  rw [show (w.alloc (.cells #[vI ek,vS es,vI 0] 65)).heap.size=w.heap.size + 1 by simp] at k
  rw [hW1];exact k
 have HY1:Hid (TkB W1 w.heap.size #[vI ek,vS es,vI 0]):=by rw [hW1];exact (TkB.new w _).allocI _
 rw [<- hW1]
 obtain ⟨r,hr⟩:∃ r,r=w.heap.size + 1:=⟨_,rfl⟩
 have HRW:Hid (w.heap.size<=r):=(show w.heap.size<=r by omega)
 have hrp:r≠pb:=by omega
 have htp:w.heap.size≠pb:=by omega
 obtain ⟨d0,d1,d2⟩:=HY1.out.cells
 have hrb:r≠b:=by omega
 rw [<- hr] at HR1 ⊢
 clear hW1 hr h hpl hbl
 go_wp2_with (first
  | (go_at_call 85;(refine (skip_yes HP1.out hT hat _ _ _ hs).mono ?_);rintro e w2 ⟨rfl,hp,hg⟩;have HG2:=HidOf (HG1.out.trans hg);have HP2:Hid (PaS w2 pb b c T { st with at':=st.at' + 1 }):=hp;have HR2:=HidOf (HR1.out.grow hg hrp);have HY2:=HidOf (HY1.out.grow hg htp);clear d0 d1 d2;obtain ⟨⟨y0,y1,y2,y3,y4,y5,y6,y7,y8,y9,y10⟩,z0,z1,z2,z3,z4,z5,z6,z7,z8,z9,z10⟩:=HR2.out.cells;clear hp hg HP1 HG1 HR1 HY1))
 refine bodyPost_ret (v:=.agg (pZA 3)) (by simp [results,Tryz.results180,go_sem,y0,y1,y2,y3,y4,y5,y6,y7,y8,y9,y10]) rfl ⟨(pZ 3),?_,rfl,?_,?_⟩
 · exact tre_ph0
 · (repeat (first | with_reducible refine PaS.setR ?_ hrp hrb _ _ | with_reducible refine PaS.allocI ?_ _ | exact HP2.out))
 · (repeat (first | with_reducible refine GrowA.setR ?_ HRW.out _ _ | with_reducible refine GrowA.alloc ?_ _ | exact HG2.out))
theorem listUpTo_more {pb b c:Nat} {T:List Tok} {st:Pst} {ek:Int} {es:ByteArray} {s1 s2:Pst} {p:Ph} (hT:T.length<=200) (hat:st.at'<=300) (hat1:s1.at'<=300) (hs:eqT (seeM T st 0) ⟨ek,es,0⟩=false) (hw:wantM T s1 ⟨ek,es,0⟩=s2) (hlu:RunT pb b c T 20 #[vP pb 0] st s1 p):RunT pb b c T 180 #[vP pb 0,.agg #[vI ek,vS es,vI 0]] st s2 p:=by
 intro w h htb
 have HTB:Hid (RTab w pb):=htb
 clear htb
 have HLU:Hid (RunT pb b c T 20 #[vP pb 0] st s1 p):=hlu
 clear hlu
 have hpl:=h.pl
 have hbl:=h.bl
 go_enter Tryz.func180,Tryz.ntmps180
 go_upto_region 1 with fail
 obtain ⟨W1,hW1⟩:∃ W,W=(w.alloc (.cells #[vI ek,vS es,vI 0] 65)).alloc (.cells (pZA 0) 44):=⟨_,rfl⟩
 have HG1:Hid (GrowA pb w W1):=by rw [hW1];exact ((GrowA.refl _ _).alloc _).alloc _
 have HP1:Hid (PaS W1 pb b c T st):=by rw [hW1];exact (h.allocI _).allocI _
 have HR1:Hid (PhZ W1 (w.heap.size + 1)):=by
  have k:=PhB.new (w.alloc (.cells #[vI ek,vS es,vI 0] 65)) (pZA 0)
  rw [show (w.alloc (.cells #[vI ek,vS es,vI 0] 65)).heap.size=w.heap.size + 1 by simp] at k
  rw [hW1];exact k
 have HY1:Hid (TkB W1 w.heap.size #[vI ek,vS es,vI 0]):=by rw [hW1];exact (TkB.new w _).allocI _
 rw [<- hW1]
 obtain ⟨r,hr⟩:∃ r,r=w.heap.size + 1:=⟨_,rfl⟩
 have HRW:Hid (w.heap.size<=r):=(show w.heap.size<=r by omega)
 have hrp:r≠pb:=by omega
 have htp:w.heap.size≠pb:=by omega
 obtain ⟨d0,d1,d2⟩:=HY1.out.cells
 have hrb:r≠b:=by omega
 rw [<- hr] at HR1 ⊢
 clear hW1 hr h hpl hbl
 go_wp2_with (first
  | (go_at_call 85;(refine (skip_no HP1.out hT hat _ _ _ hs).mono ?_);rintro e w2 ⟨rfl,hp,hg⟩;have HG2:=HidOf (HG1.out.trans hg);have HP2:Hid (PaS w2 pb b c T st):=hp;have HR2:=HidOf (HR1.out.grow hg hrp);have HY2:=HidOf (HY1.out.grow hg htp);clear d0 d1 d2;clear hp hg HP1 HG1 HR1 HY1)
  | (go_at_call 20;(first | refine (HLU.out.use HTB.out HP2.out HG2.out (show r<_ from by have k:=HR2.out.lt;first | exact k | (simp;omega))).mono ?_ | refine (HLU.out.use HTB.out (HP2.out.allocI _) (HG2.out.alloc _) (show r<_ from by have k:=HR2.out.lt;first | exact k | (simp;omega))).mono ?_ | refine (HLU.out.use HTB.out ((HP2.out.allocI _).allocI _) ((HG2.out.alloc _).alloc _) (show r<_ from by have k:=HR2.out.lt;first | exact k | (simp;omega))).mono ?_);rintro e w3 ⟨lo1,v,hlo,hv,rfl,hp,hg⟩;obtain ⟨k0_1,k1_1,k2_1,k5_1,k6_1,k7_1,s3_1,s4_1,s8_1,a9_1,a10_1,l9_1,c9_1,l10_1,c10_1,rfl⟩:=hv.form;have hlo1:=hlo.1;have hlp1:=hlo.2.1;have hlz1:=hlo.2.2;have HG3:=HidOf (HG2.out.trans hg);have HP3:Hid (PaS w3 pb b c T s1):=hp;have HR3:=HidOf (HR2.out.grow hg hrp);have HY3:=HidOf (HY2.out.grow hg htp);have HV1_3:Hid (Tre w3 lo1 p (pL k0_1 k1_1 k2_1 s3_1 s4_1 k5_1 k6_1 k7_1 s8_1 a9_1 l9_1 c9_1 a10_1 l10_1 c10_1)):=hv;obtain ⟨e0,e1,e2⟩:=HY3.out.cells;have hy3:=HY3.out.lt;have hxp:w3.heap.size≠pb:=(by have:=HP3.out.pl;omega);clear hv hlo hp hg HP2 HG2 HR2 HY2)
  | (go_at_call 144;(refine (want_eq (HP3.out.allocI _) hT hat1 hw).mono ?_);rintro e w4 ⟨rfl,hp,hg⟩;have HG4:=HidOf ((HG3.out.alloc _).trans hg);have HP4:Hid (PaS w4 pb b c T s2):=hp;have HR4:=HidOf ((HR3.out.allocI _).grow hg hrp);have HY4:=HidOf ((HY3.out.allocI _).grow hg htp);have HV1_4:=HidOf ((HV1_3.out.allocI _).grow hg hlp1);have HX4:Hid (PhB w4 w3.heap.size (pA k0_1 k1_1 k2_1 s3_1 s4_1 k5_1 k6_1 k7_1 s8_1 a9_1 l9_1 c9_1 a10_1 l10_1 c10_1)):=(PhB.new w3 (pA k0_1 k1_1 k2_1 s3_1 s4_1 k5_1 k6_1 k7_1 s8_1 a9_1 l9_1 c9_1 a10_1 l10_1 c10_1)).grow hg hxp;obtain ⟨⟨y0,y1,y2,y3,y4,y5,y6,y7,y8,y9,y10⟩,z0,z1,z2,z3,z4,z5,z6,z7,z8,z9,z10⟩:=HR4.out.cells;obtain ⟨⟨m0,m1,m2,m3,m4,m5,m6,m7,m8,m9,m10⟩,j0,j1,j2,j3,j4,j5,j6,j7,j8,j9,j10⟩:=HX4.out.cells;clear hp hg HP3 HG3 HR3 HY3 HV1_3))
 refine bodyPost_ret (v:=.agg (pA k0_1 k1_1 k2_1 s3_1 s4_1 k5_1 k6_1 k7_1 s8_1 a9_1 l9_1 c9_1 a10_1 l10_1 c10_1)) (by simp [results,Tryz.results180,go_sem,y0,y1,y2,y3,y4,y5,y6,y7,y8,y9,y10]) rfl ⟨(pL k0_1 k1_1 k2_1 s3_1 s4_1 k5_1 k6_1 k7_1 s8_1 a9_1 l9_1 c9_1 a10_1 l10_1 c10_1),?_,rfl,?_,?_⟩
 · (refine Tre.mono (lo:=lo1) ?_ (by have:=HRW.out;omega);(repeat (first | with_reducible refine Tre.setR ?_ hlo1 _ _ | with_reducible refine Tre.allocI ?_ _ | with_reducible exact HV1_4.out)))
 · (repeat (first | with_reducible refine PaS.setR ?_ hrp hrb _ _ | with_reducible refine PaS.allocI ?_ _ | exact HP4.out))
 · (repeat (first | with_reducible refine GrowA.setR ?_ HRW.out _ _ | with_reducible refine GrowA.alloc ?_ _ | exact HG4.out))
open Go.RowKit
open Go.RowKit
theorem call_none {pb b c:Nat} {T:List Tok} {st:Pst} {us:ByteArray} {un:Int} {s2:Pst} (hT:T.length<=200) (hat:st.at'<=300) (hu:seeM T st 0=⟨1,us,un⟩) (hs:us.size<=4000) (ha1:st.at' + 1<=300) (hw:wantM T { st with at':=st.at' + 1 } ⟨5,⟨#[40]⟩,0⟩=s2) (ha2:s2.at'<=300) (hk:eqT (seeM T s2 0) ⟨5,⟨#[41]⟩,0⟩=true):RunT pb b c T 182 #[vP pb 0] st { s2 with at':=s2.at' + 1 } (ph0 8 ⟨0,0,⟨#[]⟩⟩ us 0 0 0 ⟨#[]⟩):=by
 intro w h htb
 have HTB:Hid (RTab w pb):=htb
 clear htb
 have hpl:=h.pl
 have hbl:=h.bl
 go_enter Tryz.func182,Tryz.ntmps182
 go_upto_region 1 with fail
 obtain ⟨W1,hW1⟩:∃ W,W=w.alloc (.cells (pZA 0) 44):=⟨_,rfl⟩
 have HG1:Hid (GrowA pb w W1):=by rw [hW1];exact (GrowA.refl _ _).alloc _
 have HP1:Hid (PaS W1 pb b c T st):=by rw [hW1];exact h.allocI _
 have HR1:Hid (PhZ W1 w.heap.size):=by rw [hW1];exact PhB.new w _
 rw [<- hW1]
 obtain ⟨r,hr⟩:∃ r,r=w.heap.size:=⟨_,rfl⟩
 have HRW:Hid (w.heap.size<=r):=Nat.le_of_eq hr.symm
 have hrp:r≠pb:=by omega
 have hrb:r≠b:=by omega
 rw [<- hr] at HR1 ⊢
 clear hW1 hr h hpl hbl
 go_upto_region 2 with (first
  | (go_at_call 145;(refine (text_yes HP1.out hT hat hu hs).mono ?_);rintro e w2 ⟨rfl,hp,hg⟩;have HG2:=HidOf (HG1.out.trans hg);have HP2:Hid (PaS w2 pb b c T { st with at':=st.at' + 1 }):=hp;have HR2:=HidOf (HR1.out.grow hg hrp);clear hp hg HP1 HG1 HR1))
 obtain ⟨W3,hW3⟩:∃ W,W=w2.alloc (.cells (pA 8 0 0 ⟨#[]⟩ us 0 0 0 ⟨#[]⟩ none 0 0 none 0 0) 44):=⟨_,rfl⟩
 have HP3:Hid (PaS W3 pb b c T { st with at':=st.at' + 1 }):=by rw [hW3];exact HP2.out.allocI _
 have HG3:Hid (GrowA pb w W3):=by rw [hW3];exact HG2.out.alloc _
 have HR3:Hid (PhZ W3 r):=by rw [hW3];exact HR2.out.allocI _
 have HX3:Hid (PhB W3 w2.heap.size (pA 8 0 0 ⟨#[]⟩ us 0 0 0 ⟨#[]⟩ none 0 0 none 0 0)):=by rw [hW3];exact PhB.new w2 _
 have hxp:w2.heap.size≠pb:=by have:=HP2.out.pl;omega
 have hxb:w2.heap.size≠b:=by have:=HP2.out.bl;omega
 have hxw:w.heap.size<=w2.heap.size:=HG2.out.1
 have hrx2:r<w2.heap.size:=HR2.out.lt
 have hrx:r≠w2.heap.size:=by omega
 rw [<- hW3]
 clear hW3 HP2 HG2 HR2
 go_wp2_with (first
  | (go_at_call 82;have HNX:=HP3;refine (mark_is _ _).mono ?_;rintro e w4 ⟨rfl,hb⟩;have HG4:=HidOf (HG3.out.below hb);have HP4:=HidOf (HP3.out.below hb);have HR4:=HidOf (HR3.out.below hb);have HX4:=HidOf (HX3.out.below hb);clear hb HNX HP3 HG3 HR3 HX3)
  | (go_at_call 144;(refine (want_eq HP4.out hT ha1 hw).mono ?_);rintro e w5 ⟨rfl,hp,hg⟩;have HG5:=HidOf (HG4.out.trans hg);have HP5:Hid (PaS w5 pb b c T s2):=hp;have HR5:=HidOf (HR4.out.grow hg hrp);have HX5:=HidOf (HX4.out.grow hg hxp);clear hp hg HP4 HG4 HR4 HX4)
  | (go_at_call 82;have HNX:=HP5;refine (mark_is _ _).mono ?_;rintro e w6 ⟨rfl,hb⟩;have HG6:=HidOf (HG5.out.below hb);have HP6:=HidOf (HP5.out.below hb);have HR6:=HidOf (HR5.out.below hb);have HX6:=HidOf (HX5.out.below hb);clear hb HNX HP5 HG5 HR5 HX5)
  | (go_at_call 85;(refine (skip_yes HP6.out hT ha2 _ _ _ hk).mono ?_);rintro e w7 ⟨rfl,hp,hg⟩;have HG7:=HidOf (HG6.out.trans hg);have HP7:Hid (PaS w7 pb b c T { s2 with at':=s2.at' + 1 }):=hp;have HR7:=HidOf (HR6.out.grow hg hrp);have HX7:=HidOf (HX6.out.grow hg hxp);obtain ⟨⟨y0,y1,y2,y3,y4,y5,y6,y7,y8,y9,y10⟩,z0,z1,z2,z3,z4,z5,z6,z7,z8,z9,z10⟩:=HR7.out.cells;obtain ⟨⟨m0,m1,m2,m3,m4,m5,m6,m7,m8,m9,m10⟩,j0,j1,j2,j3,j4,j5,j6,j7,j8,j9,j10⟩:=HX7.out.cells;clear hp hg HP6 HG6 HR6 HX6))
 refine bodyPost_ret (v:=.agg (pA 8 0 0 ⟨#[]⟩ us 0 0 0 ⟨#[]⟩ none 0 0 none 0 0)) (by simp [results,Tryz.results182,go_sem,y0,y1,y2,y3,y4,y5,y6,y7,y8,y9,y10]) rfl ⟨(pL 8 0 0 ⟨#[]⟩ us 0 0 0 ⟨#[]⟩ none 0 0 none 0 0),?_,rfl,?_,?_⟩
 · exact tre_ph0
 · (repeat (first | with_reducible refine PaS.setR ?_ hrp hrb _ _ | with_reducible refine PaS.allocI ?_ _ | exact HP7.out))
 · (repeat (first | with_reducible refine GrowA.setR ?_ HRW.out _ _ | with_reducible refine GrowA.alloc ?_ _ | exact HG7.out))
open Go.RowKit
theorem step_plain {pb b c:Nat} {T:List Tok} {st:Pst} {s0 s1:Pst} {p:Ph} {u1s:ByteArray} {u1k u1n:Int} (hT:T.length<=200) (hat:st.at'<=300) (ho:st.opn<=100) (hop:1<=s1.opn/\s1.opn<=200) (hat1:s1.at'<=300) (he:enterM T st (stepB (seeM T st 0))=s0) (hu1:seeM T s1 0=⟨u1k,u1s,u1n⟩) (nb:eqT ⟨u1k,u1s,u1n⟩ ⟨5,⟨#[91]⟩,0⟩=false) (hlu:RunT pb b c T 172 #[vP pb 0] s0 s1 p):RunT pb b c T 169 #[vP pb 0] st { s1 with opn:=s1.opn - 1 } p:=by
 intro w h htb
 have HTB:Hid (RTab w pb):=htb
 clear htb
 have HLU:Hid (RunT pb b c T 172 #[vP pb 0] s0 s1 p):=hlu
 clear hlu
 obtain ⟨beg,hbeg⟩:∃ x,x=stepB (seeM T st 0):=⟨_,rfl⟩
 have SB:Hid (∀ W,PaS W pb b c T st->Calls Tryz.prog 83 #[vP pb 0] W fun e w'=>e=.returned (.bool beg)/\Below W.heap.size W w'):=fun W h=>by rw [hbeg];exact stepBegins_any h hT hat
 rw [<- hbeg] at he
 clear hbeg
 have EN:=neT_run nb
 have hpl:=h.pl
 have hbl:=h.bl
 have HPW:Hid (pb<w.heap.size):=hpl
 go_enter_defers Tryz.func169,Tryz.ntmps169
 go_upto_region 1 with fail
 obtain ⟨W1,hW1⟩:∃ W,W=w.alloc (.cells (pZA 0) 44):=⟨_,rfl⟩
 have HG1:Hid (GrowA pb w W1):=by rw [hW1];exact (GrowA.refl _ _).alloc _
 have HP1:Hid (PaS W1 pb b c T st):=by rw [hW1];exact h.allocI _
 have HR1:Hid (PhZ W1 w.heap.size):=by rw [hW1];exact PhB.new w _
 rw [<- hW1]
 obtain ⟨r,hr⟩:∃ r,r=w.heap.size:=⟨_,rfl⟩
 have HRW:Hid (w.heap.size<=r):=Nat.le_of_eq hr.symm
 have hrp:r≠pb:=by omega
 have hrb:r≠b:=by omega
 rw [<- hr] at HR1 ⊢
 clear hW1 hr h hpl hbl
 go_wp2_with (first
  | (go_at_call 83;(refine (SB.out _ HP1.out).mono ?_);rintro e w2 ⟨rfl,hb⟩;have HG2:=HidOf (HG1.out.below hb);have HP2:=HidOf (HP1.out.below hb);have HR2:=HidOf (HR1.out.below hb);clear hb HP1 HG1 HR1)
  | (go_at_call 49;(refine (penter_is HP2.out _ ho).mono ?_);rintro e w3 ⟨q,rfl,hl,hp,hg,hq⟩;have HG3:=HidOf (HG2.out.trans hg);have HP3:Hid (PaS w3 pb b c T s0):=(by rw [<- he];exact hp);have HR3:=HidOf (HR2.out.grow hg hrp);have HL3:Hid (Leave w3 pb q):=hl;have hrq:r≠q:=(by have k1:=HR2.out.lt;first | omega | (simp at hq;omega));clear hl hp hg hq HP2 HG2 HR2)
  | (go_at_call 172;(first | refine (HLU.out.use HTB.out HP3.out HG3.out (show r<_ from by have k:=HR3.out.lt;first | exact k | (simp;omega))).mono ?_ | refine (HLU.out.use HTB.out (HP3.out.allocI _) (HG3.out.alloc _) (show r<_ from by have k:=HR3.out.lt;first | exact k | (simp;omega))).mono ?_ | refine (HLU.out.use HTB.out ((HP3.out.allocI _).allocI _) ((HG3.out.alloc _).alloc _) (show r<_ from by have k:=HR3.out.lt;first | exact k | (simp;omega))).mono ?_);rintro e w4 ⟨lo1,v,hlo,hv,rfl,hp,hg⟩;obtain ⟨k0_1,k1_1,k2_1,k5_1,k6_1,k7_1,s3_1,s4_1,s8_1,a9_1,a10_1,l9_1,c9_1,l10_1,c10_1,rfl⟩:=hv.form;have hlo1:=hlo.1;have hlp1:=hlo.2.1;have hlz1:=hlo.2.2;have HG4:=HidOf (HG3.out.trans hg);have HP4:Hid (PaS w4 pb b c T s1):=hp;have HR4:=HidOf (HR3.out.grow hg hrp);have HL4:=HidOf (HL3.out.grow hg);have HV1_4:Hid (Tre w4 lo1 p (pL k0_1 k1_1 k2_1 s3_1 s4_1 k5_1 k6_1 k7_1 s8_1 a9_1 l9_1 c9_1 a10_1 l10_1 c10_1)):=hv;have hxp:w4.heap.size≠pb:=(by have:=HP4.out.pl;omega);clear hv hlo hp hg HP3 HG3 HR3 HL3)
  | (go_at_call 81;(refine (see_lit (HP4.out.allocI _) 0 (by omega) hT hat1 hu1).mono ?_);rintro e w5 ⟨rfl,hb⟩;have HG5:=HidOf ((HG4.out.alloc _).below hb);have HP5:=HidOf ((HP4.out.allocI _).below hb);have HR5:=HidOf ((HR4.out.allocI _).below hb);have HL5:=HidOf ((HL4.out.allocI _).below hb);have HV1_5:=HidOf ((HV1_4.out.allocI _).below hb);have HX5:Hid (PhB w5 w4.heap.size (pA k0_1 k1_1 k2_1 s3_1 s4_1 k5_1 k6_1 k7_1 s8_1 a9_1 l9_1 c9_1 a10_1 l10_1 c10_1)):=(PhB.new w4 (pA k0_1 k1_1 k2_1 s3_1 s4_1 k5_1 k6_1 k7_1 s8_1 a9_1 l9_1 c9_1 a10_1 l10_1 c10_1)).below hb;clear hb HP4 HG4 HR4 HL4 HV1_4)
  | (go_at_call 82;have HNX:=HP5;refine (mark_is _ _).mono ?_;rintro e w6 ⟨rfl,hb⟩;have HG6:=HidOf (HG5.out.below hb);have HP6:=HidOf (HP5.out.below hb);have HR6:=HidOf (HR5.out.below hb);have HL6:=HidOf (HL5.out.below hb);have HV1_6:=HidOf (HV1_5.out.below hb);have HX6:=HidOf (HX5.out.below hb);obtain ⟨⟨y0,y1,y2,y3,y4,y5,y6,y7,y8,y9,y10⟩,z0,z1,z2,z3,z4,z5,z6,z7,z8,z9,z10⟩:=HR6.out.cells;obtain ⟨⟨m0,m1,m2,m3,m4,m5,m6,m7,m8,m9,m10⟩,j0,j1,j2,j3,j4,j5,j6,j7,j8,j9,j10⟩:=HX6.out.cells;clear hb HNX HP5 HG5 HR5 HL5 HV1_5 HX5))
 obtain ⟨Wd,hWd⟩:∃ W,W=(((((((((((w6.setCell ⟨r,0,none⟩ (vI k0_1)).setCell ⟨r,1,none⟩ (vI k1_1)).setCell ⟨r,2,none⟩ (vI k2_1)).setCell ⟨r,3,none⟩ (vS s3_1)).setCell ⟨r,4,none⟩ (vS s4_1)).setCell ⟨r,5,none⟩ (vI k5_1)).setCell ⟨r,6,none⟩ (vI k6_1)).setCell ⟨r,7,none⟩ (vI k7_1)).setCell ⟨r,8,none⟩ (vS s8_1)).setCell ⟨r,9,none⟩ (.slice a9_1 l9_1 c9_1)).setCell ⟨r,10,none⟩ (.slice a10_1 l10_1 c10_1)):=⟨_,rfl⟩
 have HD:Hid (PaS Wd pb b c T s1):=by
  refine HidOf ?_
  rw [hWd]
  (repeat (first | with_reducible refine PaS.setR ?_ hrp hrb _ _ | with_reducible refine PaS.allocI ?_ _ | exact HP6.out))
 have HE:Hid (GrowA pb w Wd):=by
  refine HidOf ?_
  rw [hWd]
  (repeat (first | with_reducible refine GrowA.setR ?_ HRW.out _ _ | with_reducible refine GrowA.alloc ?_ _ | exact HG6.out))
 have HQ:Hid (Leave Wd pb q):=by
  refine HidOf ?_
  rw [hWd]
  (repeat (first | with_reducible refine Leave.setR ?_ hrq _ _ | with_reducible refine Leave.allocI ?_ _ | exact HL6.out))
 have HZ:Hid (PhB Wd r (pA k0_1 k1_1 k2_1 s3_1 s4_1 k5_1 k6_1 k7_1 s8_1 a9_1 l9_1 c9_1 a10_1 l10_1 c10_1)):=by rw [hWd];exact PhB.put HR6.out
 have HT:Hid (Tre Wd w.heap.size p (pL k0_1 k1_1 k2_1 s3_1 s4_1 k5_1 k6_1 k7_1 s8_1 a9_1 l9_1 c9_1 a10_1 l10_1 c10_1)):=by
  refine HidOf ?_
  rw [hWd]
  (refine Tre.mono (lo:=lo1) ?_ (by have:=HRW.out;omega);(repeat (first | with_reducible refine Tre.setR ?_ hlo1 _ _ | with_reducible refine Tre.allocI ?_ _ | with_reducible exact HV1_6.out)))
 rw [<- hWd]
 clear hWd
 refine leaves_cons (f:=80) (args:=#[vP q 0]) (by simp) (by simp [go_sem]) ?_
 refine (pleave_is HD.out HQ.out hop .returning).mono ?_
 rintro e u' w99 ⟨rfl,rfl,hp,hg⟩
 obtain ⟨⟨u0,u1,u2,u3,u4,u5,u6,u7,u8,u9,u10⟩,_⟩:=(HZ.out.grow hg hrp).cells
 exact ⟨.agg (pA k0_1 k1_1 k2_1 s3_1 s4_1 k5_1 k6_1 k7_1 s8_1 a9_1 l9_1 c9_1 a10_1 l10_1 c10_1),by simp [results,Tryz.results169,go_sem,u0,u1,u2,u3,u4,u5,u6,u7,u8,u9,u10],⟨_,HT.out.grow hg HPW.out,rfl,hp,HE.out.trans hg⟩⟩
open Go.RowKit
theorem minus_none {pb b c:Nat} {T:List Tok} {st:Pst} {us:ByteArray} {uk un:Int} {s1:Pst} {p:Ph} (hT:T.length<=200) (hat:st.at'<=300) (hu:seeM T st 0=⟨uk,us,un⟩) (n1:eqT ⟨uk,us,un⟩ ⟨5,⟨#[45]⟩,0⟩=false) (hlu:RunT pb b c T 163 #[vP pb 0] st s1 p):RunT pb b c T 146 #[vP pb 0] st s1 p:=by
 intro w h htb
 have HTB:Hid (RTab w pb):=htb
 clear htb
 have HLU:Hid (RunT pb b c T 163 #[vP pb 0] st s1 p):=hlu
 clear hlu
 have E1:=neT_run n1
 have hpl:=h.pl
 have hbl:=h.bl
 go_enter_defers Tryz.func146,Tryz.ntmps146
 go_upto_region 1 with fail
 obtain ⟨W1,hW1⟩:∃ W,W=w.alloc (.cells (pZA 0) 44):=⟨_,rfl⟩
 have HG1:Hid (GrowA pb w W1):=by rw [hW1];exact (GrowA.refl _ _).alloc _
 have HP1:Hid (PaS W1 pb b c T st):=by rw [hW1];exact h.allocI _
 have HR1:Hid (PhZ W1 w.heap.size):=by rw [hW1];exact PhB.new w _
 rw [<- hW1]
 obtain ⟨r,hr⟩:∃ r,r=w.heap.size:=⟨_,rfl⟩
 have HRW:Hid (w.heap.size<=r):=Nat.le_of_eq hr.symm
 have hrp:r≠pb:=by omega
 have hrb:r≠b:=by omega
 rw [<- hr] at HR1 ⊢
 clear hW1 hr h hpl hbl
 go_wp2_with (first
  | (go_at_call 81;(refine (see_lit HP1.out 0 (by omega) hT hat hu).mono ?_);rintro e w2 ⟨rfl,hb⟩;have HG2:=HidOf (HG1.out.below hb);have HP2:=HidOf (HP1.out.below hb);have HR2:=HidOf (HR1.out.below hb);clear hb HP1 HG1 HR1)
  | (go_at_call 82;have HNX:=HP2;refine (mark_is _ _).mono ?_;rintro e w3 ⟨rfl,hb⟩;have HG3:=HidOf (HG2.out.below hb);have HP3:=HidOf (HP2.out.below hb);have HR3:=HidOf (HR2.out.below hb);clear hb HNX HP2 HG2 HR2)
  | (go_at_call 163;(first | refine (HLU.out.use HTB.out HP3.out HG3.out (show r<_ from by have k:=HR3.out.lt;first | exact k | (simp;omega))).mono ?_ | refine (HLU.out.use HTB.out (HP3.out.allocI _) (HG3.out.alloc _) (show r<_ from by have k:=HR3.out.lt;first | exact k | (simp;omega))).mono ?_ | refine (HLU.out.use HTB.out ((HP3.out.allocI _).allocI _) ((HG3.out.alloc _).alloc _) (show r<_ from by have k:=HR3.out.lt;first | exact k | (simp;omega))).mono ?_);rintro e w4 ⟨lo1,v,hlo,hv,rfl,hp,hg⟩;obtain ⟨k0_1,k1_1,k2_1,k5_1,k6_1,k7_1,s3_1,s4_1,s8_1,a9_1,a10_1,l9_1,c9_1,l10_1,c10_1,rfl⟩:=hv.form;have hlo1:=hlo.1;have hlp1:=hlo.2.1;have hlz1:=hlo.2.2;have HG4:=HidOf (HG3.out.trans hg);have HP4:Hid (PaS w4 pb b c T s1):=hp;have HR4:=HidOf (HR3.out.grow hg hrp);have HV1_4:Hid (Tre w4 lo1 p (pL k0_1 k1_1 k2_1 s3_1 s4_1 k5_1 k6_1 k7_1 s8_1 a9_1 l9_1 c9_1 a10_1 l10_1 c10_1)):=hv;obtain ⟨⟨y0,y1,y2,y3,y4,y5,y6,y7,y8,y9,y10⟩,z0,z1,z2,z3,z4,z5,z6,z7,z8,z9,z10⟩:=HR4.out.cells;clear hv hlo hp hg HP3 HG3 HR3))
 refine ⟨.agg (pA k0_1 k1_1 k2_1 s3_1 s4_1 k5_1 k6_1 k7_1 s8_1 a9_1 l9_1 c9_1 a10_1 l10_1 c10_1),by simp [results,Tryz.results146,go_sem,y0,y1,y2,y3,y4,y5,y6,y7,y8,y9,y10],⟨(pL k0_1 k1_1 k2_1 s3_1 s4_1 k5_1 k6_1 k7_1 s8_1 a9_1 l9_1 c9_1 a10_1 l10_1 c10_1),?_,rfl,?_,?_⟩⟩
 · (refine Tre.mono (lo:=lo1) ?_ (by have:=HRW.out;omega);(repeat (first | with_reducible refine Tre.setR ?_ hlo1 _ _ | with_reducible refine Tre.allocI ?_ _ | with_reducible exact HV1_4.out)))
 · (repeat (first | with_reducible refine PaS.setR ?_ hrp hrb _ _ | with_reducible refine PaS.allocI ?_ _ | exact HP4.out))
 · (repeat (first | with_reducible refine GrowA.setR ?_ HRW.out _ _ | with_reducible refine GrowA.alloc ?_ _ | exact HG4.out))
open Go.RowKit
theorem operatorNext_no {w:World} {pb b c:Nat} {T:List Tok} {st:Pst} (h:PaS w pb b c T st) (hT:T.length<=200) (hat:st.at'<=300) {us:ByteArray} {uk un:Int} (hu:seeM T st 0=⟨uk,us,un⟩) (q1:(uk == 1)=false) (q5:(uk == 5)=false) (bd:Int) :
 Calls Tryz.prog 147 #[vP pb 0,vI bd] w fun e w'=>e=.returned (.bool false)/\Below w.heap.size w w':=by
 have CS:Hid (∀ W,Below w.heap.size w W->Calls Tryz.prog 81 #[vP pb 0,vI 0] W fun e w'=>e=.returned (.agg #[vI uk,vS us,vI un])/\Below w.heap.size w w'):=fun W hW=>(see_lit (h.below hW) 0 (by omega) hT hat hu).mono fun e w' ⟨k1,k2⟩=>⟨k1,hW.trans (k2.mono hW.size)⟩
 have q1':(uk != 1)=true:=by simp only [bne,q1];rfl
 have q5':(uk != 5)=true:=by simp only [bne,q5];rfl
 have HB0:Hid (Below w.heap.size w w):=Below.refl _ _
 clear h
 go_enter Tryz.func147,Tryz.ntmps147
 go_wp2_with (first
  | (go_at_call 81;have HNX:=HB0;(refine (CS.out _ HB0.out).mono ?_);rintro e w1 ⟨rfl,hb⟩;have HB1:Hid (Below w.heap.size w w1):=hb;clear hb HNX HB0))
 go_ret
 exact ⟨rfl,by first | exact HB1.out | exact HB1.out.alloc HB1.out.size _⟩
theorem operatorNext_1 {w:World} {pb b c:Nat} {T:List Tok} {st:Pst} (h:PaS w pb b c T st) (hT:T.length<=200) (hat:st.at'<=300) {us:ByteArray} {un:Int} (hu:seeM T st 0=⟨1,us,un⟩) (bd:Int) (ho:OpTab w) :
 Calls Tryz.prog 147 #[vP pb 0,vI bd] w fun e w'=>e=.returned (.bool (decide (0<=opOf us) && (opOf us == bd)))/\Below w.heap.size w w':=by
 have CS:Hid (∀ W,Below w.heap.size w W->Calls Tryz.prog 81 #[vP pb 0,vI 0] W fun e w'=>e=.returned (.agg #[vI 1,vS us,vI un])/\Below w.heap.size w w'):=fun W hW=>(see_lit (h.below hW) 0 (by omega) hT hat hu).mono fun e w' ⟨k1,k2⟩=>⟨k1,hW.trans (k2.mono hW.size)⟩
 have HO:Hid (∀ W,Below w.heap.size w W->OpTab W):=fun W hW=>ho.below hW
 obtain ⟨R,hR⟩:∃ R,R=(decide (0<=opOf us) && (opOf us == bd)):=⟨_,rfl⟩
 rw [<- hR]
 replace hR:Hid (R=(decide (0<=opOf us) && (opOf us == bd))):=hR
 clear ho
 have HB0:Hid (Below w.heap.size w w):=Below.refl _ _
 clear h
 go_enter Tryz.func147,Tryz.ntmps147
 go_upto_region 4 with (first | (go_at_call 81;have HNX:=HB0;(refine (CS.out _ HB0.out).mono ?_);rintro e w1 ⟨rfl,hb⟩;have HB1:Hid (Below w.heap.size w w1):=hb;clear hb HNX HB0))
 obtain ⟨W2,hW2⟩:∃ W,W=w1.alloc (.cells #[vI 1,vS us,vI un] 65):=⟨_,rfl⟩
 have HB2:Hid (Below w.heap.size w W2):=by rw [hW2];exact HB1.out.alloc HB1.out.size _
 have x1:W2.cell? ⟨w1.heap.size,1,none⟩=some (vS us):=by rw [hW2];simp
 have hxl:w1.heap.size<W2.heap.size:=by rw [hW2];simp
 have HSS:Hid (∀ W,Below W2.heap.size W2 W->W.cell? ⟨w1.heap.size,1,none⟩=some (vS us)/\w1.heap.size<W.heap.size):=fun W hb=>⟨(hb.cell (p:=⟨w1.heap.size,1,none⟩) hxl).trans x1,Nat.lt_of_lt_of_le hxl hb.size⟩
 obtain ⟨tt,fr,hgt⟩:=HO.out W2 HB2.out
 have HGT:Hid (W2.heap[5]?=some (.cells opCells tt fr)):=hgt
 rw [<- hW2]
 clear hW2 hgt x1 hxl HB1 CS HO
 go_wp2_with (refine wpList_load_row rfl 192 _ rfl 5 rfl tt _ fr _ HGT.out Tryz.underlying192 rfl (by kernel_rfl) ?_)
 go_loopw [19] (fun i wr=>∃ k:Nat,k<=21/\i=vI k/\Below W2.heap.size W2 wr/\Hid (∀ j,j<k->((opN j).toList == us.toList)=false)) (fun i _=>21 - (intOf i).toNat)
 case atStart=>exact ⟨0,by omega,rfl,Below.refl _ _,fun j hj=>absurd hj (by omega)⟩
 case round =>
  obtain ⟨k,hk,rfl,hbw,HN⟩:=hrel
  have HBW:Hid (Below W2.heap.size W2 wr):=hbw
  obtain ⟨y1,yl⟩:=HSS.out _ hbw
  clear hbw
  by_cases hlt:k<21
  · have hI:=op_index k hlt
    have hki:(k:Int)<21:=by omega
    cases hy:(opN k).toList == us.toList
    · have HN2:Hid (∀ j,j<k + 1->((opN j).toList == us.toList)=false):=fun j hj=>by
       by_cases e:j=k
       · rw [e];exact hy
       · exact HN.out j (by omega)
      generalize opN k=on at hI hy
      generalize opB k=ob at hI
      go_wp2
      go_roundw
      case rel=>exact ⟨k + 1,by omega,by go_num,HBW.out.alloc HBW.out.size _,HN2⟩
      case measure=>simp [intOf];omega
    · have HV:Hid (R=(opB k == bd)):=hR.out.trans (by
       have h1:opOf us=opB k:=goF_at hlt HN.out hy
       rw [h1,decide_eq_true (opB_pos k),Bool.true_and])
      generalize opN k=on at hI hy
      generalize opB k=ob at hI HV
      go_wp2
      go_ret
      exact ⟨by rw [HV.out];rfl,HB2.out.trans ((HBW.out.alloc HBW.out.size _).mono HB2.out.size)⟩
  · have hki:¬ ((k:Int)<21):=by omega
    obtain rfl:k=21:=by omega
    have HV:Hid (R=false):=hR.out.trans (by
     have h1:opOf us = -1:=goF_none HN.out
     rw [h1];rfl)
    go_wp2
    go_ret
    exact ⟨by rw [HV.out];rfl,HB2.out.trans (HBW.out.mono HB2.out.size)⟩
theorem operatorNext_5 {w:World} {pb b c:Nat} {T:List Tok} {st:Pst} (h:PaS w pb b c T st) (hT:T.length<=200) (hat:st.at'<=300) {us:ByteArray} {un:Int} (hu:seeM T st 0=⟨5,us,un⟩) (bd:Int) (ho:OpTab w) :
 Calls Tryz.prog 147 #[vP pb 0,vI bd] w fun e w'=>e=.returned (.bool (decide (0<=opOf us) && (opOf us == bd)))/\Below w.heap.size w w':=by
 have CS:Hid (∀ W,Below w.heap.size w W->Calls Tryz.prog 81 #[vP pb 0,vI 0] W fun e w'=>e=.returned (.agg #[vI 5,vS us,vI un])/\Below w.heap.size w w'):=fun W hW=>(see_lit (h.below hW) 0 (by omega) hT hat hu).mono fun e w' ⟨k1,k2⟩=>⟨k1,hW.trans (k2.mono hW.size)⟩
 have HO:Hid (∀ W,Below w.heap.size w W->OpTab W):=fun W hW=>ho.below hW
 obtain ⟨R,hR⟩:∃ R,R=(decide (0<=opOf us) && (opOf us == bd)):=⟨_,rfl⟩
 rw [<- hR]
 replace hR:Hid (R=(decide (0<=opOf us) && (opOf us == bd))):=hR
 clear ho
 have HB0:Hid (Below w.heap.size w w):=Below.refl _ _
 clear h
 go_enter Tryz.func147,Tryz.ntmps147
 go_upto_region 4 with (first | (go_at_call 81;have HNX:=HB0;(refine (CS.out _ HB0.out).mono ?_);rintro e w1 ⟨rfl,hb⟩;have HB1:Hid (Below w.heap.size w w1):=hb;clear hb HNX HB0))
 obtain ⟨W2,hW2⟩:∃ W,W=w1.alloc (.cells #[vI 5,vS us,vI un] 65):=⟨_,rfl⟩
 have HB2:Hid (Below w.heap.size w W2):=by rw [hW2];exact HB1.out.alloc HB1.out.size _
 have x1:W2.cell? ⟨w1.heap.size,1,none⟩=some (vS us):=by rw [hW2];simp
 have hxl:w1.heap.size<W2.heap.size:=by rw [hW2];simp
 have HSS:Hid (∀ W,Below W2.heap.size W2 W->W.cell? ⟨w1.heap.size,1,none⟩=some (vS us)/\w1.heap.size<W.heap.size):=fun W hb=>⟨(hb.cell (p:=⟨w1.heap.size,1,none⟩) hxl).trans x1,Nat.lt_of_lt_of_le hxl hb.size⟩
 obtain ⟨tt,fr,hgt⟩:=HO.out W2 HB2.out
 have HGT:Hid (W2.heap[5]?=some (.cells opCells tt fr)):=hgt
 rw [<- hW2]
 clear hW2 hgt x1 hxl HB1 CS HO
 go_wp2_with (refine wpList_load_row rfl 192 _ rfl 5 rfl tt _ fr _ HGT.out Tryz.underlying192 rfl (by kernel_rfl) ?_)
 go_loopw [19] (fun i wr=>∃ k:Nat,k<=21/\i=vI k/\Below W2.heap.size W2 wr/\Hid (∀ j,j<k->((opN j).toList == us.toList)=false)) (fun i _=>21 - (intOf i).toNat)
 case atStart=>exact ⟨0,by omega,rfl,Below.refl _ _,fun j hj=>absurd hj (by omega)⟩
 case round =>
  obtain ⟨k,hk,rfl,hbw,HN⟩:=hrel
  have HBW:Hid (Below W2.heap.size W2 wr):=hbw
  obtain ⟨y1,yl⟩:=HSS.out _ hbw
  clear hbw
  by_cases hlt:k<21
  · have hI:=op_index k hlt
    have hki:(k:Int)<21:=by omega
    cases hy:(opN k).toList == us.toList
    · have HN2:Hid (∀ j,j<k + 1->((opN j).toList == us.toList)=false):=fun j hj=>by
       by_cases e:j=k
       · rw [e];exact hy
       · exact HN.out j (by omega)
      generalize opN k=on at hI hy
      generalize opB k=ob at hI
      go_wp2
      go_roundw
      case rel=>exact ⟨k + 1,by omega,by go_num,HBW.out.alloc HBW.out.size _,HN2⟩
      case measure=>simp [intOf];omega
    · have HV:Hid (R=(opB k == bd)):=hR.out.trans (by
       have h1:opOf us=opB k:=goF_at hlt HN.out hy
       rw [h1,decide_eq_true (opB_pos k),Bool.true_and])
      generalize opN k=on at hI hy
      generalize opB k=ob at hI HV
      go_wp2
      go_ret
      exact ⟨by rw [HV.out];rfl,HB2.out.trans ((HBW.out.alloc HBW.out.size _).mono HB2.out.size)⟩
  · have hki:¬ ((k:Int)<21):=by omega
    obtain rfl:k=21:=by omega
    have HV:Hid (R=false):=hR.out.trans (by
     have h1:opOf us = -1:=goF_none HN.out
     rw [h1];rfl)
    go_wp2
    go_ret
    exact ⟨by rw [HV.out];rfl,HB2.out.trans (HBW.out.mono HB2.out.size)⟩
theorem operatorNext_any {w:World} {pb b c:Nat} {T:List Tok} {st:Pst} (h:PaS w pb b c T st) (hT:T.length<=200) (hat:st.at'<=300) (bd:Int) (ho:OpTab w):Calls Tryz.prog 147 #[vP pb 0,vI bd] w fun e w'=>e=.returned (.bool (opNext (seeM T st 0) bd))/\Below w.heap.size w w':=by
 obtain ⟨⟨uk,us,un⟩,hu⟩:∃ u,seeM T st 0=u:=⟨_,rfl⟩
 rw [hu]
 by_cases e1:uk=1
 · subst e1
   have:=operatorNext_1 h hT hat hu bd ho
   rwa [show opNext ⟨1,us,un⟩ bd=(decide (0<=opOf us) && (opOf us == bd)) by simp [opNext]]
 by_cases e5:uk=5
 · subst e5
   have:=operatorNext_5 h hT hat hu bd ho
   rwa [show opNext ⟨5,us,un⟩ bd=(decide (0<=opOf us) && (opOf us == bd)) by simp [opNext]]
 have q1:=beq_eq_false_iff_ne.2 e1
 have q5:=beq_eq_false_iff_ne.2 e5
 have:=operatorNext_no h hT hat hu q1 q5 bd
 rwa [show opNext ⟨uk,us,un⟩ bd=false by simp only [opNext,q1,q5];rfl]
open Go.RowKit
theorem binary_top {pb b c:Nat} {T:List Tok} {st:Pst} {s1:Pst} {p:Ph} (hT:T.length<=200) (hat:st.at'<=300) (hlu:RunT pb b c T 146 #[vP pb 0] st s1 p):RunT pb b c T 123 #[vP pb 0,vI 8] st s1 p:=by
 intro w h htb
 have HTB:Hid (RTab w pb):=htb
 clear htb
 have HLU:Hid (RunT pb b c T 146 #[vP pb 0] st s1 p):=hlu
 clear hlu
 have hpl:=h.pl
 have hbl:=h.bl
 go_enter Tryz.func123,Tryz.ntmps123
 go_upto_region 1 with fail
 obtain ⟨W1,hW1⟩:∃ W,W=w.alloc (.cells (pZA 0) 44):=⟨_,rfl⟩
 have HG1:Hid (GrowA pb w W1):=by rw [hW1];exact (GrowA.refl _ _).alloc _
 have HP1:Hid (PaS W1 pb b c T st):=by rw [hW1];exact h.allocI _
 have HR1:Hid (PhZ W1 w.heap.size):=by rw [hW1];exact PhB.new w _
 rw [<- hW1]
 obtain ⟨r,hr⟩:∃ r,r=w.heap.size:=⟨_,rfl⟩
 have HRW:Hid (w.heap.size<=r):=Nat.le_of_eq hr.symm
 have hrp:r≠pb:=by omega
 have hrb:r≠b:=by omega
 rw [<- hr] at HR1 ⊢
 clear hW1 hr h hpl hbl
 go_wp2_with (first
  | (go_at_call 146;(first | refine (HLU.out.use HTB.out HP1.out HG1.out (show r<_ from by have k:=HR1.out.lt;first | exact k | (simp;omega))).mono ?_ | refine (HLU.out.use HTB.out (HP1.out.allocI _) (HG1.out.alloc _) (show r<_ from by have k:=HR1.out.lt;first | exact k | (simp;omega))).mono ?_ | refine (HLU.out.use HTB.out ((HP1.out.allocI _).allocI _) ((HG1.out.alloc _).alloc _) (show r<_ from by have k:=HR1.out.lt;first | exact k | (simp;omega))).mono ?_);rintro e w2 ⟨lo1,v,hlo,hv,rfl,hp,hg⟩;obtain ⟨k0_1,k1_1,k2_1,k5_1,k6_1,k7_1,s3_1,s4_1,s8_1,a9_1,a10_1,l9_1,c9_1,l10_1,c10_1,rfl⟩:=hv.form;have hlo1:=hlo.1;have hlp1:=hlo.2.1;have hlz1:=hlo.2.2;have HG2:=HidOf (HG1.out.trans hg);have HP2:Hid (PaS w2 pb b c T s1):=hp;have HR2:=HidOf (HR1.out.grow hg hrp);have HV1_2:Hid (Tre w2 lo1 p (pL k0_1 k1_1 k2_1 s3_1 s4_1 k5_1 k6_1 k7_1 s8_1 a9_1 l9_1 c9_1 a10_1 l10_1 c10_1)):=hv;obtain ⟨⟨y0,y1,y2,y3,y4,y5,y6,y7,y8,y9,y10⟩,z0,z1,z2,z3,z4,z5,z6,z7,z8,z9,z10⟩:=HR2.out.cells;clear hv hlo hp hg HP1 HG1 HR1))
 refine bodyPost_ret (v:=.agg (pA k0_1 k1_1 k2_1 s3_1 s4_1 k5_1 k6_1 k7_1 s8_1 a9_1 l9_1 c9_1 a10_1 l10_1 c10_1)) (by simp [results,Tryz.results123,go_sem,y0,y1,y2,y3,y4,y5,y6,y7,y8,y9,y10]) rfl ⟨(pL k0_1 k1_1 k2_1 s3_1 s4_1 k5_1 k6_1 k7_1 s8_1 a9_1 l9_1 c9_1 a10_1 l10_1 c10_1),?_,rfl,?_,?_⟩
 · (refine Tre.mono (lo:=lo1) ?_ (by have:=HRW.out;omega);(repeat (first | with_reducible refine Tre.setR ?_ hlo1 _ _ | with_reducible refine Tre.allocI ?_ _ | with_reducible exact HV1_2.out)))
 · (repeat (first | with_reducible refine PaS.setR ?_ hrp hrb _ _ | with_reducible refine PaS.allocI ?_ _ | exact HP2.out))
 · (repeat (first | with_reducible refine GrowA.setR ?_ HRW.out _ _ | with_reducible refine GrowA.alloc ?_ _ | exact HG2.out))
theorem binary_none {pb b c:Nat} {T:List Tok} {st:Pst} {s1:Pst} {p:Ph} {bd:Nat} (hT:T.length<=200) (hat:st.at'<=300) (hbd:bd<8) (hat1:s1.at'<=300) (hn:opNext (seeM T s1 0) bd=false) (hlu:RunT pb b c T 123 #[vP pb 0,vI ((bd + 1:Nat):Int)] st s1 p):RunT pb b c T 123 #[vP pb 0,vI (bd:Int)] st s1 p:=by
 intro w h htb
 have HTB:Hid (RTab w pb):=htb
 clear htb
 have HLU:Hid (RunT pb b c T 123 #[vP pb 0,vI ((bd + 1:Nat):Int)] st s1 p):=hlu
 clear hlu
 have HON:Hid (∀ {W:World},PaS W pb b c T s1->OpTab W->Calls Tryz.prog 147 #[vP pb 0,vI bd] W fun e w'=>e=.returned (.bool false)/\Below W.heap.size W w'):=fun {W} h ho=>by have:=operatorNext_any h hT hat1 bd ho;rwa [hn] at this
 have hwr:IntKind.i64.wrap ((bd:Int) + 1)=((bd + 1:Nat):Int):=by rw [IntWalk.i64_in _ (by omega)];simp
 obtain ⟨b1,hb1⟩:∃ b1:Int,b1=((bd + 1:Nat):Int):=⟨_,rfl⟩
 rw [<- hb1] at hwr HLU
 have h8:((bd:Int) == 8)=false:=by rw [beq_eq_false_iff_ne];omega
 clear hb1 hn
 have hpl:=h.pl
 have hbl:=h.bl
 go_enter Tryz.func123,Tryz.ntmps123
 go_upto_region 1 with fail
 obtain ⟨W1,hW1⟩:∃ W,W=w.alloc (.cells (pZA 0) 44):=⟨_,rfl⟩
 have HG1:Hid (GrowA pb w W1):=by rw [hW1];exact (GrowA.refl _ _).alloc _
 have HP1:Hid (PaS W1 pb b c T st):=by rw [hW1];exact h.allocI _
 have HR1:Hid (PhZ W1 w.heap.size):=by rw [hW1];exact PhB.new w _
 rw [<- hW1]
 obtain ⟨r,hr⟩:∃ r,r=w.heap.size:=⟨_,rfl⟩
 have HRW:Hid (w.heap.size<=r):=Nat.le_of_eq hr.symm
 have hrp:r≠pb:=by omega
 have hrb:r≠b:=by omega
 rw [<- hr] at HR1 ⊢
 clear hW1 hr h hpl hbl
 go_upto_region 4 with (first
  | (go_at_call 123;(first | refine (HLU.out.use HTB.out HP1.out HG1.out (show r<_ from by have k:=HR1.out.lt;first | exact k | (simp;omega))).mono ?_ | refine (HLU.out.use HTB.out (HP1.out.allocI _) (HG1.out.alloc _) (show r<_ from by have k:=HR1.out.lt;first | exact k | (simp;omega))).mono ?_ | refine (HLU.out.use HTB.out ((HP1.out.allocI _).allocI _) ((HG1.out.alloc _).alloc _) (show r<_ from by have k:=HR1.out.lt;first | exact k | (simp;omega))).mono ?_);rintro e w2 ⟨lo1,v,hlo,hv,rfl,hp,hg⟩;obtain ⟨k0_1,k1_1,k2_1,k5_1,k6_1,k7_1,s3_1,s4_1,s8_1,a9_1,a10_1,l9_1,c9_1,l10_1,c10_1,rfl⟩:=hv.form;have hlo1:=hlo.1;have hlp1:=hlo.2.1;have hlz1:=hlo.2.2;have HG2:Hid (GrowA pb w w2):=(HG1.out.trans hg);have HP2:Hid (PaS w2 pb b c T s1):=hp;have HR2:Hid (PhZ w2 r):=(HR1.out.grow hg hrp);have HV1_2:Hid (Tre w2 lo1 p (pL k0_1 k1_1 k2_1 s3_1 s4_1 k5_1 k6_1 k7_1 s8_1 a9_1 l9_1 c9_1 a10_1 l10_1 c10_1)):=hv;have hxp:w2.heap.size≠pb:=(by have:=HP2.out.pl;omega);have HO2:Hid (OpTab w2):=(HTB.out.grow HG2.out).1;clear hv hlo hp hg HP1 HG1 HR1))
 have HV0:Hid (Tre w2 lo1 p (pL k0_1 k1_1 k2_1 s3_1 s4_1 k5_1 k6_1 k7_1 s8_1 a9_1 l9_1 c9_1 a10_1 l10_1 c10_1)):=HV1_2.out
 go_loopw [] (fun wr=>wr=w2.alloc (.cells (pA k0_1 k1_1 k2_1 s3_1 s4_1 k5_1 k6_1 k7_1 s8_1 a9_1 l9_1 c9_1 a10_1 l10_1 c10_1) 44)) (fun _=>0)
 case atStart=>rfl
 case round =>
  subst hrel
  go_wp2_with (first
   | (go_at_call 147;refine (HON.out (HP2.out.allocI _) (HO2.out.below ((Below.refl _ _).alloc (Nat.le_refl _) _))).mono ?_;rintro e w3 ⟨rfl,hb⟩;have HG3:Hid (GrowA pb w w3):=(HG2.out.alloc _).below hb;have HP3:Hid (PaS w3 pb b c T s1):=(HP2.out.allocI _).below hb;have HR3:Hid (PhZ w3 r):=(HR2.out.allocI _).below hb;have HX3:Hid (PhB w3 w2.heap.size (pA k0_1 k1_1 k2_1 s3_1 s4_1 k5_1 k6_1 k7_1 s8_1 a9_1 l9_1 c9_1 a10_1 l10_1 c10_1)):=(PhB.new w2 _).below hb;have HV1_3:Hid (Tre w3 lo1 p (pL k0_1 k1_1 k2_1 s3_1 s4_1 k5_1 k6_1 k7_1 s8_1 a9_1 l9_1 c9_1 a10_1 l10_1 c10_1)):=(HV0.out.allocI _).below hb;obtain ⟨⟨y0,y1,y2,y3,y4,y5,y6,y7,y8,y9,y10⟩,z0,z1,z2,z3,z4,z5,z6,z7,z8,z9,z10⟩:=HR3.out.cells;obtain ⟨⟨m0,m1,m2,m3,m4,m5,m6,m7,m8,m9,m10⟩,j0,j1,j2,j3,j4,j5,j6,j7,j8,j9,j10⟩:=HX3.out.cells;clear hb))
  refine bodyPost_ret (v:=.agg (pA k0_1 k1_1 k2_1 s3_1 s4_1 k5_1 k6_1 k7_1 s8_1 a9_1 l9_1 c9_1 a10_1 l10_1 c10_1)) (by simp [results,Tryz.results123,go_sem,y0,y1,y2,y3,y4,y5,y6,y7,y8,y9,y10]) rfl ⟨(pL k0_1 k1_1 k2_1 s3_1 s4_1 k5_1 k6_1 k7_1 s8_1 a9_1 l9_1 c9_1 a10_1 l10_1 c10_1),?_,rfl,?_,?_⟩
  · (refine Tre.mono (lo:=lo1) ?_ (by have:=HRW.out;omega);(repeat (first | with_reducible refine Tre.setR ?_ hlo1 _ _ | with_reducible refine Tre.allocI ?_ _ | with_reducible exact HV1_3.out)))
  · (repeat (first | with_reducible refine PaS.setR ?_ hrp hrb _ _ | with_reducible refine PaS.allocI ?_ _ | exact HP3.out))
  · (repeat (first | with_reducible refine GrowA.setR ?_ HRW.out _ _ | with_reducible refine GrowA.alloc ?_ _ | exact HG3.out))
open Go.RowKit
theorem PhB.drewK {w:World} {r:Nat} {v:Array Value} (h:PhB w r v) (q:Nat):PhB (w.drewN q) r v:=h
theorem TkB.drewK {w:World} {r:Nat} {v:Array Value} (h:TkB w r v) (q:Nat):TkB (w.drewN q) r v:=h
theorem PaS.drewK {w:World} {pb b c:Nat} {T:List Tok} {st:Pst} (h:PaS w pb b c T st) (q:Nat):PaS (w.drewN q) pb b c T st:=h.below (below_drewA (Below.refl _ _) q)
theorem GrowA.drewK {pb:Nat} {w wr:World} (h:GrowA pb w wr) (q:Nat):GrowA pb w (wr.drewN q):=h
theorem Leave.drewK {w:World} {pb x:Nat} (h:Leave w pb x) (q:Nat):Leave (w.drewN q) pb x:=h
def opIfA:Oper:={ dst:=some 52,op:=Op.move (Operand.tmp 0),type:=95,pos:= "parse.go:142",after:=#[{ on:=3,ground:=Ground.guard }],guard:=some (3,true) }
theorem opIfA_eq:opIfA={ dst:=some 52,op:=Op.move (Operand.tmp 0),type:=95,pos:= "parse.go:142",after:=#[{ on:=3,ground:=Ground.guard }],guard:=some (3,true) }:=rfl
def opIfB:Oper:={ dst:=some 55,op:=Op.binOp BinOp.eql 65 (Operand.tmp 53) (Operand.tmp 54) 65,type:=4,pos:= "parse.go:142",after:=#[{ on:=5,ground:=Ground.data },{ on:=6,ground:=Ground.data },{ on:=3,ground:=Ground.guard }],guard:=some (3,true) }
theorem opIfB_eq:opIfB={ dst:=some 55,op:=Op.binOp BinOp.eql 65 (Operand.tmp 53) (Operand.tmp 54) 65,type:=4,pos:= "parse.go:142",after:=#[{ on:=5,ground:=Ground.data },{ on:=6,ground:=Ground.data },{ on:=3,ground:=Ground.guard }],guard:=some (3,true) }:=rfl
theorem single_bin {pb b c:Nat} {T:List Tok} {st:Pst} {s0 s1:Pst} {p:Ph} {us vs:ByteArray} {uk un vk vn:Int} (hT:T.length<=200) (hat:st.at'<=300) (hat0:s0.at'<=300) (ho:st.opn<=100) (hop:1<=s1.opn/\s1.opn<=200) (he:enterM T st (singleB (seeM T st 0))=s0) (hu:seeM T s0 0=⟨uk,us,un⟩) (hu1:seeM T s0 1=⟨vk,vs,vn⟩) (k4:(vk == 4)=false) (nif:eqT ⟨uk,us,un⟩ ⟨1,⟨#[105,102]⟩,0⟩=false) (hlu:RunT pb b c T 123 #[vP pb 0,vI 0] s0 s1 p):RunT pb b c T 84 #[vP pb 0] st { s1 with opn:=s1.opn - 1 } p:=by
 intro w h htb
 have HTB:Hid (RTab w pb):=htb
 clear htb
 have HLU:Hid (RunT pb b c T 123 #[vP pb 0,vI 0] s0 s1 p):=hlu
 clear hlu
 have E0:=eqT_run nif
 obtain ⟨beg,hbeg⟩:∃ x,x=singleB (seeM T st 0):=⟨_,rfl⟩
 have SB:Hid (∀ W,PaS W pb b c T st->Calls Tryz.prog 50 #[vP pb 0] W fun e w'=>e=.returned (.bool beg)/\Below W.heap.size W w'):=fun W h=>by rw [hbeg];exact singleBegins_any h hT hat
 rw [<- hbeg] at he
 clear hbeg
 have EF:=field_kind vk vn vs
 have hpl:=h.pl
 have hbl:=h.bl
 have HPW:Hid (pb<w.heap.size):=hpl
 go_enter_defers Tryz.func84,Tryz.ntmps84
 go_upto_region 1 with fail
 obtain ⟨W1,hW1⟩:∃ W,W=w.alloc (.cells (pZA 0) 44):=⟨_,rfl⟩
 have HG1:Hid (GrowA pb w W1):=by rw [hW1];exact (GrowA.refl _ _).alloc _
 have HP1:Hid (PaS W1 pb b c T st):=by rw [hW1];exact h.allocI _
 have HR1:Hid (PhZ W1 w.heap.size):=by rw [hW1];exact PhB.new w _
 rw [<- hW1]
 obtain ⟨r,hr⟩:∃ r,r=w.heap.size:=⟨_,rfl⟩
 have HRW:Hid (w.heap.size<=r):=Nat.le_of_eq hr.symm
 have hrp:r≠pb:=by omega
 have hrb:r≠b:=by omega
 rw [<- hr] at HR1 ⊢
 clear hW1 hr h hpl hbl
 go_upto_region 4 with (first
  | (go_at_call 50;(refine (SB.out _ HP1.out).mono ?_);rintro e w2 ⟨rfl,hb⟩;have HG2:=HidOf (HG1.out.below hb);have HP2:=HidOf (HP1.out.below hb);have HR2:=HidOf (HR1.out.below hb);clear hb HP1 HG1 HR1)
  | (go_at_call 49;(refine (penter_is HP2.out _ ho).mono ?_);rintro e w3 ⟨q,rfl,hl,hp,hg,hq⟩;have HG3:=HidOf (HG2.out.trans hg);have HP3:Hid (PaS w3 pb b c T s0):=(by rw [<- he];exact hp);have HR3:=HidOf (HR2.out.grow hg hrp);have HL3:Hid (Leave w3 pb q):=hl;have hrq:r≠q:=(by have k1:=HR2.out.lt;first | omega | (simp at hq;omega));clear hl hp hg hq HP2 HG2 HR2)
  | (go_at_call 81;(refine (see_lit HP3.out 1 (by omega) hT hat0 hu1).mono ?_);rintro e w4 ⟨rfl,hb⟩;have HG4:=HidOf (HG3.out.below hb);have HP4:=HidOf (HP3.out.below hb);have HR4:=HidOf (HR3.out.below hb);have HL4:=HidOf (HL3.out.below hb);clear hb HP3 HG3 HR3 HL3)
  | (go_at_call 81;(refine (see_lit HP4.out 0 (by omega) hT hat0 hu).mono ?_);rintro e w5 ⟨rfl,hb⟩;have HG5:=HidOf (HG4.out.below hb);have HP5:=HidOf (HP4.out.below hb);have HR5:=HidOf (HR4.out.below hb);have HL5:=HidOf (HL4.out.below hb);clear hb HP4 HG4 HR4 HL4))
 obtain ⟨w6,hw6⟩:∃ W,W=w5.alloc (.cells #[vI uk,vS us,vI un] 65):=⟨_,rfl⟩
 obtain ⟨x,hx⟩:∃ x,x=w5.heap.size:=⟨_,rfl⟩
 have HG6:Hid (GrowA pb w w6):=by rw [hw6];exact HG5.out.alloc _
 have HP6:Hid (PaS w6 pb b c T s0):=by rw [hw6];exact HP5.out.allocI _
 have HR6:Hid (PhZ w6 r):=by rw [hw6];exact HR5.out.allocI _
 have HL6:Hid (Leave w6 pb q):=by rw [hw6];exact HL5.out.allocI _
 have HX6:Hid (TkB w6 x #[vI uk,vS us,vI un]):=by rw [hw6,hx];exact TkB.new w5 _
 obtain ⟨c0',c1',c2'⟩:=HX6.out.cells
 rw [<- hw6,<- hx]
 clear hw6 hx HG5 HP5 HR5 HL5
 go_quiet (fail)
 obtain ⟨w7,hw7⟩:∃ W,W=w6.drewN nq:=⟨_,rfl⟩
 have HG7:Hid (GrowA pb w w7):=by rw [hw7];exact HG6.out.drewK nq
 have HP7:Hid (PaS w7 pb b c T s0):=by rw [hw7];exact HP6.out.drewK nq
 have HR7:Hid (PhZ w7 r):=by rw [hw7];exact HR6.out.drewK nq
 have HL7:Hid (Leave w7 pb q):=by rw [hw7];exact HL6.out.drewK nq
 have HX7:Hid (TkB w7 x #[vI uk,vS us,vI un]):=by rw [hw7];exact HX6.out.drewK nq
 rw [<- hw7]
 clear hw7 HG6 HP6 HR6 HL6 HX6 c0' c1' c2'
 obtain ⟨c0,c1,c2⟩:=HX7.out.cells
 go_upto_region 6 with fail
 go_quiet (fail)
 obtain ⟨w8,hw8⟩:∃ W,W=w7.drewN nq:=⟨_,rfl⟩
 have HG8:Hid (GrowA pb w w8):=by rw [hw8];exact HG7.out.drewK nq
 have HP8:Hid (PaS w8 pb b c T s0):=by rw [hw8];exact HP7.out.drewK nq
 have HR8:Hid (PhZ w8 r):=by rw [hw8];exact HR7.out.drewK nq
 have HL8:Hid (Leave w8 pb q):=by rw [hw8];exact HL7.out.drewK nq
 have HX8:Hid (TkB w8 x #[vI uk,vS us,vI un]):=by rw [hw8];exact HX7.out.drewK nq
 rw [<- hw8]
 clear hw8 HG7 HP7 HR7 HL7 HX7 c0 c1 c2
 obtain ⟨c0,c1,c2⟩:=HX8.out.cells
 go_upto_region 8 with fail
 go_quiet (fail)
 obtain ⟨w9,hw9⟩:∃ W,W=w8.drewN nq:=⟨_,rfl⟩
 have HG9:Hid (GrowA pb w w9):=by rw [hw9];exact HG8.out.drewK nq
 have HP9:Hid (PaS w9 pb b c T s0):=by rw [hw9];exact HP8.out.drewK nq
 have HR9:Hid (PhZ w9 r):=by rw [hw9];exact HR8.out.drewK nq
 have HL9:Hid (Leave w9 pb q):=by rw [hw9];exact HL8.out.drewK nq
 have HX9:Hid (TkB w9 x #[vI uk,vS us,vI un]):=by rw [hw9];exact HX8.out.drewK nq
 rw [<- hw9]
 clear hw9 HG8 HP8 HR8 HL8 HX8 c0 c1 c2
 obtain ⟨c0,c1,c2⟩:=HX9.out.cells
 have CW0:Hid (∀ W,Below w9.heap.size w9 W->Calls Tryz.prog 119 #[vS ⟨#[105,102]⟩] W fun e w'=>e=.returned (.agg #[vI 1,vS ⟨#[105,102]⟩,vI 0])/\Below w9.heap.size w9 w'):=fun W hW=>(word_is _ W).mono fun e w' ⟨k1,k2⟩=>⟨k1,hW.trans (k2.mono hW.size)⟩
 have HSS:Hid (∀ W,Below w9.heap.size w9 W->W.cell? ⟨x,0,none⟩=some (vI uk)/\W.cell? ⟨x,1,none⟩=some (vS us)/\W.cell? ⟨x,2,none⟩=some (vI un)):=fun W hb=>(HX9.out.below hb).cells
 go_upto_region 10 with fail
 rw [<- opIfA_eq,<- opIfB_eq]
 have hopIfA:=opIfA_eq
 have hopIfB:=opIfB_eq
 go_region_held3 (fun W=>W.cell? ⟨x,0,none⟩=some (vI uk)/\W.cell? ⟨x,1,none⟩=some (vS us)/\W.cell? ⟨x,2,none⟩=some (vI un))
  ((refine HSS.out _ ?_;repeat (first | exact Hid.out (by assumption) | exact Below.refl _ _ | refine Below.drew ?_)))
  (first
   | (go_at_call 119;refine (CW0.out _ ?_).mono ?_;(focus (repeat (first | exact Below.refl _ _ | refine Below.drew ?_)));rintro e w10 ⟨rfl,hb⟩;have HB10:Hid (Below w9.heap.size w9 w10):=hb;clear hb CW0))
 have HG10:Hid (GrowA pb w w10):=HG9.out.below HB10.out
 have HP10:Hid (PaS w10 pb b c T s0):=HP9.out.below HB10.out
 have HR10:Hid (PhZ w10 r):=HR9.out.below HB10.out
 have HL10:Hid (Leave w10 pb q):=HL9.out.below HB10.out
 have HX10:Hid (TkB w10 x #[vI uk,vS us,vI un]):=HX9.out.below HB10.out
 clear hopIfA hopIfB c0 c1 c2 HSS HG9 HP9 HR9 HL9 HX9 HB10
 go_wp2_with (first
  | (go_at_call 123;(first | refine (HLU.out.use HTB.out HP10.out HG10.out (show r<_ from by have k:=HR10.out.lt;first | exact k | (simp;omega))).mono ?_ | refine (HLU.out.use HTB.out (HP10.out.allocI _) (HG10.out.alloc _) (show r<_ from by have k:=HR10.out.lt;first | exact k | (simp;omega))).mono ?_ | refine (HLU.out.use HTB.out ((HP10.out.allocI _).allocI _) ((HG10.out.alloc _).alloc _) (show r<_ from by have k:=HR10.out.lt;first | exact k | (simp;omega))).mono ?_);rintro e w11 ⟨lo1,v,hlo,hv,rfl,hp,hg⟩;obtain ⟨k0_1,k1_1,k2_1,k5_1,k6_1,k7_1,s3_1,s4_1,s8_1,a9_1,a10_1,l9_1,c9_1,l10_1,c10_1,rfl⟩:=hv.form;have hlo1:=hlo.1;have hlp1:=hlo.2.1;have hlz1:=hlo.2.2;have HG11:=HidOf (HG10.out.trans hg);have HP11:Hid (PaS w11 pb b c T s1):=hp;have HR11:=HidOf (HR10.out.grow hg hrp);have HL11:=HidOf (HL10.out.grow hg);have HV1_11:Hid (Tre w11 lo1 p (pL k0_1 k1_1 k2_1 s3_1 s4_1 k5_1 k6_1 k7_1 s8_1 a9_1 l9_1 c9_1 a10_1 l10_1 c10_1)):=hv;obtain ⟨⟨y0,y1,y2,y3,y4,y5,y6,y7,y8,y9,y10⟩,z0,z1,z2,z3,z4,z5,z6,z7,z8,z9,z10⟩:=HR11.out.cells;clear hv hlo hp hg HP10 HG10 HR10 HL10))
 obtain ⟨Wd,hWd⟩:∃ W,W=(((((((((((w11.setCell ⟨r,0,none⟩ (vI k0_1)).setCell ⟨r,1,none⟩ (vI k1_1)).setCell ⟨r,2,none⟩ (vI k2_1)).setCell ⟨r,3,none⟩ (vS s3_1)).setCell ⟨r,4,none⟩ (vS s4_1)).setCell ⟨r,5,none⟩ (vI k5_1)).setCell ⟨r,6,none⟩ (vI k6_1)).setCell ⟨r,7,none⟩ (vI k7_1)).setCell ⟨r,8,none⟩ (vS s8_1)).setCell ⟨r,9,none⟩ (.slice a9_1 l9_1 c9_1)).setCell ⟨r,10,none⟩ (.slice a10_1 l10_1 c10_1)):=⟨_,rfl⟩
 have HD:Hid (PaS Wd pb b c T s1):=by
  refine HidOf ?_
  rw [hWd]
  (repeat (first | with_reducible refine PaS.setR ?_ hrp hrb _ _ | with_reducible refine PaS.allocI ?_ _ | exact HP11.out))
 have HE:Hid (GrowA pb w Wd):=by
  refine HidOf ?_
  rw [hWd]
  (repeat (first | with_reducible refine GrowA.setR ?_ HRW.out _ _ | with_reducible refine GrowA.alloc ?_ _ | exact HG11.out))
 have HQ:Hid (Leave Wd pb q):=by
  refine HidOf ?_
  rw [hWd]
  (repeat (first | with_reducible refine Leave.setR ?_ hrq _ _ | with_reducible refine Leave.allocI ?_ _ | exact HL11.out))
 have HZ:Hid (PhB Wd r (pA k0_1 k1_1 k2_1 s3_1 s4_1 k5_1 k6_1 k7_1 s8_1 a9_1 l9_1 c9_1 a10_1 l10_1 c10_1)):=by rw [hWd];exact PhB.put HR11.out
 have HT:Hid (Tre Wd w.heap.size p (pL k0_1 k1_1 k2_1 s3_1 s4_1 k5_1 k6_1 k7_1 s8_1 a9_1 l9_1 c9_1 a10_1 l10_1 c10_1)):=by
  refine HidOf ?_
  rw [hWd]
  (refine Tre.mono (lo:=lo1) ?_ (by have:=HRW.out;omega);(repeat (first | with_reducible refine Tre.setR ?_ hlo1 _ _ | with_reducible refine Tre.allocI ?_ _ | with_reducible exact HV1_11.out)))
 rw [<- hWd]
 clear hWd
 refine leaves_cons (f:=80) (args:=#[vP q 0]) (by simp) (by simp [go_sem]) ?_
 refine (pleave_is HD.out HQ.out hop .returning).mono ?_
 rintro e u' w99 ⟨rfl,rfl,hp,hg⟩
 obtain ⟨⟨u0,u1,u2,u3,u4,u5,u6,u7,u8,u9,u10⟩,_⟩:=(HZ.out.grow hg hrp).cells
 exact ⟨.agg (pA k0_1 k1_1 k2_1 s3_1 s4_1 k5_1 k6_1 k7_1 s8_1 a9_1 l9_1 c9_1 a10_1 l10_1 c10_1),by simp [results,Tryz.results84,go_sem,u0,u1,u2,u3,u4,u5,u6,u7,u8,u9,u10],⟨_,HT.out.grow hg HPW.out,rfl,hp,HE.out.trans hg⟩⟩
open Go.RowKit
open Go.RowKit
def TsB (w:World) (r:Nat) (v:Array Value):Prop:=w.heap[r]?=some (.cells v 26)
theorem TsB.lt {w:World} {r:Nat} {v:Array Value} (h:TsB w r v):r<w.heap.size:=(gI h).1
theorem TsB.new (w:World) (v:Array Value):TsB (w.alloc (.cells v 26)) w.heap.size v:=heap_alloc_new _ _
theorem TsB.grow {w w':World} {pb r:Nat} {v:Array Value} (h:TsB w r v) (hg:GrowA pb w w') (hr:r≠pb):TsB w' r v:=(hg.2.2.2.2 r h.lt hr).trans h
theorem TsB.below {w w':World} {r:Nat} {v:Array Value} (h:TsB w r v) (hb:Below w.heap.size w w'):TsB w' r v:=(hb.block r h.lt).trans h
theorem TsB.allocI {w:World} {r:Nat} {v:Array Value} (h:TsB w r v) (o:Obj):TsB (w.alloc o) r v:=h.below ((Below.refl _ _).alloc (Nat.le_refl _) o)
theorem TsB.cells {w:World} {r:Nat} {x y:Value} (h:TsB w r #[x,y]):(w.cell? ⟨r,0,none⟩=some x/\w.cell? ⟨r,1,none⟩=some y)/\w.frozen? ⟨r,0,none⟩=false/\w.frozen? ⟨r,1,none⟩=false:=by
 unfold TsB at h
 refine ⟨⟨?_,?_⟩,?_,?_⟩ <;> simp [World.cell?,World.frozen?,h]
def RunK (pb b c:Nat) (T:List Tok) (st st':Pst) (tk:Int) (tn:ByteArray):Prop:=∀ (w:World),PaS w pb b c T st->RTab w pb->Calls Tryz.prog 174 #[vP pb 0] w fun e w'=>e=.returned (.agg #[vI tk,vS tn])/\PaS w' pb b c T st'/\GrowA pb w w'
theorem RunK.use {pb b c:Nat} {T:List Tok} {st st':Pst} {tk:Int} {tn:ByteArray} (h:RunK pb b c T st st' tk tn) {w W:World} (ht:RTab w pb) (hp:PaS W pb b c T st) (hg:GrowA pb w W) :
 Calls Tryz.prog 174 #[vP pb 0] W fun e w'=>e=.returned (.agg #[vI tk,vS tn])/\PaS w' pb b c T st'/\GrowA pb W w':=h W hp (ht.grow hg)
theorem kindTest_use {pb b c:Nat} {T:List Tok} {st:Pst} {w W:World} (ht:RTab w pb) (h:PaS W pb b c T st) (hg:GrowA pb w W) (s:ByteArray) {v:Int} (hk:ktOf s=v) :
 Calls Tryz.prog 178 #[vS s] W fun e w'=>e=.returned (vI v)/\Below W.heap.size W w':=by
 rw [<- hk];exact kindTestOf_is s W (ht.grow hg).2.1
theorem axis_use {pb b c:Nat} {T:List Tok} {st:Pst} {w W:World} (ht:RTab w pb) (h:PaS W pb b c T st) (hg:GrowA pb w W) (s:ByteArray) {v:Int} (hk:axOf s=v) :
 Calls Tryz.prog 177 #[vS s] W fun e w'=>e=.returned (vI v)/\Below W.heap.size W w':=by
 rw [<- hk];exact axisOf_is s W (ht.grow hg).2.2.1
theorem along_is (ax tk:Int) (tn:ByteArray) (w:World):Calls Tryz.prog 171 #[vI ax,.agg #[vI tk,vS tn]] w fun e w'=>e=.returned (.agg (pA 9 0 0 ⟨#[]⟩ ⟨#[]⟩ 0 ax tk tn none 0 0 none 0 0))/\Below w.heap.size w w':=by
 go_enter Tryz.func171,Tryz.ntmps171
 go_wp2
 refine bodyPost_ret (v:=.agg (pA 9 0 0 ⟨#[]⟩ ⟨#[]⟩ 0 ax tk tn none 0 0 none 0 0)) (by simp [results,Tryz.results171,go_sem]) rfl ⟨rfl,?_⟩
 (repeat (first | exact Below.refl _ _ | refine Below.alloc ?_ (by simp) _))
theorem test_star {pb b c:Nat} {T:List Tok} {st:Pst} (hT:T.length<=200) (hat:st.at'<=300) (c0:eqT (seeM T st 0) ⟨5,⟨#[42]⟩,0⟩=true):RunK pb b c T st { st with at':=st.at' + 1 } 5 ⟨#[]⟩:=by
 intro w h htb
 have HTB:Hid (RTab w pb):=htb
 clear htb
 have hpl:=h.pl
 have hbl:=h.bl
 go_enter Tryz.func174,Tryz.ntmps174
 go_upto_region 1 with fail
 obtain ⟨W1,hW1⟩:∃ W,W=w.alloc (.cells #[vI 0,vE] 26):=⟨_,rfl⟩
 have HG1:Hid (GrowA pb w W1):=by rw [hW1];exact (GrowA.refl _ _).alloc _
 have HP1:Hid (PaS W1 pb b c T st):=by rw [hW1];exact h.allocI _
 have HR1:Hid (TsB W1 w.heap.size #[vI 0,vE]):=by rw [hW1];exact TsB.new w _
 rw [<- hW1]
 obtain ⟨r,hr⟩:∃ r,r=w.heap.size:=⟨_,rfl⟩
 have HRW:Hid (w.heap.size<=r):=Nat.le_of_eq hr.symm
 have hrp:r≠pb:=by omega
 have hrb:r≠b:=by omega
 rw [<- hr] at HR1 ⊢
 clear hW1 hr h hpl hbl
 go_wp2_with (first
  | (go_at_call 82;have HNX:=HP1;refine (mark_is _ _).mono ?_;rintro e w2 ⟨rfl,hb⟩;have HG2:=HidOf (HG1.out.below hb);have HP2:=HidOf (HP1.out.below hb);have HR2:=HidOf (HR1.out.below hb);clear hb HNX HP1 HG1 HR1)
  | (go_at_call 85;(refine (skip_yes HP2.out hT hat _ _ _ c0).mono ?_);rintro e w3 ⟨rfl,hp,hg⟩;have HG3:=HidOf (HG2.out.trans hg);have HP3:Hid (PaS w3 pb b c T { st with at':=st.at' + 1 }):=hp;have HR3:=HidOf (HR2.out.grow hg hrp);obtain ⟨⟨y0,y1⟩,z0,z1⟩:=HR3.out.cells;clear hp hg HP2 HG2 HR2))
 refine bodyPost_ret (v:=.agg #[vI 5,vE]) (by simp [results,Tryz.results174,go_sem,y0,y1]) rfl ⟨rfl,?_,?_⟩
 · (repeat (first | with_reducible refine PaS.setR ?_ hrp hrb _ _ | with_reducible refine PaS.allocI ?_ _ | exact HP3.out))
 · (repeat (first | with_reducible refine GrowA.setR ?_ HRW.out _ _ | with_reducible refine GrowA.alloc ?_ _ | exact HG3.out))
theorem test_name {pb b c:Nat} {T:List Tok} {st:Pst} {us:ByteArray} {un:Int} (hT:T.length<=200) (hat:st.at'<=300) (hu:seeM T st 0=⟨1,us,un⟩) (hs:us.size<=4000) (c0:eqT ⟨1,us,un⟩ ⟨5,⟨#[42]⟩,0⟩=false) (hk:ktOf us=0):RunK pb b c T st { st with at':=st.at' + 1 } 4 us:=by
 intro w h htb
 have HTB:Hid (RTab w pb):=htb
 clear htb
 have hpl:=h.pl
 have hbl:=h.bl
 go_enter Tryz.func174,Tryz.ntmps174
 go_upto_region 1 with fail
 obtain ⟨W1,hW1⟩:∃ W,W=w.alloc (.cells #[vI 0,vE] 26):=⟨_,rfl⟩
 have HG1:Hid (GrowA pb w W1):=by rw [hW1];exact (GrowA.refl _ _).alloc _
 have HP1:Hid (PaS W1 pb b c T st):=by rw [hW1];exact h.allocI _
 have HR1:Hid (TsB W1 w.heap.size #[vI 0,vE]):=by rw [hW1];exact TsB.new w _
 rw [<- hW1]
 obtain ⟨r,hr⟩:∃ r,r=w.heap.size:=⟨_,rfl⟩
 have HRW:Hid (w.heap.size<=r):=Nat.le_of_eq hr.symm
 have hrp:r≠pb:=by omega
 have hrb:r≠b:=by omega
 rw [<- hr] at HR1 ⊢
 clear hW1 hr h hpl hbl
 go_wp2_with (first
  | (go_at_call 82;have HNX:=HP1;refine (mark_is _ _).mono ?_;rintro e w2 ⟨rfl,hb⟩;have HG2:=HidOf (HG1.out.below hb);have HP2:=HidOf (HP1.out.below hb);have HR2:=HidOf (HR1.out.below hb);clear hb HNX HP1 HG1 HR1)
  | (go_at_call 85;(refine (skip_no HP2.out hT hat _ _ _ (by rw [hu];exact c0)).mono ?_);rintro e w3 ⟨rfl,hp,hg⟩;have HG3:=HidOf (HG2.out.trans hg);have HP3:Hid (PaS w3 pb b c T st):=hp;have HR3:=HidOf (HR2.out.grow hg hrp);clear hp hg HP2 HG2 HR2)
  | (go_at_call 145;(refine (text_yes HP3.out hT hat hu hs).mono ?_);rintro e w4 ⟨rfl,hp,hg⟩;have HG4:=HidOf (HG3.out.trans hg);have HP4:Hid (PaS w4 pb b c T { st with at':=st.at' + 1 }):=hp;have HR4:=HidOf (HR3.out.grow hg hrp);clear hp hg HP3 HG3 HR3)
  | (go_at_call 178;(refine (kindTest_use HTB.out HP4.out HG4.out us hk).mono ?_);rintro e w5 ⟨rfl,hb⟩;have HG5:=HidOf (HG4.out.below hb);have HP5:=HidOf (HP4.out.below hb);have HR5:=HidOf (HR4.out.below hb);obtain ⟨⟨y0,y1⟩,z0,z1⟩:=HR5.out.cells;clear hb HP4 HG4 HR4))
 refine bodyPost_ret (v:=.agg #[vI 4,vS us]) (by simp [results,Tryz.results174,go_sem,y0,y1]) rfl ⟨rfl,?_,?_⟩
 · (repeat (first | with_reducible refine PaS.setR ?_ hrp hrb _ _ | with_reducible refine PaS.allocI ?_ _ | exact HP5.out))
 · (repeat (first | with_reducible refine GrowA.setR ?_ HRW.out _ _ | with_reducible refine GrowA.alloc ?_ _ | exact HG5.out))
theorem test_kind {pb b c:Nat} {T:List Tok} {st:Pst} {us:ByteArray} {un kt:Int} {s2:Pst} (hT:T.length<=200) (hat:st.at'<=300) (hu:seeM T st 0=⟨1,us,un⟩) (hs:us.size<=4000) (c0:eqT ⟨1,us,un⟩ ⟨5,⟨#[42]⟩,0⟩=false) (hk:ktOf us=kt) (k0:(kt == 0)=false) (ha1:st.at' + 1<=300) (ha2:st.at' + 1 + 1<=300) (y1:eqT (seeM T { st with at':=st.at' + 1 } 0) ⟨5,⟨#[40]⟩,0⟩=true) (hw:wantM T { st with at':=st.at' + 1 + 1 } ⟨5,⟨#[41]⟩,0⟩=s2):RunK pb b c T st s2 kt ⟨#[]⟩:=by
 intro w h htb
 have HTB:Hid (RTab w pb):=htb
 clear htb
 have hpl:=h.pl
 have hbl:=h.bl
 go_enter Tryz.func174,Tryz.ntmps174
 go_upto_region 1 with fail
 obtain ⟨W1,hW1⟩:∃ W,W=w.alloc (.cells #[vI 0,vE] 26):=⟨_,rfl⟩
 have HG1:Hid (GrowA pb w W1):=by rw [hW1];exact (GrowA.refl _ _).alloc _
 have HP1:Hid (PaS W1 pb b c T st):=by rw [hW1];exact h.allocI _
 have HR1:Hid (TsB W1 w.heap.size #[vI 0,vE]):=by rw [hW1];exact TsB.new w _
 rw [<- hW1]
 obtain ⟨r,hr⟩:∃ r,r=w.heap.size:=⟨_,rfl⟩
 have HRW:Hid (w.heap.size<=r):=Nat.le_of_eq hr.symm
 have hrp:r≠pb:=by omega
 have hrb:r≠b:=by omega
 rw [<- hr] at HR1 ⊢
 clear hW1 hr h hpl hbl
 go_wp2_with (first
  | (go_at_call 82;have HNX:=HP1;refine (mark_is _ _).mono ?_;rintro e w2 ⟨rfl,hb⟩;have HG2:=HidOf (HG1.out.below hb);have HP2:=HidOf (HP1.out.below hb);have HR2:=HidOf (HR1.out.below hb);clear hb HNX HP1 HG1 HR1)
  | (go_at_call 85;(refine (skip_no HP2.out hT hat _ _ _ (by rw [hu];exact c0)).mono ?_);rintro e w3 ⟨rfl,hp,hg⟩;have HG3:=HidOf (HG2.out.trans hg);have HP3:Hid (PaS w3 pb b c T st):=hp;have HR3:=HidOf (HR2.out.grow hg hrp);clear hp hg HP2 HG2 HR2)
  | (go_at_call 145;(refine (text_yes HP3.out hT hat hu hs).mono ?_);rintro e w4 ⟨rfl,hp,hg⟩;have HG4:=HidOf (HG3.out.trans hg);have HP4:Hid (PaS w4 pb b c T { st with at':=st.at' + 1 }):=hp;have HR4:=HidOf (HR3.out.grow hg hrp);clear hp hg HP3 HG3 HR3)
  | (go_at_call 178;(refine (kindTest_use HTB.out HP4.out HG4.out us hk).mono ?_);rintro e w5 ⟨rfl,hb⟩;have HG5:=HidOf (HG4.out.below hb);have HP5:=HidOf (HP4.out.below hb);have HR5:=HidOf (HR4.out.below hb);clear hb HP4 HG4 HR4)
  | (go_at_call 82;have HNX:=HP5;refine (mark_is _ _).mono ?_;rintro e w6 ⟨rfl,hb⟩;have HG6:=HidOf (HG5.out.below hb);have HP6:=HidOf (HP5.out.below hb);have HR6:=HidOf (HR5.out.below hb);clear hb HNX HP5 HG5 HR5)
  | (go_at_call 85;(refine (skip_yes HP6.out hT ha1 _ _ _ y1).mono ?_);rintro e w7 ⟨rfl,hp,hg⟩;have HG7:=HidOf (HG6.out.trans hg);have HP7:Hid (PaS w7 pb b c T { st with at':=st.at' + 1 + 1 }):=hp;have HR7:=HidOf (HR6.out.grow hg hrp);clear hp hg HP6 HG6 HR6)
  | (go_at_call 82;have HNX:=HP7;refine (mark_is _ _).mono ?_;rintro e w8 ⟨rfl,hb⟩;have HG8:=HidOf (HG7.out.below hb);have HP8:=HidOf (HP7.out.below hb);have HR8:=HidOf (HR7.out.below hb);clear hb HNX HP7 HG7 HR7)
  | (go_at_call 144;(refine (want_eq HP8.out hT ha2 hw).mono ?_);rintro e w9 ⟨rfl,hp,hg⟩;have HG9:=HidOf (HG8.out.trans hg);have HP9:Hid (PaS w9 pb b c T s2):=hp;have HR9:=HidOf (HR8.out.grow hg hrp);obtain ⟨⟨y0,y1⟩,z0,z1⟩:=HR9.out.cells;clear hp hg HP8 HG8 HR8))
 refine bodyPost_ret (v:=.agg #[vI kt,vE]) (by simp [results,Tryz.results174,go_sem,y0,y1]) rfl ⟨rfl,?_,?_⟩
 · (repeat (first | with_reducible refine PaS.setR ?_ hrp hrb _ _ | with_reducible refine PaS.allocI ?_ _ | exact HP9.out))
 · (repeat (first | with_reducible refine GrowA.setR ?_ HRW.out _ _ | with_reducible refine GrowA.alloc ?_ _ | exact HG9.out))
open Go.RowKit
def twoP (k:Int) (nm:ByteArray) (p q:Ph):Ph:=phN k ⟨0,0,⟨#[]⟩⟩ nm 0 0 0 ⟨#[]⟩ 2 (fun i=>if i=0 then p else q)
theorem v_two {w:World} {S:Nat->Prop} {g:Nat} {T:TypeId} {p q:Ph} {k:Int} {nm:ByteArray} {k0_1 k1_1 k2_1 k5_1 k6_1 k7_1 k0_2 k1_2 k2_2 k5_2 k6_2 k7_2:Int} {s3_1 s4_1 s8_1 s3_2 s4_2 s8_2:ByteArray} {a9_1 a10_1 a9_2 a10_2:Option Addr} {l9_1 c9_1 l10_1 c10_1 l9_2 c9_2 l10_2 c10_2:Nat} (hg:w.heap[g]?=some (.cells #[vI k0_1,vI k1_1,vI k2_1,vS s3_1,vS s4_1,vI k5_1,vI k6_1,vI k7_1,vS s8_1,.slice a9_1 l9_1 c9_1,.slice a10_1 l10_1 c10_1,vI k0_2,vI k1_2,vI k2_2,vS s3_2,vS s4_2,vI k5_2,vI k6_2,vI k7_2,vS s8_2,.slice a9_2 l9_2 c9_2,.slice a10_2 l10_2 c10_2] T)) (hS:S g) (h1:p.V w S (pL k0_1 k1_1 k2_1 s3_1 s4_1 k5_1 k6_1 k7_1 s8_1 a9_1 l9_1 c9_1 a10_1 l10_1 c10_1)) (h2:q.V w S (pL k0_2 k1_2 k2_2 s3_2 s4_2 k5_2 k6_2 k7_2 s8_2 a9_2 l9_2 c9_2 a10_2 l10_2 c10_2)):(twoP k nm p q).V w S (phL k ⟨0,0,⟨#[]⟩⟩ nm 0 0 0 ⟨#[]⟩ (vL g 0 2 2) (vN)):=by
 refine ⟨_,_,none,0,rfl,Nat.le_refl _,Nat.le_refl _,by decide,by decide,fun _=>⟨g,0,rfl,hS,fun i hi=>?_⟩,fun h=>absurd h (by decide)⟩
 rcases (show i=0\/i=1 by omega) with rfl | rfl
 · refine ⟨(pL k0_1 k1_1 k2_1 s3_1 s4_1 k5_1 k6_1 k7_1 s8_1 a9_1 l9_1 c9_1 a10_1 l10_1 c10_1),fun j hj=>?_,h1⟩
   rw [show 0 + 0 * 11 + j=j by omega]
   have hj':j<11:=hj
   rw [World.cell?,hg]
   match j,hj' with
   | 0,_ | 1,_ | 2,_ | 3,_ | 4,_ | 5,_ | 6,_ | 7,_ | 8,_ | 9,_ | 10,_=>rfl
 · refine ⟨(pL k0_2 k1_2 k2_2 s3_2 s4_2 k5_2 k6_2 k7_2 s8_2 a9_2 l9_2 c9_2 a10_2 l10_2 c10_2),fun j hj=>?_,h2⟩
   have hj':j<11:=hj
   rw [World.cell?,hg]
   match j,hj' with
   | 0,_ | 1,_ | 2,_ | 3,_ | 4,_ | 5,_ | 6,_ | 7,_ | 8,_ | 9,_ | 10,_=>rfl
theorem pathOf_is {k0_1 k1_1 k2_1 k5_1 k6_1 k7_1 k0_2 k1_2 k2_2 k5_2 k6_2 k7_2:Int} {s3_1 s4_1 s8_1 s3_2 s4_2 s8_2:ByteArray} {a9_1 a10_1 a9_2 a10_2:Option Addr} {l9_1 c9_1 l10_1 c10_1 l9_2 c9_2 l10_2 c10_2:Nat} (w:World):Calls Tryz.prog 170 #[.agg (pA k0_1 k1_1 k2_1 s3_1 s4_1 k5_1 k6_1 k7_1 s8_1 a9_1 l9_1 c9_1 a10_1 l10_1 c10_1),.agg (pA k0_2 k1_2 k2_2 s3_2 s4_2 k5_2 k6_2 k7_2 s8_2 a9_2 l9_2 c9_2 a10_2 l10_2 c10_2)] w fun e w'=>∃ g,e=.returned (.agg (pA 21 0 0 ⟨#[]⟩ ⟨#[]⟩ 0 0 0 ⟨#[]⟩ (some ⟨g,0,none⟩) 2 2 none 0 0))/\Below w.heap.size w w'/\(w.heap.size<=g/\g<w'.heap.size)/\w'.heap[g]?=some (.cells #[vI k0_1,vI k1_1,vI k2_1,vS s3_1,vS s4_1,vI k5_1,vI k6_1,vI k7_1,vS s8_1,.slice a9_1 l9_1 c9_1,.slice a10_1 l10_1 c10_1,vI k0_2,vI k1_2,vI k2_2,vS s3_2,vS s4_2,vI k5_2,vI k6_2,vI k7_2,vS s8_2,.slice a9_2 l9_2 c9_2,.slice a10_2 l10_2 c10_2] 44):=by
 go_enter Tryz.func170,Tryz.ntmps170
 go_upto_region 1 with fail
 obtain ⟨W1,hW1⟩:∃ W,W=((w.alloc (.cells (pA k0_1 k1_1 k2_1 s3_1 s4_1 k5_1 k6_1 k7_1 s8_1 a9_1 l9_1 c9_1 a10_1 l10_1 c10_1) 44)).alloc (.cells (pA k0_2 k1_2 k2_2 s3_2 s4_2 k5_2 k6_2 k7_2 s8_2 a9_2 l9_2 c9_2 a10_2 l10_2 c10_2) 44)).alloc (.cells (pZA 0) 44):=⟨_,rfl⟩
 have HB1:Hid (Below w.heap.size w W1):=by rw [hW1];exact (((Below.refl _ _).alloc (Nat.le_refl _) _).alloc (by simp) _).alloc (by simp;omega) _
 have HX1:Hid (PhB W1 w.heap.size (pA k0_1 k1_1 k2_1 s3_1 s4_1 k5_1 k6_1 k7_1 s8_1 a9_1 l9_1 c9_1 a10_1 l10_1 c10_1)):=by rw [hW1];exact ((PhB.new w _).allocI _).allocI _
 have HY1:Hid (PhB W1 (w.heap.size + 1) (pA k0_2 k1_2 k2_2 s3_2 s4_2 k5_2 k6_2 k7_2 s8_2 a9_2 l9_2 c9_2 a10_2 l10_2 c10_2)):=by
  have k:=(PhB.new (w.alloc (.cells (pA k0_1 k1_1 k2_1 s3_1 s4_1 k5_1 k6_1 k7_1 s8_1 a9_1 l9_1 c9_1 a10_1 l10_1 c10_1) 44)) (pA k0_2 k1_2 k2_2 s3_2 s4_2 k5_2 k6_2 k7_2 s8_2 a9_2 l9_2 c9_2 a10_2 l10_2 c10_2)).allocI (.cells (pZA 0) 44)
  rw [show (w.alloc (.cells (pA k0_1 k1_1 k2_1 s3_1 s4_1 k5_1 k6_1 k7_1 s8_1 a9_1 l9_1 c9_1 a10_1 l10_1 c10_1) 44)).heap.size=w.heap.size + 1 by simp] at k
  rw [hW1];exact k
 have HR1:Hid (PhZ W1 (w.heap.size + 1 + 1)):=by
  have k:=PhB.new ((w.alloc (.cells (pA k0_1 k1_1 k2_1 s3_1 s4_1 k5_1 k6_1 k7_1 s8_1 a9_1 l9_1 c9_1 a10_1 l10_1 c10_1) 44)).alloc (.cells (pA k0_2 k1_2 k2_2 s3_2 s4_2 k5_2 k6_2 k7_2 s8_2 a9_2 l9_2 c9_2 a10_2 l10_2 c10_2) 44)) (pZA 0)
  rw [show ((w.alloc (.cells (pA k0_1 k1_1 k2_1 s3_1 s4_1 k5_1 k6_1 k7_1 s8_1 a9_1 l9_1 c9_1 a10_1 l10_1 c10_1) 44)).alloc (.cells (pA k0_2 k1_2 k2_2 s3_2 s4_2 k5_2 k6_2 k7_2 s8_2 a9_2 l9_2 c9_2 a10_2 l10_2 c10_2) 44)).heap.size=w.heap.size + 1 + 1 by simp] at k
  rw [hW1];exact k
 rw [<- hW1]
 clear hW1
 obtain ⟨y,hy⟩:∃ y,y=w.heap.size + 1:=⟨_,rfl⟩
 obtain ⟨r,hr⟩:∃ r,r=w.heap.size + 1 + 1:=⟨_,rfl⟩
 have hyw:w.heap.size<=y:=by omega
 have hrw:w.heap.size<=r:=by omega
 rw [<- hr] at HR1 ⊢
 rw [<- hy] at HY1 ⊢
 clear hr hy
 obtain ⟨⟨y0,y1,y2,y3,y4,y5,y6,y7,y8,y9,y10⟩,z0,z1,z2,z3,z4,z5,z6,z7,z8,z9,z10⟩:=HR1.out.cells
 obtain ⟨⟨m0,m1,m2,m3,m4,m5,m6,m7,m8,m9,m10⟩,j0,j1,j2,j3,j4,j5,j6,j7,j8,j9,j10⟩:=HX1.out.cells
 obtain ⟨⟨p0,p1,p2,p3,p4,p5,p6,p7,p8,p9,p10⟩,i0,i1,i2,i3,i4,i5,i6,i7,i8,i9,i10⟩:=HY1.out.cells
 have hrz:=HR1.out.lt
 have hr1:r≠W1.heap.size:=by omega
 clear j0 i0 j1 i1 j2 i2 j3 i3 j4 i4 j5 i5 j6 i6 j7 i7 j8 i8 j9 i9 j10 i10
 go_wp2
 obtain ⟨W2,hW2⟩:∃ W,W=(((((((((((W1.setCell ⟨r,0,none⟩ (vI 21)).setCell ⟨r,1,none⟩ (vI 0)).setCell ⟨r,2,none⟩ (vI 0)).setCell ⟨r,3,none⟩ (vE)).setCell ⟨r,4,none⟩ (vE)).setCell ⟨r,5,none⟩ (vI 0)).setCell ⟨r,6,none⟩ (vI 0)).setCell ⟨r,7,none⟩ (vI 0)).setCell ⟨r,8,none⟩ (vE)).setCell ⟨r,9,none⟩ (vL W1.heap.size 0 2 2)).setCell ⟨r,10,none⟩ (vN)):=⟨_,rfl⟩
 have HB2:Hid (Below w.heap.size w W2):=by
  refine HidOf ?_
  rw [hW2]
  (repeat (first | with_reducible exact HB1.out | with_reducible refine below_setA ?_ hrw _ _))
 have hs2:W2.heap.size=W1.heap.size:=by rw [hW2];simp
 have HR2:Hid (PhB W2 r (pA 21 0 0 ⟨#[]⟩ ⟨#[]⟩ 0 0 0 ⟨#[]⟩ (some ⟨W1.heap.size,0,none⟩) 2 2 none 0 0)):=by rw [hW2];exact PhB.put HR1.out
 rw [<- hW2]
 clear hW2 y0 y1 y2 y3 y4 y5 y6 y7 y8 y9 y10 z0 z1 z2 z3 z4 z5 z6 z7 z8 z9 z10
 have HR3:=HidOf (HR2.out.allocI (.cells #[vI k0_1,vI k1_1,vI k2_1,vS s3_1,vS s4_1,vI k5_1,vI k6_1,vI k7_1,vS s8_1,.slice a9_1 l9_1 c9_1,.slice a10_1 l10_1 c10_1,vI k0_2,vI k1_2,vI k2_2,vS s3_2,vS s4_2,vI k5_2,vI k6_2,vI k7_2,vS s8_2,.slice a9_2 l9_2 c9_2,.slice a10_2 l10_2 c10_2] 44))
 obtain ⟨⟨y0,y1,y2,y3,y4,y5,y6,y7,y8,y9,y10⟩,z0,z1,z2,z3,z4,z5,z6,z7,z8,z9,z10⟩:=HR3.out.cells
 refine bodyPost_ret (v:=.agg (pA 21 0 0 ⟨#[]⟩ ⟨#[]⟩ 0 0 0 ⟨#[]⟩ (some ⟨W1.heap.size,0,none⟩) 2 2 none 0 0)) (by simp [results,Tryz.results170,go_sem,y0,y1,y2,y3,y4,y5,y6,y7,y8,y9,y10]) rfl ⟨W1.heap.size,rfl,HB2.out.alloc HB2.out.size _,⟨HB1.out.size,by simp [hs2]⟩,?_⟩
 rw [<- hs2]
 exact heap_alloc_new _ _
open Go.RowKit
open Go.RowKit
open Go.RowKit
open Go.RowKit
open Go.RowKit
open Go.RowKit
open Go.RowKit Go.WideShapes
structure HeadAt (w:World) (b off:Nat) (k:Int) (it:It) (nm a:ByteArray) (n ax tk:Int) (tn:ByteArray) (v:Value):Prop where
 c0:w.cell? ⟨b,off,none⟩=some (vI k)
 c1:w.cell? ⟨b,off + 1,none⟩=some (vI it.kind)
 c2:w.cell? ⟨b,off + 2,none⟩=some (vI it.n)
 c3:w.cell? ⟨b,off + 3,none⟩=some (vS it.s)
 c4:w.cell? ⟨b,off + 4,none⟩=some (vS nm)
 c5:w.cell? ⟨b,off + 5,none⟩=some (vS a)
 c6:w.cell? ⟨b,off + 6,none⟩=some (vI n)
 c7:w.cell? ⟨b,off + 7,none⟩=some (vI ax)
 c8:w.cell? ⟨b,off + 8,none⟩=some (vI tk)
 c9:w.cell? ⟨b,off + 9,none⟩=some (vS tn)
 c10:w.cell? ⟨b,off + 10,none⟩=some v
 s1:it.s.size<=maxLen
 s2:nm.size<=maxLen
 s3:a.size<=maxLen
theorem HeadAt.keep {w w':World} {b off:Nat} {k:Int} {it:It} {nm a:ByteArray} {n ax tk:Int} {tn:ByteArray} {v:Value} (h:HeadAt w b off k it nm a n ax tk tn v) (hb:w'.heap[b]?=w.heap[b]?):HeadAt w' b off k it nm a n ax tk tn v:=by
 have e:∀ o,w'.cell? ⟨b,o,none⟩=w.cell? ⟨b,o,none⟩:=fun o=>by unfold World.cell?;rw [hb]
 exact ⟨(e _).trans h.c0,(e _).trans h.c1,(e _).trans h.c2,(e _).trans h.c3,(e _).trans h.c4,(e _).trans h.c5,(e _).trans h.c6,(e _).trans h.c7,(e _).trans h.c8,(e _).trans h.c9,(e _).trans h.c10,h.s1,h.s2,h.s3⟩
def Ex.At (w:World) (B:Nat):Ex->Nat->Nat->Prop
 | .no,_,_=>False
 | .mk k it nm a n ax tk tn m A,b,off=>b<B/\∃ sl cap,HeadAt w b off k it nm a n ax tk tn (.slice sl m cap)/\m<=cap/\cap<=maxLen/\(0<m->∃ b' off',sl=some ⟨b',off',none⟩/\b'<B/\∀ i,i<m->(A i).At w B b' (off' + i * 11))
theorem Ex.At.below {w w':World} {B:Nat} {x:Ex}:∀ {b off:Nat},x.At w B b off->Below B w w'->x.At w' B b off:=by
 induction x with
 | no=>intro b off h hb;exact h.elim
 | mk k it nm a n ax tk tn m A ih =>
  intro b off h hb
  obtain ⟨h1,sl,cap,h2,h3,h4,h5⟩:=h
  refine ⟨h1,sl,cap,h2.keep (hb.block b h1),h3,h4,fun h0=>?_⟩
  obtain ⟨b',off',k1,k2,k3⟩:=h5 h0
  exact ⟨b',off',k1,k2,fun i hi=>ih i (k3 i hi) hb⟩
def SMap (w:World) (M:Nat) (N:ByteArray->Nat):Prop:=∃ V,VMap w M V/\∀ x,(V x).getD (vI 0)=vI (N x:Int)
theorem SMap.made (w:World):SMap (w.alloc (.map #[] 0)) w.heap.size (fun _=>0):=⟨_,VMap.made w,fun x=>rfl⟩
theorem SMap.keep {w w':World} {M:Nat} {N:ByteArray->Nat} (h:SMap w M N) (hM:w'.heap[M]?=w.heap[M]?):SMap w' M N:=by
 obtain ⟨V,h1,h2⟩:=h
 exact ⟨V,h1.keep hM,h2⟩
theorem SMap.lt {w:World} {M:Nat} {N:ByteArray->Nat} (h:SMap w M N):M<w.heap.size:=by
 obtain ⟨V,h1,h2⟩:=h
 exact h1.lt
theorem SMap.congr {w:World} {M:Nat} {N N':ByteArray->Nat} (h:SMap w M N) (e:∀ x,N x=N' x):SMap w M N':=by
 have:N=N':=funext e
 rw [<- this];exact h
theorem SMap.put {w':World} {M:Nat} {N:ByteArray->Nat} {V:ByteArray->Option Value} {x:ByteArray} {n:Nat} (hV:∀ x,(V x).getD (vI 0)=vI (N x:Int)) (h:VMap w' M (putV V x (vI (n:Int)))):SMap w' M (fun y=>if (y.toList == x.toList)=true then n else N y):=by
 refine ⟨_,h,fun y=>?_⟩
 unfold putV
 show (if (y.toList == x.toList)=true then some (Value.int .i64 (n:Int)) else V y).getD (vI 0)=vI ((if (y.toList == x.toList)=true then n else N y:Nat):Int)
 by_cases e:(y.toList == x.toList)=true
 · rw [if_pos e,if_pos e];rfl
 · rw [if_neg e,if_neg e];exact hV y
def hitB (y x:ByteArray):Bool:=Nat.blt 0 x.size && (y.toList == x.toList)
def cntE (L:List ByteArray) (y:ByteArray):Nat:=L.countP (hitB y)
theorem hit_no {x:ByteArray} (h:x.size=0) (y:ByteArray):hitB y x=false:=by unfold hitB;rw [h];rfl
theorem hit_yes {x:ByteArray} (h:x.size≠0) (y:ByteArray):hitB y x=(y.toList == x.toList):=by
 have:Nat.blt 0 x.size=true:=Nat.ble_eq_true_of_le (by omega)
 unfold hitB;rw [this];rfl
theorem cntE_take {L:List ByteArray} {k:Nat} (h:k<L.length) (y:ByteArray):cntE (L.take (k + 1)) y=cntE (L.take k) y + (if hitB y L[k]=true then 1 else 0):=by
 unfold cntE
 rw [List.take_succ_eq_append_getElem h,List.countP_append,List.countP_cons,List.countP_nil,Nat.zero_add]
theorem cntE_drop {L:List ByteArray} {k:Nat} (h:k<L.length) (y:ByteArray):cntE (L.drop k) y=cntE (L.drop (k + 1)) y + (if hitB y L[k]=true then 1 else 0):=by
 unfold cntE
 rw [List.drop_eq_getElem_cons h,List.countP_cons]
theorem cntE_le (L:List ByteArray) (y:ByteArray):cntE L y<=L.length:=List.countP_le_length
structure CkS (w:World) (cb tb sb:Nat) (N:ByteArray->Nat) (l k p:Nat):Prop where
 blk:w.heap[cb]?=some (.cells #[.map (some tb),.map (some sb),vI (l:Int),vI (k:Int),vI (p:Int)] 60)
 tab:VMap w tb fnsV
 sc:SMap w sb N
 tn:tb≠sb
theorem CkS.ne {w:World} {cb tb sb:Nat} {N:ByteArray->Nat} {l k p:Nat} (h:CkS w cb tb sb N l k p):cb≠tb/\cb≠sb:=by
 obtain ⟨h1,⟨es,c,h2,_⟩,⟨V,⟨es',c',h3,_⟩,_⟩,_⟩:=h
 exact ⟨(fun e=>by rw [e,h2] at h1;cases h1),(fun e=>by rw [e,h3] at h1;cases h1)⟩
theorem CkS.lt {w:World} {cb tb sb:Nat} {N:ByteArray->Nat} {l k p:Nat} (h:CkS w cb tb sb N l k p):cb<w.heap.size:=(gI h.blk).1
theorem CkS.cells {w:World} {cb tb sb:Nat} {N:ByteArray->Nat} {l k p:Nat} (h:CkS w cb tb sb N l k p):w.cell? ⟨cb,0,none⟩=some (.map (some tb))/\w.cell? ⟨cb,1,none⟩=some (.map (some sb))/\w.cell? ⟨cb,2,none⟩=some (vI (l:Int))/\w.cell? ⟨cb,3,none⟩=some (vI (k:Int))/\w.cell? ⟨cb,4,none⟩=some (vI (p:Int))/\w.frozen? ⟨cb,2,none⟩=false/\w.frozen? ⟨cb,3,none⟩=false/\w.frozen? ⟨cb,4,none⟩=false:=by
 have h1:=h.blk
 refine ⟨?_,?_,?_,?_,?_,?_,?_,?_⟩ <;> first | (rw [Lib.cell_of_heap h1];rfl) | exact Lib.frozen_of_heap h1 _
theorem CkS.keep {w w':World} {cb tb sb:Nat} {N:ByteArray->Nat} {l k p:Nat} (h:CkS w cb tb sb N l k p) (hb:∀ b,b<w.heap.size->w'.heap[b]?=w.heap[b]?):CkS w' cb tb sb N l k p :=
 ⟨(hb _ h.lt).trans h.blk,h.tab.keep (hb _ h.tab.lt),h.sc.keep (hb _ h.sc.lt),h.tn⟩
theorem CkS.below {w w':World} {cb tb sb:Nat} {N:ByteArray->Nat} {l k p:Nat} (h:CkS w cb tb sb N l k p) (hb:Below w.heap.size w w'):CkS w' cb tb sb N l k p:=h.keep fun b hb1=>hb.block b hb1
theorem heap_set_same {w:World} {b:Nat} {cs:Array Value} {T:TypeId} (h:w.heap[b]?=some (.cells cs T)) (j:Nat) (v:Value):(w.setCell ⟨b,j,none⟩ v).heap[b]?=some (.cells (cs.setIfInBounds j v) T):=by
 simp [World.setCell,Array.getElem?_modify,h]
theorem CkS.setL {w:World} {cb tb sb:Nat} {N:ByteArray->Nat} {l k p:Nat} (h:CkS w cb tb sb N l k p) (l':Nat):CkS (w.setCell ⟨cb,2,none⟩ (vI (l':Int))) cb tb sb N l' k p :=
 ⟨by rw [heap_set_same h.blk];rfl,h.tab.keep (Below.heap_setCell _ _ _ _ (fun e=>h.ne.1 e.symm)),h.sc.keep (Below.heap_setCell _ _ _ _ (fun e=>h.ne.2 e.symm)),h.tn⟩
theorem zeroI (w:World):(zeroValue 3).run Tryz.prog w=.ok (vI 0) w:=by kernel_rfl
theorem zeroF (w:World):(zeroValue 81).run Tryz.prog w=.ok (.agg #[vS ByteArray.empty,vI 0]) w:=by kernel_rfl
end Go.Proofs.YtmcmbdkpfcibkaaGreatDoor
