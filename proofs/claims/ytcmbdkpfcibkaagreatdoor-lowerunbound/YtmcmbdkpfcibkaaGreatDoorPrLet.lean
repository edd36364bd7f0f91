import Derived.Test.YtmcmbdkpfcibkaaGreatDoorPmClone
set_option linter.unusedVariables false
set_option maxHeartbeats 6400000
namespace Go.Proofs.YtmcmbdkpfcibkaaGreatDoor
set_option maxRecDepth 100000
open Go.RowKit
theorem ClB.setAt {w:World} {r:Nat} {v:Array Value} (h:ClB w r v) (k:Nat) (u:Value):ClB (w.setCell ⟨r,k,none⟩ u) r (v.setIfInBounds k u):=by
 unfold ClB at h ⊢
 simp [World.setCell,Array.getElem?_modify,h]
theorem ClB.setO {w:World} {r x:Nat} {v:Array Value} (h:ClB w r v) (hn:r≠x) (k:Nat) (u:Value):ClB (w.setCell ⟨x,k,none⟩ u) r v:=(Below.heap_setCell _ _ _ _ (by simpa using hn)).trans h
theorem letBe_is {pb b c:Nat} {T:List Tok} {st s2 s3:Pst} {us:ByteArray} {un:Int} {p:Ph} (hT:T.length<=200) (hat:st.at'<=300) (hu:seeM T st 0=⟨4,us,un⟩) (hs:us.size<=4000) (ha1:st.at' + 1<=300) (hw:wantM T { st with at':=st.at' + 1 } ⟨5,⟨#[58,61]⟩,0⟩=s2) (hlu:RunT pb b c T 84 #[vP pb 0] s2 s3 p):RunC pb b c T 162 st s3 2 us ⟨#[]⟩ false p:=by
 intro w h htb
 have HTB:Hid (RTab w pb):=htb
 clear htb
 have HLU:Hid (RunT pb b c T 84 #[vP pb 0] s2 s3 p):=hlu
 clear hlu
 have hpl:=h.pl
 have hbl:=h.bl
 go_enter Tryz.func162,Tryz.ntmps162
 go_upto_region 1 with fail
 obtain ⟨W1,hW1⟩:∃ W,W=w.alloc (.cells (tA 0 ⟨#[]⟩ ⟨#[]⟩ false 0 0 0 ⟨#[]⟩ ⟨#[]⟩ 0 0 0 ⟨#[]⟩ none 0 0 none 0 0) 133):=⟨_,rfl⟩
 have HG1:Hid (GrowA pb w W1):=by rw [hW1];exact (GrowA.refl _ _).alloc _
 have HP1:Hid (PaS W1 pb b c T st):=by rw [hW1];exact h.allocI _
 have HR1:Hid (ClB W1 w.heap.size (tA 0 ⟨#[]⟩ ⟨#[]⟩ false 0 0 0 ⟨#[]⟩ ⟨#[]⟩ 0 0 0 ⟨#[]⟩ none 0 0 none 0 0)):=by rw [hW1];exact ClB.new w _
 rw [<- hW1]
 obtain ⟨r,hr⟩:∃ r,r=w.heap.size:=⟨_,rfl⟩
 have HRW:Hid (w.heap.size<=r):=Nat.le_of_eq hr.symm
 have hrp:r≠pb:=by omega
 have hrb:r≠b:=by omega
 rw [<- hr] at HR1 ⊢
 clear hW1 hr h hpl hbl
 go_upto_region 2 with (first
  | (go_at_call 145;(refine (text_yes HP1.out hT hat hu hs).mono ?_);rintro e w2 ⟨rfl,hp,hg⟩;have HG2:Hid (GrowA pb w w2):=(HG1.out.trans hg);have HP2:Hid (PaS w2 pb b c T { st with at':=st.at' + 1 }):=hp;have HR2:Hid (ClB w2 r (tA 0 ⟨#[]⟩ ⟨#[]⟩ false 0 0 0 ⟨#[]⟩ ⟨#[]⟩ 0 0 0 ⟨#[]⟩ none 0 0 none 0 0)):=(HR1.out.grow hg hrp);clear hp hg HP1 HG1 HR1))
 obtain ⟨W3,hW3⟩:∃ W,W=w2.alloc (.cells (tA 2 us ⟨#[]⟩ false 0 0 0 ⟨#[]⟩ ⟨#[]⟩ 0 0 0 ⟨#[]⟩ none 0 0 none 0 0) 133):=⟨_,rfl⟩
 have HP3:Hid (PaS W3 pb b c T { st with at':=st.at' + 1 }):=by rw [hW3];exact HP2.out.allocI _
 have HG3:Hid (GrowA pb w W3):=by rw [hW3];exact HG2.out.alloc _
 have HR3:Hid (ClB W3 r (tA 0 ⟨#[]⟩ ⟨#[]⟩ false 0 0 0 ⟨#[]⟩ ⟨#[]⟩ 0 0 0 ⟨#[]⟩ none 0 0 none 0 0)):=by rw [hW3];exact HR2.out.allocI _
 have HX3:Hid (ClB W3 w2.heap.size (tA 2 us ⟨#[]⟩ false 0 0 0 ⟨#[]⟩ ⟨#[]⟩ 0 0 0 ⟨#[]⟩ none 0 0 none 0 0)):=by rw [hW3];exact ClB.new w2 _
 have hxp:w2.heap.size≠pb:=by have:=HP2.out.pl;omega
 have hxb:w2.heap.size≠b:=by have:=HP2.out.bl;omega
 have hxw:w.heap.size<=w2.heap.size:=HG2.out.1
 have hrx2:r<w2.heap.size:=HR2.out.lt
 have hrx:r≠w2.heap.size:=by omega
 rw [<- hW3]
 clear hW3 HP2 HG2 HR2
 go_upto_region 4 with (first
  | (go_at_call 82;have HNX:=HP3;refine (mark_is _ _).mono ?_;rintro e w4 ⟨rfl,hb⟩;have HG4:Hid (GrowA pb w w4):=(HG3.out.below hb);have HP4:Hid (PaS w4 pb b c T { st with at':=st.at' + 1 }):=(HP3.out.below hb);have HR4:Hid (ClB w4 r (tA 0 ⟨#[]⟩ ⟨#[]⟩ false 0 0 0 ⟨#[]⟩ ⟨#[]⟩ 0 0 0 ⟨#[]⟩ none 0 0 none 0 0)):=(HR3.out.below hb);have HX4:Hid (ClB w4 w2.heap.size (tA 2 us ⟨#[]⟩ false 0 0 0 ⟨#[]⟩ ⟨#[]⟩ 0 0 0 ⟨#[]⟩ none 0 0 none 0 0)):=(HX3.out.below hb);clear hb HNX HP3 HG3 HR3 HX3)
  | (go_at_call 144;(refine (want_eq HP4.out hT ha1 hw).mono ?_);rintro e w5 ⟨rfl,hp,hg⟩;have HG5:Hid (GrowA pb w w5):=(HG4.out.trans hg);have HP5:Hid (PaS w5 pb b c T s2):=hp;have HR5:Hid (ClB w5 r (tA 0 ⟨#[]⟩ ⟨#[]⟩ false 0 0 0 ⟨#[]⟩ ⟨#[]⟩ 0 0 0 ⟨#[]⟩ none 0 0 none 0 0)):=(HR4.out.grow hg hrp);have HX5:Hid (ClB w5 w2.heap.size (tA 2 us ⟨#[]⟩ false 0 0 0 ⟨#[]⟩ ⟨#[]⟩ 0 0 0 ⟨#[]⟩ none 0 0 none 0 0)):=(HX4.out.grow hg hxp);clear hp hg HP4 HG4 HR4 HX4)
  | (go_at_call 84;(first | refine (HLU.out.use HTB.out HP5.out HG5.out (show w2.heap.size<_ from by have k:=HX5.out.lt;first | exact k | (simp;omega))).mono ?_ | refine (HLU.out.use HTB.out (HP5.out.allocI _) (HG5.out.alloc _) (show w2.heap.size<_ from by have k:=HX5.out.lt;first | exact k | (simp;omega))).mono ?_ | refine (HLU.out.use HTB.out ((HP5.out.allocI _).allocI _) ((HG5.out.alloc _).alloc _) (show w2.heap.size<_ from by have k:=HX5.out.lt;first | exact k | (simp;omega))).mono ?_);rintro e w6 ⟨lo1,v,hlo,hv,rfl,hp,hg⟩;obtain ⟨k0_1,k1_1,k2_1,k5_1,k6_1,k7_1,s3_1,s4_1,s8_1,a9_1,a10_1,l9_1,c9_1,l10_1,c10_1,rfl⟩:=hv.form;have hlo1:=hlo.1;have hlp1:=hlo.2.1;have hlz1:=hlo.2.2;have HG6:Hid (GrowA pb w w6):=(HG5.out.trans hg);have HP6:Hid (PaS w6 pb b c T s3):=hp;have HR6:Hid (ClB w6 r (tA 0 ⟨#[]⟩ ⟨#[]⟩ false 0 0 0 ⟨#[]⟩ ⟨#[]⟩ 0 0 0 ⟨#[]⟩ none 0 0 none 0 0)):=(HR5.out.grow hg hrp);have HX6:Hid (ClB w6 w2.heap.size (tA 2 us ⟨#[]⟩ false 0 0 0 ⟨#[]⟩ ⟨#[]⟩ 0 0 0 ⟨#[]⟩ none 0 0 none 0 0)):=(HX5.out.grow hg hxp);have HV1_6:Hid (Tre w6 lo1 p (pL k0_1 k1_1 k2_1 s3_1 s4_1 k5_1 k6_1 k7_1 s8_1 a9_1 l9_1 c9_1 a10_1 l10_1 c10_1)):=hv;obtain ⟨⟨m0,m1,m2,m3,m4,m5,m6,m7,m8,m9,m10,m11,m12,m13,m14⟩,j0,j1,j2,j3,j4,j5,j6,j7,j8,j9,j10,j11,j12,j13,j14⟩:=HX6.out.cells;have hxz:=HX6.out.lt;clear hv hlo hp hg HP5 HG5 HR5 HX5))
 obtain ⟨W7,hW7⟩:∃ W,W=putC w6 w2.heap.size 4 (pL k0_1 k1_1 k2_1 s3_1 s4_1 k5_1 k6_1 k7_1 s8_1 a9_1 l9_1 c9_1 a10_1 l10_1 c10_1):=⟨_,rfl⟩
 have HP7:Hid (PaS W7 pb b c T s3):=by rw [hW7];exact HP6.out.put hxp hxb 4 _
 have HG7:Hid (GrowA pb w W7):=by rw [hW7];exact putC_grow hxw _ _ _ HG6.out
 have HR7:Hid (ClB W7 r (tA 0 ⟨#[]⟩ ⟨#[]⟩ false 0 0 0 ⟨#[]⟩ ⟨#[]⟩ 0 0 0 ⟨#[]⟩ none 0 0 none 0 0)):=by rw [hW7];exact HR6.out.put hrx 4 _
 have HX7:Hid (ClB W7 w2.heap.size (tA 2 us ⟨#[]⟩ false k0_1 k1_1 k2_1 s3_1 s4_1 k5_1 k6_1 k7_1 s8_1 a9_1 l9_1 c9_1 a10_1 l10_1 c10_1)):=by rw [hW7];exact HX6.out.expr
 have HV1_7:Hid (Tre W7 lo1 p (pL k0_1 k1_1 k2_1 s3_1 s4_1 k5_1 k6_1 k7_1 s8_1 a9_1 l9_1 c9_1 a10_1 l10_1 c10_1)):=by rw [hW7];exact HV1_6.out.put hlo1 4 _
 simp only [putC] at hW7
 rw [<- hW7]
 clear hW7 HP6 HG6 HR6 HX6 HV1_6 hxz m0 j0 m1 j1 m2 j2 m3 j3 m4 j4 m5 j5 m6 j6 m7 j7 m8 j8 m9 j9 m10 j10 m11 j11 m12 j12 m13 j13 m14 j14
 obtain ⟨⟨y0,y1,y2,y3,y4,y5,y6,y7,y8,y9,y10,y11,y12,y13,y14⟩,z0,z1,z2,z3,z4,z5,z6,z7,z8,z9,z10,z11,z12,z13,z14⟩:=HR7.out.cells
 obtain ⟨⟨m0,m1,m2,m3,m4,m5,m6,m7,m8,m9,m10,m11,m12,m13,m14⟩,j0,j1,j2,j3,j4,j5,j6,j7,j8,j9,j10,j11,j12,j13,j14⟩:=HX7.out.cells
 have hlr1:r<lo1:=by omega
 go_wp2
 refine bodyPost_ret (v:=.agg (tA 2 us ⟨#[]⟩ false k0_1 k1_1 k2_1 s3_1 s4_1 k5_1 k6_1 k7_1 s8_1 a9_1 l9_1 c9_1 a10_1 l10_1 c10_1)) (by simp [results,Tryz.results162,go_sem,y0,y1,y2,y3,y4,y5,y6,y7,y8,y9,y10,y11,y12,y13,y14]) rfl ⟨(pL k0_1 k1_1 k2_1 s3_1 s4_1 k5_1 k6_1 k7_1 s8_1 a9_1 l9_1 c9_1 a10_1 l10_1 c10_1),?_,rfl,?_,?_⟩
 · refine Tre.mono (lo:=lo1) ?_ (by have:=HRW.out;omega)
   (repeat (first | with_reducible refine Tre.setR ?_ hlr1 _ _ | with_reducible refine Tre.allocI ?_ _ | with_reducible exact HV1_7.out))
 · (repeat (first | with_reducible refine PaS.setR ?_ hrp hrb _ _ | with_reducible refine PaS.allocI ?_ _ | exact HP7.out))
 · (repeat (first | with_reducible refine GrowA.setR ?_ HRW.out _ _ | with_reducible refine GrowA.alloc ?_ _ | exact HG7.out))
end Go.Proofs.YtmcmbdkpfcibkaaGreatDoor
