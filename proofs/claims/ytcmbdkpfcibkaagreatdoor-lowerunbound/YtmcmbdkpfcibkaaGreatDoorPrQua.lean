import Derived.Test.YtmcmbdkpfcibkaaGreatDoorPmClone
import Derived.Deep.RegionHeld3
set_option linter.unusedVariables false
set_option maxHeartbeats 6400000
namespace Go.Proofs.YtmcmbdkpfcibkaaGreatDoor
set_option maxRecDepth 100000
open Go.RowKit
theorem GrowA.drewG {pb:Nat} {w wr:World} (h:GrowA pb w wr):GrowA pb w wr.drew:=h
theorem PhB.drewQ {w:World} {r:Nat} {v:Array Value} (h:PhB w r v):PhB w.drew r v:=h
theorem PaS.drewP {w:World} {pb b c:Nat} {T:List Tok} {st:Pst} (h:PaS w pb b c T st):PaS w.drew pb b c T st:=h.below (Below.refl _ _).drew
theorem RunT.useD {pb b c:Nat} {T:List Tok} {f:Nat} {args:Array Value} {st st':Pst} {p:Ph} (h:RunT pb b c T f args st st' p) {w W0 W:World} (ht:RTab w pb) (h0:GrowA pb w W0) (hg:GrowA pb W0 W) (hp:PaS W pb b c T st) :
 Calls Tryz.prog f args W fun e w'=>∃ v,(W0.heap.size<=w'.heap.size)/\Tre w' W0.heap.size p v/\e=.returned (.agg v.toArray)/\PaS w' pb b c T st'/\GrowA pb W0 w' :=
 (h W hp (ht.grow (h0.trans hg))).mono fun e w' ⟨v,h1,h2,h3,h4⟩=>⟨v,(hg.trans h4).1,h1.mono hg.1,h2,h3,hg.trans h4⟩
theorem phs_two {w:World} {lo g:Nat} {T:TypeId} {p p2:Ph} {k0_1 k1_1 k2_1 k5_1 k6_1 k7_1 k0_2 k1_2 k2_2 k5_2 k6_2 k7_2:Int} {s3_1 s4_1 s8_1 s3_2 s4_2 s8_2:ByteArray} {a9_1 a10_1 a9_2 a10_2:Option Addr} {l9_1 c9_1 l10_1 c10_1 l9_2 c9_2 l10_2 c10_2:Nat} (hg:w.heap[g]?=some (.cells #[vI k0_1,vI k1_1,vI k2_1,vS s3_1,vS s4_1,vI k5_1,vI k6_1,vI k7_1,vS s8_1,.slice a9_1 l9_1 c9_1,.slice a10_1 l10_1 c10_1,vI k0_2,vI k1_2,vI k2_2,vS s3_2,vS s4_2,vI k5_2,vI k6_2,vI k7_2,vS s8_2,.slice a9_2 l9_2 c9_2,.slice a10_2 l10_2 c10_2] T)) (hl:lo<=g) (h0:Tre w lo p (pL k0_1 k1_1 k2_1 s3_1 s4_1 k5_1 k6_1 k7_1 s8_1 a9_1 l9_1 c9_1 a10_1 l10_1 c10_1)) (h1:Tre w lo p2 (pL k0_2 k1_2 k2_2 s3_2 s4_2 k5_2 k6_2 k7_2 s8_2 a9_2 l9_2 c9_2 a10_2 l10_2 c10_2)):Phs w lo 2 (fun i=>if i=0 then p else p2) (vL g 0 2 2):=by
 refine ⟨_,_,rfl,Nat.le_refl _,by decide,fun _=>⟨g,rfl,⟨hl,(gI hg).1⟩,fun i hi=>?_⟩⟩
 rcases (show i=0\/i=1 by omega) with rfl | rfl
 · refine ⟨(pL k0_1 k1_1 k2_1 s3_1 s4_1 k5_1 k6_1 k7_1 s8_1 a9_1 l9_1 c9_1 a10_1 l10_1 c10_1),fun j hj=>?_,h0⟩
   have hj':j<11:=hj
   rw [World.cell?,hg]
   match j,hj' with
   | 0,_ | 1,_ | 2,_ | 3,_ | 4,_ | 5,_ | 6,_ | 7,_ | 8,_ | 9,_ | 10,_=>rfl
 · refine ⟨(pL k0_2 k1_2 k2_2 s3_2 s4_2 k5_2 k6_2 k7_2 s8_2 a9_2 l9_2 c9_2 a10_2 l10_2 c10_2),fun j hj=>?_,h1⟩
   have hj':j<11:=hj
   rw [World.cell?,hg]
   match j,hj' with
   | 0,_ | 1,_ | 2,_ | 3,_ | 4,_ | 5,_ | 6,_ | 7,_ | 8,_ | 9,_ | 10,_=>rfl
theorem quantified_is {pb b c:Nat} {T:List Tok} {st:Pst} {kd:Int} {us:ByteArray} {un:Int} {s2 s3 s4 s5:Pst} {p p2:Ph} (hT:T.length<=200) (hat:st.at'<=300) (ha1:st.at' + 1<=300) (hu:seeM T { st with at':=st.at' + 1 } 0=⟨4,us,un⟩) (hs:us.size<=4000) (ha2:st.at' + 1 + 1<=300) (hw:wantM T { st with at':=st.at' + 1 + 1 } ⟨1,⟨#[105,110]⟩,0⟩=s2) (hat3:s3.at'<=300) (hw2:wantM T s3 ⟨1,⟨#[115,97,116,105,115,102,105,101,115]⟩,0⟩=s4) (hlu:RunT pb b c T 84 #[vP pb 0] s2 s3 p) (hlv:RunT pb b c T 84 #[vP pb 0] s4 s5 p2):RunT pb b c T 121 #[vP pb 0,vI kd] st s5 (phN kd ⟨0,0,⟨#[]⟩⟩ us 0 0 0 ⟨#[]⟩ 2 (fun i=>if i=0 then p else p2)):=by
 intro w h htb
 have HTB:Hid (RTab w pb):=htb
 clear htb
 have HLU:Hid (RunT pb b c T 84 #[vP pb 0] s2 s3 p):=hlu
 clear hlu
 have HLV:Hid (RunT pb b c T 84 #[vP pb 0] s4 s5 p2):=hlv
 clear hlv
 have hwr:IntKind.i64.wrap ((st.at':Int) + 1)=((st.at' + 1:Nat):Int):=by rw [IntWalk.i64_in _ (by omega)];simp
 have hpl:=h.pl
 have hbl:=h.bl
 go_enter Tryz.func121,Tryz.ntmps121
 go_upto_region 1 with fail
 obtain ⟨W1,hW1⟩:∃ W,W=w.alloc (.cells (pZA 0) 44):=⟨_,rfl⟩
 have HG1:Hid (GrowA pb w W1):=by rw [hW1];exact (GrowA.refl _ _).alloc _
 have HP1:Hid (PaS W1 pb b c T st):=by rw [hW1];exact h.allocI _
 have HR1:Hid (PhZ W1 w.heap.size):=by rw [hW1];exact PhB.new w _
 rw [<- hW1]
 obtain ⟨r,hr⟩:∃ r,r=w.heap.size:=⟨_,rfl⟩
 have HRW:Hid (w.heap.size<=r):=Nat.le_of_eq hr.symm
 have hrp:r≠pb:=by omega
 have hrb:r≠b:=by omega
 rw [<- hr] at HR1 ⊢
 clear hW1 hr h hpl hbl
 have x1:=HP1.out.a
 have f1:=HP1.out.fa
 have hl3:=HP1.out.pl
 obtain ⟨Wa,hWa⟩:∃ W,W=W1.setCell ⟨pb,1,none⟩ (vI ((st.at':Int) + 1)):=⟨_,rfl⟩
 have HPa:Hid (PaS Wa pb b c T { st with at':=st.at' + 1 }):=by rw [hWa];exact HP1.out.setA (st.at' + 1)
 have HGa:Hid (GrowA pb w Wa):=by rw [hWa];exact HG1.out.set 1 _
 have HRa:Hid (PhZ Wa r):=by rw [hWa];exact HR1.out.grow ((GrowA.refl _ _).set 1 _) hrp
 go_upto_region 2 with fail
 rw [<- hWa]
 clear hWa x1 f1 hl3 HP1 HG1 HR1
 go_upto_region 3 with (first
  | (go_at_call 145;(refine (text_yes HPa.out hT ha1 hu hs).mono ?_);rintro e w2 ⟨rfl,hp,hg⟩;have HG2:=HidOf (HGa.out.trans hg);have HP2:Hid (PaS w2 pb b c T { st with at':=st.at' + 1 + 1 }):=hp;have HR2:=HidOf (HRa.out.grow hg hrp);clear hp hg HPa HGa HRa))
 obtain ⟨x,hx0⟩:∃ x,x=w2.heap.size:=⟨_,rfl⟩
 obtain ⟨W3,hW3⟩:∃ W,W=w2.alloc (.cells (pA kd 0 0 ⟨#[]⟩ us 0 0 0 ⟨#[]⟩ none 0 0 none 0 0) 44):=⟨_,rfl⟩
 have HP3:Hid (PaS W3 pb b c T { st with at':=st.at' + 1 + 1 }):=by rw [hW3];exact HP2.out.allocI _
 have HG3:Hid (GrowA pb w W3):=by rw [hW3];exact HG2.out.alloc _
 have HR3:Hid (PhZ W3 r):=by rw [hW3];exact HR2.out.allocI _
 have HX3:Hid (PhB W3 x (pA kd 0 0 ⟨#[]⟩ us 0 0 0 ⟨#[]⟩ none 0 0 none 0 0)):=by rw [hW3,hx0];exact PhB.new w2 _
 have hxp:x≠pb:=by have:=HP2.out.pl;omega
 have hxb:x≠b:=by have:=HP2.out.bl;omega
 have hxw:w.heap.size<=x:=by rw [hx0];exact HG2.out.1
 have hrx2:r<x:=by rw [hx0];exact HR2.out.lt
 have hrx:r≠x:=by omega
 rw [<- hW3,<- hx0]
 clear hW3 HP2 HG2 HR2 hx0
 go_upto_region 5 with (first
  | (go_at_call 119;have HNX:=HP3;refine (word_is _ _).mono ?_;rintro e w4 ⟨rfl,hb⟩;have HG4:=HidOf (HG3.out.below hb);have HP4:=HidOf (HP3.out.below hb);have HR4:=HidOf (HR3.out.below hb);have HX4:=HidOf (HX3.out.below hb);clear hb HNX HP3 HG3 HR3 HX3)
  | (go_at_call 144;(refine (want_eq HP4.out hT ha2 hw).mono ?_);rintro e w5 ⟨rfl,hp,hg⟩;have HG5:=HidOf (HG4.out.trans hg);have HP5:Hid (PaS w5 pb b c T s2):=hp;have HR5:=HidOf (HR4.out.grow hg hrp);have HX5:=HidOf (HX4.out.grow hg hxp);clear hp hg HP4 HG4 HR4 HX4)
  | (go_at_call 84;(first | refine (HLU.out.use HTB.out HP5.out HG5.out (show x<_ from by have k:=HX5.out.lt;first | exact k | (simp;omega))).mono ?_ | refine (HLU.out.use HTB.out (HP5.out.allocI _) (HG5.out.alloc _) (show x<_ from by have k:=HX5.out.lt;first | exact k | (simp;omega))).mono ?_ | refine (HLU.out.use HTB.out ((HP5.out.allocI _).allocI _) ((HG5.out.alloc _).alloc _) (show x<_ from by have k:=HX5.out.lt;first | exact k | (simp;omega))).mono ?_);rintro e w6 ⟨lo1,v,hlo,hv,rfl,hp,hg⟩;obtain ⟨k0_1,k1_1,k2_1,k5_1,k6_1,k7_1,s3_1,s4_1,s8_1,a9_1,a10_1,l9_1,c9_1,l10_1,c10_1,rfl⟩:=hv.form;have hlo1:=hlo.1;have hlp1:=hlo.2.1;have hlz1:=hlo.2.2;have HG6:=HidOf (HG5.out.trans hg);have HP6:Hid (PaS w6 pb b c T s3):=hp;have HR6:=HidOf (HR5.out.grow hg hrp);have HX6:=HidOf (HX5.out.grow hg hxp);have HV1_6:Hid (Tre w6 lo1 p (pL k0_1 k1_1 k2_1 s3_1 s4_1 k5_1 k6_1 k7_1 s8_1 a9_1 l9_1 c9_1 a10_1 l10_1 c10_1)):=hv;clear hv hlo hp hg HP5 HG5 HR5 HX5))
 obtain ⟨y,hy0⟩:∃ y,y=w6.heap.size:=⟨_,rfl⟩
 obtain ⟨W7,hW7⟩:∃ W,W=w6.alloc (.cells (pA k0_1 k1_1 k2_1 s3_1 s4_1 k5_1 k6_1 k7_1 s8_1 a9_1 l9_1 c9_1 a10_1 l10_1 c10_1) 44):=⟨_,rfl⟩
 have HP7:Hid (PaS W7 pb b c T s3):=by rw [hW7];exact HP6.out.allocI _
 have HG7:Hid (GrowA pb w W7):=by rw [hW7];exact HG6.out.alloc _
 have HR7:Hid (PhZ W7 r):=by rw [hW7];exact HR6.out.allocI _
 have HX7:Hid (PhB W7 x (pA kd 0 0 ⟨#[]⟩ us 0 0 0 ⟨#[]⟩ none 0 0 none 0 0)):=by rw [hW7];exact HX6.out.allocI _
 have HY7:Hid (PhB W7 y (pA k0_1 k1_1 k2_1 s3_1 s4_1 k5_1 k6_1 k7_1 s8_1 a9_1 l9_1 c9_1 a10_1 l10_1 c10_1)):=by rw [hW7,hy0];exact PhB.new w6 _
 have HV1_7:Hid (Tre W7 lo1 p (pL k0_1 k1_1 k2_1 s3_1 s4_1 k5_1 k6_1 k7_1 s8_1 a9_1 l9_1 c9_1 a10_1 l10_1 c10_1)):=by rw [hW7];exact HV1_6.out.allocI _
 have hyp:y≠pb:=by have:=HP6.out.pl;omega
 have hxy:x≠y:=by have:=HX6.out.lt;omega
 rw [<- hW7,<- hy0]
 have hlz1:lo1<=y:=by rw [hy0];exact hlz1
 clear hW7 HP6 HG6 HR6 HX6 HV1_6 hy0
 go_upto_region 6 with (first
  | (go_at_call 119;have HNX:=HP7;refine (word_is _ _).mono ?_;rintro e w8 ⟨rfl,hb⟩;have HG8:=HidOf (HG7.out.below hb);have HP8:=HidOf (HP7.out.below hb);have HR8:=HidOf (HR7.out.below hb);have HX8:=HidOf (HX7.out.below hb);have HY8:=HidOf (HY7.out.below hb);have HV1_8:=HidOf (HV1_7.out.below hb);clear hb HNX HP7 HG7 HR7 HX7 HY7 HV1_7)
  | (go_at_call 144;(refine (want_eq HP8.out hT hat3 hw2).mono ?_);rintro e w9 ⟨rfl,hp,hg⟩;have HG9:=HidOf (HG8.out.trans hg);have HP9:Hid (PaS w9 pb b c T s4):=hp;have HR9:=HidOf (HR8.out.grow hg hrp);have HX9:=HidOf (HX8.out.grow hg hxp);have HY9:=HidOf (HY8.out.grow hg hyp);have HV1_9:=HidOf (HV1_8.out.grow hg hlp1);clear hp hg HP8 HG8 HR8 HX8 HY8 HV1_8))
 have hlz9:lo1<=w9.heap.size:=Nat.le_trans hlz1 (Nat.le_of_lt (by have k1:=HY9.out.lt;omega))
 have CS:Hid (∀ W,GrowA pb w9 W->PaS W pb b c T s4->Calls Tryz.prog 84 #[vP pb 0] W fun e w'=>∃ v,(w9.heap.size<=w'.heap.size)/\Tre w' w9.heap.size p2 v/\e=.returned (.agg v.toArray)/\PaS w' pb b c T s5/\GrowA pb w9 w'):=fun W h1 h2=>HLV.out.useD HTB.out HG9.out h1 h2
 have HAY:Hid (∀ W,PhB W y (pA k0_1 k1_1 k2_1 s3_1 s4_1 k5_1 k6_1 k7_1 s8_1 a9_1 l9_1 c9_1 a10_1 l10_1 c10_1)->W.cell? ⟨y,0,none⟩=some (vI k0_1)/\W.cell? ⟨y,1,none⟩=some (vI k1_1)/\W.cell? ⟨y,2,none⟩=some (vI k2_1)/\W.cell? ⟨y,3,none⟩=some (vS s3_1)/\W.cell? ⟨y,4,none⟩=some (vS s4_1)/\W.cell? ⟨y,5,none⟩=some (vI k5_1)/\W.cell? ⟨y,6,none⟩=some (vI k6_1)/\W.cell? ⟨y,7,none⟩=some (vI k7_1)/\W.cell? ⟨y,8,none⟩=some (vS s8_1)/\W.cell? ⟨y,9,none⟩=some (.slice a9_1 l9_1 c9_1)/\W.cell? ⟨y,10,none⟩=some (.slice a10_1 l10_1 c10_1)):=fun W h=>h.cells.1
 have HYS:Hid (∀ W,GrowA pb w9 W->PhB W y (pA k0_1 k1_1 k2_1 s3_1 s4_1 k5_1 k6_1 k7_1 s8_1 a9_1 l9_1 c9_1 a10_1 l10_1 c10_1)):=fun W h=>HY9.out.grow h hyp
 have hyx:y≠x:=Ne.symm hxy
 go_region_held3 (fun W=>W.cell? ⟨y,0,none⟩=some (vI k0_1)/\W.cell? ⟨y,1,none⟩=some (vI k1_1)/\W.cell? ⟨y,2,none⟩=some (vI k2_1)/\W.cell? ⟨y,3,none⟩=some (vS s3_1)/\W.cell? ⟨y,4,none⟩=some (vS s4_1)/\W.cell? ⟨y,5,none⟩=some (vI k5_1)/\W.cell? ⟨y,6,none⟩=some (vI k6_1)/\W.cell? ⟨y,7,none⟩=some (vI k7_1)/\W.cell? ⟨y,8,none⟩=some (vS s8_1)/\W.cell? ⟨y,9,none⟩=some (.slice a9_1 l9_1 c9_1)/\W.cell? ⟨y,10,none⟩=some (.slice a10_1 l10_1 c10_1))
  ((refine HAY.out _ ?_;(repeat (first | with_reducible exact Hid.out (by with_reducible assumption) | with_reducible refine PhB.drewQ ?_ | with_reducible refine PhB.allocI ?_ _ | with_reducible refine PhB.setO ?_ hyx _ _))))
  (first
   | (go_at_call 84;refine (CS.out _ ?_ ?_).mono ?_;(focus (repeat (first | with_reducible exact Hid.out (by with_reducible assumption) | exact GrowA.refl _ _ | with_reducible refine GrowA.drewG ?_ | with_reducible refine GrowA.alloc ?_ _)));(focus (repeat (first | with_reducible exact Hid.out (by with_reducible assumption) | with_reducible refine PaS.drewP ?_)));rintro e wz ⟨v,hsz,hv,rfl,hp,hg⟩;obtain ⟨k0_2,k1_2,k2_2,k5_2,k6_2,k7_2,s3_2,s4_2,s8_2,a9_2,a10_2,l9_2,c9_2,l10_2,c10_2,rfl⟩:=hv.form;have HGz:=HidOf hg;have HPz:=HidOf hp;have HVz:=HidOf hv;have HSz:=HidOf hsz;have HYz:=HidOf (HYS.out _ hg);obtain ⟨⟨y0,y1,y2,y3,y4,y5,y6,y7,y8,y9,y10⟩,z0,z1,z2,z3,z4,z5,z6,z7,z8,z9,z10⟩:=(HR9.out.grow hg hrp).cells;obtain ⟨⟨m0,m1,m2,m3,m4,m5,m6,m7,m8,m9,m10⟩,j0,j1,j2,j3,j4,j5,j6,j7,j8,j9,j10⟩:=(HX9.out.grow hg hxp).cells;have hxz:=(HX9.out.grow hg hxp).lt;have hrz:=(HR9.out.grow hg hrp).lt;clear hv hsz hp hg CS))
 obtain ⟨g,hg0⟩:∃ g,g=wz.heap.size:=⟨_,rfl⟩
 obtain ⟨Wn,hWn⟩:∃ W,W=(wz.setCell ⟨x,9,none⟩ (vL g 0 2 2)).alloc (.cells #[vI k0_1,vI k1_1,vI k2_1,vS s3_1,vS s4_1,vI k5_1,vI k6_1,vI k7_1,vS s8_1,.slice a9_1 l9_1 c9_1,.slice a10_1 l10_1 c10_1,vI k0_2,vI k1_2,vI k2_2,vS s3_2,vS s4_2,vI k5_2,vI k6_2,vI k7_2,vS s8_2,.slice a9_2 l9_2 c9_2,.slice a10_2 l10_2 c10_2] 44):=⟨_,rfl⟩
 have HPn:Hid (PaS Wn pb b c T s5):=by rw [hWn];exact (HPz.out.setR hxp hxb 9 _).allocI _
 have HGn:Hid (GrowA pb w Wn):=by rw [hWn];exact ((HG9.out.trans HGz.out).setR hxw 9 _).alloc _
 have HRn:Hid (PhZ Wn r):=by rw [hWn];exact ((HR9.out.grow HGz.out hrp).setO hrx 9 _).allocI _
 have HXn:Hid (PhB Wn x (pA kd 0 0 ⟨#[]⟩ us 0 0 0 ⟨#[]⟩ (some ⟨g,0,none⟩) 2 2 none 0 0)):=by rw [hWn];exact ((HX9.out.grow HGz.out hxp).setAt 9 (vL g 0 2 2)).allocI _
 have hlz:lo1<=w9.heap.size:=hlz9
 have hxn:x<w9.heap.size:=HX9.out.lt
 have HQn:Hid (Phs Wn lo1 2 (fun i=>if i=0 then p else p2) (vL g 0 2 2)):=by
  rw [hWn]
  refine phs_two (T:=44) (by have k:=heap_alloc_new (wz.setCell ⟨x,9,none⟩ (vL g 0 2 2)) (.cells #[vI k0_1,vI k1_1,vI k2_1,vS s3_1,vS s4_1,vI k5_1,vI k6_1,vI k7_1,vS s8_1,.slice a9_1 l9_1 c9_1,.slice a10_1 l10_1 c10_1,vI k0_2,vI k1_2,vI k2_2,vS s3_2,vS s4_2,vI k5_2,vI k6_2,vI k7_2,vS s8_2,.slice a9_2 l9_2 c9_2,.slice a10_2 l10_2 c10_2] 44);rw [show (wz.setCell ⟨x,9,none⟩ (vL g 0 2 2)).heap.size=g by rw [hg0];simp] at k;exact k) (by have:=HSz.out;omega) (((HV1_9.out.grow HGz.out hlp1).setR hlo1 9 _).allocI _) (((HVz.out.setR hxn 9 _).allocI _).mono hlz)
 rw [<- hg0]
 rw [<- hWn]
 clear hWn HPz HGz HVz HSz HYz HR9 HX9 HY9 HG9 HP9 HV1_9 HAY HYS m0 j0 y0 z0 m1 j1 y1 z1 m2 j2 y2 z2 m3 j3 y3 z3 m4 j4 y4 z4 m5 j5 y5 z5 m6 j6 y6 z6 m7 j7 y7 z7 m8 j8 y8 z8 m9 j9 y9 z9 m10 j10 y10 z10 hxz hrz
 obtain ⟨⟨y0,y1,y2,y3,y4,y5,y6,y7,y8,y9,y10⟩,z0,z1,z2,z3,z4,z5,z6,z7,z8,z9,z10⟩:=HRn.out.cells
 obtain ⟨⟨m0,m1,m2,m3,m4,m5,m6,m7,m8,m9,m10⟩,j0,j1,j2,j3,j4,j5,j6,j7,j8,j9,j10⟩:=HXn.out.cells
 have hlr1:r<lo1:=by omega
 go_wp2
 refine bodyPost_ret (v:=.agg (pA kd 0 0 ⟨#[]⟩ us 0 0 0 ⟨#[]⟩ (some ⟨g,0,none⟩) 2 2 none 0 0)) (by simp [results,Tryz.results121,go_sem,y0,y1,y2,y3,y4,y5,y6,y7,y8,y9,y10]) rfl ⟨(pL kd 0 0 ⟨#[]⟩ us 0 0 0 ⟨#[]⟩ (some ⟨g,0,none⟩) 2 2 none 0 0),?_,rfl,?_,?_⟩
 · refine Tre.mono (lo:=lo1) ?_ (by have:=HRW.out;omega)
   refine Phs.tre (A:=fun i=>if i=0 then p else p2) (v:=vL g 0 2 2) ?_
   (repeat (first | with_reducible refine Phs.setR ?_ hlr1 _ _ | with_reducible refine Phs.allocI ?_ _ | with_reducible exact HQn.out))
 · (repeat (first | with_reducible refine PaS.setR ?_ hrp hrb _ _ | with_reducible refine PaS.allocI ?_ _ | exact HPn.out))
 · (repeat (first | with_reducible refine GrowA.setR ?_ HRW.out _ _ | with_reducible refine GrowA.alloc ?_ _ | exact HGn.out))
end Go.Proofs.YtmcmbdkpfcibkaaGreatDoor
