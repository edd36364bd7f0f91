import Derived.Test.YtmcmbdkpfcibkaaGreatDoorPrSteps
set_option linter.unusedVariables false
set_option maxHeartbeats 1600000
namespace Go.Proofs.YtmcmbdkpfcibkaaGreatDoor
set_option maxRecDepth 100000
open Go.RowKit
def RunS (pb b c:Nat) (T:List Tok) (st st':Pst) (p0 p:Ph):Prop:=∀ (lo:Nat) (w:World) (k0_1 k1_1 k2_1 k5_1 k6_1 k7_1:Int) (s3_1 s4_1 s8_1:ByteArray) (a9_1 a10_1:Option Addr) (l9_1 c9_1 l10_1 c10_1:Nat),PaS w pb b c T st->RTab w pb->Tre w lo p0 (pL k0_1 k1_1 k2_1 s3_1 s4_1 k5_1 k6_1 k7_1 s8_1 a9_1 l9_1 c9_1 a10_1 l10_1 c10_1)->pb<lo->lo<=w.heap.size ->
 Calls Tryz.prog 168 #[vP pb 0,.agg (pA k0_1 k1_1 k2_1 s3_1 s4_1 k5_1 k6_1 k7_1 s8_1 a9_1 l9_1 c9_1 a10_1 l10_1 c10_1)] w fun e w'=>∃ (k0_2 k1_2 k2_2 k5_2 k6_2 k7_2:Int) (s3_2 s4_2 s8_2:ByteArray) (a9_2 a10_2:Option Addr) (l9_2 c9_2 l10_2 c10_2:Nat),e=.returned (.agg (pA k0_2 k1_2 k2_2 s3_2 s4_2 k5_2 k6_2 k7_2 s8_2 a9_2 l9_2 c9_2 a10_2 l10_2 c10_2))/\Tre w' lo p (pL k0_2 k1_2 k2_2 s3_2 s4_2 k5_2 k6_2 k7_2 s8_2 a9_2 l9_2 c9_2 a10_2 l10_2 c10_2)/\PaS w' pb b c T st'/\GrowA pb w w'
theorem RunS.use {pb b c:Nat} {T:List Tok} {st st':Pst} {p0 p:Ph} (h:RunS pb b c T st st' p0 p) {w W:World} {lo:Nat} {k0_1 k1_1 k2_1 k5_1 k6_1 k7_1:Int} {s3_1 s4_1 s8_1:ByteArray} {a9_1 a10_1:Option Addr} {l9_1 c9_1 l10_1 c10_1:Nat} (ht:RTab w pb) (hp:PaS W pb b c T st) (hg:GrowA pb w W) (hv:Tre W lo p0 (pL k0_1 k1_1 k2_1 s3_1 s4_1 k5_1 k6_1 k7_1 s8_1 a9_1 l9_1 c9_1 a10_1 l10_1 c10_1)) (hl:pb<lo) (hz:lo<=W.heap.size) :
 Calls Tryz.prog 168 #[vP pb 0,.agg (pA k0_1 k1_1 k2_1 s3_1 s4_1 k5_1 k6_1 k7_1 s8_1 a9_1 l9_1 c9_1 a10_1 l10_1 c10_1)] W fun e w'=>∃ (k0_2 k1_2 k2_2 k5_2 k6_2 k7_2:Int) (s3_2 s4_2 s8_2:ByteArray) (a9_2 a10_2:Option Addr) (l9_2 c9_2 l10_2 c10_2:Nat),e=.returned (.agg (pA k0_2 k1_2 k2_2 s3_2 s4_2 k5_2 k6_2 k7_2 s8_2 a9_2 l9_2 c9_2 a10_2 l10_2 c10_2))/\Tre w' lo p (pL k0_2 k1_2 k2_2 s3_2 s4_2 k5_2 k6_2 k7_2 s8_2 a9_2 l9_2 c9_2 a10_2 l10_2 c10_2)/\PaS w' pb b c T st'/\GrowA pb W w':=h lo W _ _ _ _ _ _ _ _ _ _ _ _ _ _ _ hp (ht.grow hg) hv hl hz
theorem steps_run {pb b c:Nat} {T:List Tok} {n:Nat} {ST:Nat->Pst} {SEP:Nat->Bool} {A:Nat->Ph} {p0:Ph} (hT:T.length<=200) (hS:∀ k,k<=n->(ST k).at'<=299)
 (hs1:∀ k,k<n->SEP k=false->eqT (seeM T (ST k) 0) ⟨5,⟨#[47]⟩,0⟩=true)
 (hs2:∀ k,k<n->SEP k=true->eqT (seeM T (ST k) 0) ⟨5,⟨#[47]⟩,0⟩=false/\eqT (seeM T (ST k) 0) ⟨5,⟨#[47,47]⟩,0⟩=true)
 (hr:∀ k,k<n->RunT pb b c T 169 #[vP pb 0] { ST k with at':=(ST k).at' + 1 } (ST (k + 1)) (A k))
 (he:eqT (seeM T (ST n) 0) ⟨5,⟨#[47]⟩,0⟩=false/\eqT (seeM T (ST n) 0) ⟨5,⟨#[47,47]⟩,0⟩=false)
 (hmono:∀ k,k<n->(ST k).at'<(ST (k + 1)).at'):RunS pb b c T (ST 0) (ST n) p0 (chP p0 SEP A n) :=
 fun lo w k0_1 k1_1 k2_1 k5_1 k6_1 k7_1 s3_1 s4_1 s8_1 a9_1 a10_1 l9_1 c9_1 l10_1 c10_1 hp ht hv hl hz=>(steps_is hT hS hs1 hs2 hr he hmono hp ht hv hl hz).mono fun e w' ⟨x0,x1,x2,x3,x4,x5,x6,x7,x8,x9,x10,x11,x12,x13,x14,h1,h2,h3,h4⟩=>⟨x0,x1,x2,x3,x4,x5,x6,x7,x8,x9,x10,x11,x12,x13,x14,h1,h2,h3,h4⟩
def rootP:Ph:=ph0 11 ⟨0,0,⟨#[]⟩⟩ ⟨#[]⟩ 0 0 0 ⟨#[]⟩
theorem path_steps {pb b c:Nat} {T:List Tok} {st:Pst} {us:ByteArray} {uk un:Int} {s1 s2:Pst} {p0 p:Ph} (hT:T.length<=200) (hat:st.at'<=300) (hu:seeM T st 0=⟨uk,us,un⟩) (n1:eqT ⟨uk,us,un⟩ ⟨5,⟨#[47,47]⟩,0⟩=false) (n2:eqT ⟨uk,us,un⟩ ⟨5,⟨#[47]⟩,0⟩=false) (hlu:RunT pb b c T 169 #[vP pb 0] st s1 p0) (hst:RunS pb b c T s1 s2 p0 p):RunT pb b c T 163 #[vP pb 0] st s2 p:=by
 intro w h htb
 have HTB:Hid (RTab w pb):=htb
 clear htb
 have HLU:Hid (RunT pb b c T 169 #[vP pb 0] st s1 p0):=hlu
 clear hlu
 have HST:Hid (RunS pb b c T s1 s2 p0 p):=hst
 clear hst
 have E1:=eqT_run n1
 have hpl:=h.pl
 have hbl:=h.bl
 go_enter Tryz.func163,Tryz.ntmps163
 go_upto_region 1 with fail
 obtain ⟨W1,hW1⟩:∃ W,W=w.alloc (.cells (pZA 0) 44):=⟨_,rfl⟩
 have HG1:Hid (GrowA pb w W1):=by rw [hW1];exact (GrowA.refl _ _).alloc _
 have HP1:Hid (PaS W1 pb b c T st):=by rw [hW1];exact h.allocI _
 have HR1:Hid (PhZ W1 w.heap.size):=by rw [hW1];exact PhB.new w _
 rw [<- hW1]
 obtain ⟨r,hr⟩:∃ r,r=w.heap.size:=⟨_,rfl⟩
 have HRW:Hid (w.heap.size<=r):=Nat.le_of_eq hr.symm
 have hrp:r≠pb:=by omega
 have hrb:r≠b:=by omega
 rw [<- hr] at HR1 ⊢
 clear hW1 hr h hpl hbl
 go_upto_region 2 with fail
 obtain ⟨x,hx0⟩:∃ x,x=W1.heap.size:=⟨_,rfl⟩
 obtain ⟨Wa,hWa⟩:∃ W,W=W1.alloc (.cells (pZA 11) 44):=⟨_,rfl⟩
 have HPa:Hid (PaS Wa pb b c T st):=by rw [hWa];exact HP1.out.allocI _
 have HGa:Hid (GrowA pb w Wa):=by rw [hWa];exact HG1.out.alloc _
 have HRa:Hid (PhZ Wa r):=by rw [hWa];exact HR1.out.allocI _
 have HXa:Hid (PhB Wa x (pZA 11)):=by rw [hWa,hx0];exact PhB.new W1 _
 have hxp:x≠pb:=by have:=HP1.out.pl;omega
 have hrx:r≠x:=by have:=HR1.out.lt;omega
 rw [<- hWa]
 try rw [<- hx0]
 clear hWa HP1 HG1 HR1 hx0
 go_wp2_with (first
  | (go_at_call 81;(refine (see_lit HPa.out 0 (by omega) hT hat hu).mono ?_);rintro e w2 ⟨rfl,hb⟩;have HG2:Hid (GrowA pb w w2):=(HGa.out.below hb);have HP2:Hid (PaS w2 pb b c T st):=(HPa.out.below hb);have HR2:Hid (PhZ w2 r):=(HRa.out.below hb);have HX2:Hid (PhB w2 x (pZA 11)):=(HXa.out.below hb);clear hb HPa HGa HRa HXa)
  | (go_at_call 82;have HNX:=HP2;refine (mark_is _ _).mono ?_;rintro e w3 ⟨rfl,hb⟩;have HG3:Hid (GrowA pb w w3):=(HG2.out.below hb);have HP3:Hid (PaS w3 pb b c T st):=(HP2.out.below hb);have HR3:Hid (PhZ w3 r):=(HR2.out.below hb);have HX3:Hid (PhB w3 x (pZA 11)):=(HX2.out.below hb);clear hb HNX HP2 HG2 HR2 HX2)
  | (go_at_call 82;have HNX:=HP3;refine (mark_is _ _).mono ?_;rintro e w4 ⟨rfl,hb⟩;have HG4:Hid (GrowA pb w w4):=(HG3.out.below hb);have HP4:Hid (PaS w4 pb b c T st):=(HP3.out.below hb);have HR4:Hid (PhZ w4 r):=(HR3.out.below hb);have HX4:Hid (PhB w4 x (pZA 11)):=(HX3.out.below hb);clear hb HNX HP3 HG3 HR3 HX3)
  | (go_at_call 85;(refine (skip_no HP4.out hT hat _ _ _ (by rw [hu];exact n2)).mono ?_);rintro e w5 ⟨rfl,hp,hg⟩;have HG5:Hid (GrowA pb w w5):=(HG4.out.trans hg);have HP5:Hid (PaS w5 pb b c T st):=hp;have HR5:Hid (PhZ w5 r):=(HR4.out.grow hg hrp);have HX5:Hid (PhB w5 x (pZA 11)):=(HX4.out.grow hg hxp);clear hp hg HP4 HG4 HR4 HX4)
  | (go_at_call 169;(first | refine (HLU.out.use HTB.out HP5.out HG5.out (show r<_ from by have k:=HR5.out.lt;first | exact k | (simp;omega))).mono ?_ | refine (HLU.out.use HTB.out (HP5.out.allocI _) (HG5.out.alloc _) (show r<_ from by have k:=HR5.out.lt;first | exact k | (simp;omega))).mono ?_ | refine (HLU.out.use HTB.out ((HP5.out.allocI _).allocI _) ((HG5.out.alloc _).alloc _) (show r<_ from by have k:=HR5.out.lt;first | exact k | (simp;omega))).mono ?_);rintro e w6 ⟨lo1,v,hlo,hv,rfl,hp,hg⟩;obtain ⟨k0_1,k1_1,k2_1,k5_1,k6_1,k7_1,s3_1,s4_1,s8_1,a9_1,a10_1,l9_1,c9_1,l10_1,c10_1,rfl⟩:=hv.form;have hlo1:=hlo.1;have hlp1:=hlo.2.1;have hlz1:=hlo.2.2;have HG6:Hid (GrowA pb w w6):=(HG5.out.trans hg);have HP6:Hid (PaS w6 pb b c T s1):=hp;have HR6:Hid (PhZ w6 r):=(HR5.out.grow hg hrp);have HX6:Hid (PhB w6 x (pZA 11)):=(HX5.out.grow hg hxp);have HV1_6:Hid (Tre w6 lo1 p0 (pL k0_1 k1_1 k2_1 s3_1 s4_1 k5_1 k6_1 k7_1 s8_1 a9_1 l9_1 c9_1 a10_1 l10_1 c10_1)):=hv;clear hv hlo hp hg HP5 HG5 HR5 HX5)
  | (go_at_call 168;refine (HST.out.use HTB.out HP6.out HG6.out HV1_6.out hlp1 (Nat.le_trans hlz1 (by first | exact Nat.le_refl _ | assumption))).mono ?_;rintro e w7 ⟨k0_2,k1_2,k2_2,k5_2,k6_2,k7_2,s3_2,s4_2,s8_2,a9_2,a10_2,l9_2,c9_2,l10_2,c10_2,rfl,hv,hp,hg⟩;have HG7:Hid (GrowA pb w w7):=(HG6.out.trans hg);have HP7:Hid (PaS w7 pb b c T s2):=hp;have HR7:Hid (PhZ w7 r):=(HR6.out.grow hg hrp);have HX7:Hid (PhB w7 x (pZA 11)):=(HX6.out.grow hg hxp);have HV2_7:Hid (Tre w7 lo1 p (pL k0_2 k1_2 k2_2 s3_2 s4_2 k5_2 k6_2 k7_2 s8_2 a9_2 l9_2 c9_2 a10_2 l10_2 c10_2)):=hv;obtain ⟨⟨y0,y1,y2,y3,y4,y5,y6,y7,y8,y9,y10⟩,z0,z1,z2,z3,z4,z5,z6,z7,z8,z9,z10⟩:=HR7.out.cells;clear hv hp hg HP6 HG6 HR6 HX6 HV1_6))
 refine bodyPost_ret (v:=.agg (pA k0_2 k1_2 k2_2 s3_2 s4_2 k5_2 k6_2 k7_2 s8_2 a9_2 l9_2 c9_2 a10_2 l10_2 c10_2)) (by simp [results,Tryz.results163,go_sem,y0,y1,y2,y3,y4,y5,y6,y7,y8,y9,y10]) rfl ⟨(pL k0_2 k1_2 k2_2 s3_2 s4_2 k5_2 k6_2 k7_2 s8_2 a9_2 l9_2 c9_2 a10_2 l10_2 c10_2),?_,rfl,?_,?_⟩
 · (refine Tre.mono (lo:=lo1) ?_ (by have:=HRW.out;omega);(repeat (first | with_reducible refine Tre.setR ?_ hlo1 _ _ | with_reducible refine Tre.allocI ?_ _ | with_reducible exact HV2_7.out)))
 · (repeat (first | with_reducible refine PaS.setR ?_ hrp hrb _ _ | with_reducible refine PaS.allocI ?_ _ | exact HP7.out))
 · (repeat (first | with_reducible refine GrowA.setR ?_ HRW.out _ _ | with_reducible refine GrowA.alloc ?_ _ | exact HG7.out))
theorem path_dos {pb b c:Nat} {T:List Tok} {st:Pst} {us:ByteArray} {uk un:Int} {s2:Pst} {p:Ph} (hT:T.length<=200) (hat:st.at'<=300) (hu:seeM T st 0=⟨uk,us,un⟩) (y1:eqT ⟨uk,us,un⟩ ⟨5,⟨#[47,47]⟩,0⟩=true) (hst:RunS pb b c T st s2 rootP p):RunT pb b c T 163 #[vP pb 0] st s2 p:=by
 intro w h htb
 have HTB:Hid (RTab w pb):=htb
 clear htb
 have HST:Hid (RunS pb b c T st s2 rootP p):=hst
 clear hst
 have E1:=eqT_run y1
 have hpl:=h.pl
 have hbl:=h.bl
 go_enter Tryz.func163,Tryz.ntmps163
 go_upto_region 1 with fail
 obtain ⟨W1,hW1⟩:∃ W,W=w.alloc (.cells (pZA 0) 44):=⟨_,rfl⟩
 have HG1:Hid (GrowA pb w W1):=by rw [hW1];exact (GrowA.refl _ _).alloc _
 have HP1:Hid (PaS W1 pb b c T st):=by rw [hW1];exact h.allocI _
 have HR1:Hid (PhZ W1 w.heap.size):=by rw [hW1];exact PhB.new w _
 rw [<- hW1]
 obtain ⟨r,hr⟩:∃ r,r=w.heap.size:=⟨_,rfl⟩
 have HRW:Hid (w.heap.size<=r):=Nat.le_of_eq hr.symm
 have hrp:r≠pb:=by omega
 have hrb:r≠b:=by omega
 rw [<- hr] at HR1 ⊢
 clear hW1 hr h hpl hbl
 go_upto_region 2 with fail
 obtain ⟨x,hx0⟩:∃ x,x=W1.heap.size:=⟨_,rfl⟩
 obtain ⟨Wa,hWa⟩:∃ W,W=W1.alloc (.cells (pZA 11) 44):=⟨_,rfl⟩
 have HPa:Hid (PaS Wa pb b c T st):=by rw [hWa];exact HP1.out.allocI _
 have HGa:Hid (GrowA pb w Wa):=by rw [hWa];exact HG1.out.alloc _
 have HRa:Hid (PhZ Wa r):=by rw [hWa];exact HR1.out.allocI _
 have HXa:Hid (PhB Wa x (pZA 11)):=by rw [hWa,hx0];exact PhB.new W1 _
 have hxp:x≠pb:=by have:=HP1.out.pl;omega
 have hrx:r≠x:=by have:=HR1.out.lt;omega
 rw [<- hWa]
 try rw [<- hx0]
 clear hWa HP1 HG1 HR1 hx0
 go_wp2_with (first
  | (go_at_call 81;(refine (see_lit HPa.out 0 (by omega) hT hat hu).mono ?_);rintro e w2 ⟨rfl,hb⟩;have HG2:Hid (GrowA pb w w2):=(HGa.out.below hb);have HP2:Hid (PaS w2 pb b c T st):=(HPa.out.below hb);have HR2:Hid (PhZ w2 r):=(HRa.out.below hb);have HX2:Hid (PhB w2 x (pZA 11)):=(HXa.out.below hb);clear hb HPa HGa HRa HXa)
  | (go_at_call 82;have HNX:=HP2;refine (mark_is _ _).mono ?_;rintro e w3 ⟨rfl,hb⟩;have HG3:Hid (GrowA pb w w3):=(HG2.out.below hb);have HP3:Hid (PaS w3 pb b c T st):=(HP2.out.below hb);have HR3:Hid (PhZ w3 r):=(HR2.out.below hb);have HX3:Hid (PhB w3 x (pZA 11)):=(HX2.out.below hb);obtain ⟨⟨m0,m1,m2,m3,m4,m5,m6,m7,m8,m9,m10⟩,j0,j1,j2,j3,j4,j5,j6,j7,j8,j9,j10⟩:=HX3.out.cells;clear hb HNX HP2 HG2 HR2 HX2)
  | (go_at_call 168;refine (HST.out.use (lo:=w3.heap.size) HTB.out HP3.out HG3.out (tre_ph0 (k:=11)) HP3.out.pl (Nat.le_refl _)).mono ?_;rintro e w4 ⟨k0_2,k1_2,k2_2,k5_2,k6_2,k7_2,s3_2,s4_2,s8_2,a9_2,a10_2,l9_2,c9_2,l10_2,c10_2,rfl,hv,hp,hg⟩;have hrl:r<w3.heap.size:=HR3.out.lt;have HG4:Hid (GrowA pb w w4):=(HG3.out.trans hg);have HP4:Hid (PaS w4 pb b c T s2):=hp;have HR4:Hid (PhZ w4 r):=(HR3.out.grow hg hrp);have HX4:Hid (PhB w4 x (pZA 11)):=(HX3.out.grow hg hxp);have HV2_4:Hid (Tre w4 w3.heap.size p (pL k0_2 k1_2 k2_2 s3_2 s4_2 k5_2 k6_2 k7_2 s8_2 a9_2 l9_2 c9_2 a10_2 l10_2 c10_2)):=hv;obtain ⟨⟨y0,y1,y2,y3,y4,y5,y6,y7,y8,y9,y10⟩,z0,z1,z2,z3,z4,z5,z6,z7,z8,z9,z10⟩:=HR4.out.cells;clear hv hp hg HP3 HG3 HR3 HX3))
 refine bodyPost_ret (v:=.agg (pA k0_2 k1_2 k2_2 s3_2 s4_2 k5_2 k6_2 k7_2 s8_2 a9_2 l9_2 c9_2 a10_2 l10_2 c10_2)) (by simp [results,Tryz.results163,go_sem,y0,y1,y2,y3,y4,y5,y6,y7,y8,y9,y10]) rfl ⟨(pL k0_2 k1_2 k2_2 s3_2 s4_2 k5_2 k6_2 k7_2 s8_2 a9_2 l9_2 c9_2 a10_2 l10_2 c10_2),?_,rfl,?_,?_⟩
 · (refine Tre.mono (lo:=w3.heap.size) ?_ (by have:=HRW.out;omega);(repeat (first | with_reducible refine Tre.setR ?_ hrl _ _ | with_reducible refine Tre.allocI ?_ _ | with_reducible exact HV2_4.out)))
 · (repeat (first | with_reducible refine PaS.setR ?_ hrp hrb _ _ | with_reducible refine PaS.allocI ?_ _ | exact HP4.out))
 · (repeat (first | with_reducible refine GrowA.setR ?_ HRW.out _ _ | with_reducible refine GrowA.alloc ?_ _ | exact HG4.out))
theorem path_root {pb b c:Nat} {T:List Tok} {st:Pst} {us:ByteArray} {uk un:Int} {s1 s2:Pst} {p0 p:Ph} (hT:T.length<=200) (hat:st.at'<=300) (hu:seeM T st 0=⟨uk,us,un⟩) (n1:eqT ⟨uk,us,un⟩ ⟨5,⟨#[47,47]⟩,0⟩=false) (y2:eqT ⟨uk,us,un⟩ ⟨5,⟨#[47]⟩,0⟩=true) (ha1:st.at' + 1<=300) (hsb:stepB (seeM T { st with at':=st.at' + 1 } 0)=true) (hlu:RunT pb b c T 169 #[vP pb 0] { st with at':=st.at' + 1 } s1 p0) (hst:RunS pb b c T s1 s2 (pathP rootP p0) p):RunT pb b c T 163 #[vP pb 0] st s2 p:=by
 intro w h htb
 have HTB:Hid (RTab w pb):=htb
 clear htb
 have HLU:Hid (RunT pb b c T 169 #[vP pb 0] { st with at':=st.at' + 1 } s1 p0):=hlu
 clear hlu
 have HST:Hid (RunS pb b c T s1 s2 (pathP rootP p0) p):=hst
 clear hst
 have SB:Hid (∀ W,PaS W pb b c T { st with at':=st.at' + 1 }->Calls Tryz.prog 83 #[vP pb 0] W fun e w'=>e=.returned (.bool true)/\Below W.heap.size W w'):=fun W h=>by rw [<- hsb];exact stepBegins_any h hT ha1
 clear hsb
 have E1:=eqT_run n1
 have hpl:=h.pl
 have hbl:=h.bl
 go_enter Tryz.func163,Tryz.ntmps163
 go_upto_region 1 with fail
 obtain ⟨W1,hW1⟩:∃ W,W=w.alloc (.cells (pZA 0) 44):=⟨_,rfl⟩
 have HG1:Hid (GrowA pb w W1):=by rw [hW1];exact (GrowA.refl _ _).alloc _
 have HP1:Hid (PaS W1 pb b c T st):=by rw [hW1];exact h.allocI _
 have HR1:Hid (PhZ W1 w.heap.size):=by rw [hW1];exact PhB.new w _
 rw [<- hW1]
 obtain ⟨r,hr⟩:∃ r,r=w.heap.size:=⟨_,rfl⟩
 have HRW:Hid (w.heap.size<=r):=Nat.le_of_eq hr.symm
 have hrp:r≠pb:=by omega
 have hrb:r≠b:=by omega
 rw [<- hr] at HR1 ⊢
 clear hW1 hr h hpl hbl
 go_upto_region 2 with fail
 obtain ⟨x,hx0⟩:∃ x,x=W1.heap.size:=⟨_,rfl⟩
 obtain ⟨Wa,hWa⟩:∃ W,W=W1.alloc (.cells (pZA 11) 44):=⟨_,rfl⟩
 have HPa:Hid (PaS Wa pb b c T st):=by rw [hWa];exact HP1.out.allocI _
 have HGa:Hid (GrowA pb w Wa):=by rw [hWa];exact HG1.out.alloc _
 have HRa:Hid (PhZ Wa r):=by rw [hWa];exact HR1.out.allocI _
 have HXa:Hid (PhB Wa x (pZA 11)):=by rw [hWa,hx0];exact PhB.new W1 _
 have hxp:x≠pb:=by have:=HP1.out.pl;omega
 have hrx:r≠x:=by have:=HR1.out.lt;omega
 rw [<- hWa]
 try rw [<- hx0]
 clear hWa HP1 HG1 HR1 hx0
 go_upto_region 9 with (first
  | (go_at_call 81;(refine (see_lit HPa.out 0 (by omega) hT hat hu).mono ?_);rintro e w2 ⟨rfl,hb⟩;have HG2:Hid (GrowA pb w w2):=(HGa.out.below hb);have HP2:Hid (PaS w2 pb b c T st):=(HPa.out.below hb);have HR2:Hid (PhZ w2 r):=(HRa.out.below hb);have HX2:Hid (PhB w2 x (pZA 11)):=(HXa.out.below hb);clear hb HPa HGa HRa HXa)
  | (go_at_call 82;have HNX:=HP2;refine (mark_is _ _).mono ?_;rintro e w3 ⟨rfl,hb⟩;have HG3:Hid (GrowA pb w w3):=(HG2.out.below hb);have HP3:Hid (PaS w3 pb b c T st):=(HP2.out.below hb);have HR3:Hid (PhZ w3 r):=(HR2.out.below hb);have HX3:Hid (PhB w3 x (pZA 11)):=(HX2.out.below hb);clear hb HNX HP2 HG2 HR2 HX2)
  | (go_at_call 82;have HNX:=HP3;refine (mark_is _ _).mono ?_;rintro e w4 ⟨rfl,hb⟩;have HG4:Hid (GrowA pb w w4):=(HG3.out.below hb);have HP4:Hid (PaS w4 pb b c T st):=(HP3.out.below hb);have HR4:Hid (PhZ w4 r):=(HR3.out.below hb);have HX4:Hid (PhB w4 x (pZA 11)):=(HX3.out.below hb);clear hb HNX HP3 HG3 HR3 HX3)
  | (go_at_call 85;(refine (skip_yes HP4.out hT hat _ _ _ (by rw [hu];exact y2)).mono ?_);rintro e w5 ⟨rfl,hp,hg⟩;have HG5:Hid (GrowA pb w w5):=(HG4.out.trans hg);have HP5:Hid (PaS w5 pb b c T { st with at':=st.at' + 1 }):=hp;have HR5:Hid (PhZ w5 r):=(HR4.out.grow hg hrp);have HX5:Hid (PhB w5 x (pZA 11)):=(HX4.out.grow hg hxp);clear hp hg HP4 HG4 HR4 HX4)
  | (go_at_call 83;(refine (SB.out _ HP5.out).mono ?_);rintro e w6 ⟨rfl,hb⟩;have HG6:Hid (GrowA pb w w6):=(HG5.out.below hb);have HP6:Hid (PaS w6 pb b c T { st with at':=st.at' + 1 }):=(HP5.out.below hb);have HR6:Hid (PhZ w6 r):=(HR5.out.below hb);have HX6:Hid (PhB w6 x (pZA 11)):=(HX5.out.below hb);clear hb HP5 HG5 HR5 HX5))
 obtain ⟨⟨m0,m1,m2,m3,m4,m5,m6,m7,m8,m9,m10⟩,j0,j1,j2,j3,j4,j5,j6,j7,j8,j9,j10⟩:=HX6.out.cells
 have hxz:=HX6.out.lt
 obtain ⟨w7,hw7⟩:∃ W,W=w6.drew:=⟨_,rfl⟩
 have HP7:Hid (PaS w7 pb b c T { st with at':=st.at' + 1 }):=by rw [hw7];exact HP6.out.below (Below.refl _ _).drew
 have HG7:Hid (GrowA pb w w7):=by rw [hw7];exact HG6.out.below (Below.refl _ _).drew
 have HR7:Hid (PhZ w7 r):=by rw [hw7];exact HR6.out.below (Below.refl _ _).drew
 have HX7:Hid (PhB w7 x (pZA 11)):=by rw [hw7];exact HX6.out.below (Below.refl _ _).drew
 have HWK:Hid (w6.drew=w7):=hw7.symm
 clear hw7
 go_region_with (first
  | (go_at_call 169;rw [HWK.out];(first | refine (HLU.out.use HTB.out HP7.out HG7.out (show r<_ from by have k:=HR7.out.lt;first | exact k | (simp;omega))).mono ?_ | refine (HLU.out.use HTB.out (HP7.out.allocI _) (HG7.out.alloc _) (show r<_ from by have k:=HR7.out.lt;first | exact k | (simp;omega))).mono ?_ | refine (HLU.out.use HTB.out ((HP7.out.allocI _).allocI _) ((HG7.out.alloc _).alloc _) (show r<_ from by have k:=HR7.out.lt;first | exact k | (simp;omega))).mono ?_);rintro e w8 ⟨lo1,v,hlo,hv,rfl,hp,hg⟩;obtain ⟨k0_1,k1_1,k2_1,k5_1,k6_1,k7_1,s3_1,s4_1,s8_1,a9_1,a10_1,l9_1,c9_1,l10_1,c10_1,rfl⟩:=hv.form;have hlo1:=hlo.1;have hlp1:=hlo.2.1;have hlz1:=hlo.2.2;have HG8:Hid (GrowA pb w w8):=(HG7.out.trans hg);have HP8:Hid (PaS w8 pb b c T s1):=hp;have HR8:Hid (PhZ w8 r):=(HR7.out.grow hg hrp);have HX8:Hid (PhB w8 x (pZA 11)):=(HX7.out.grow hg hxp);have HV1_8:Hid (Tre w8 lo1 p0 (pL k0_1 k1_1 k2_1 s3_1 s4_1 k5_1 k6_1 k7_1 s8_1 a9_1 l9_1 c9_1 a10_1 l10_1 c10_1)):=hv;obtain ⟨⟨m0,m1,m2,m3,m4,m5,m6,m7,m8,m9,m10⟩,j0,j1,j2,j3,j4,j5,j6,j7,j8,j9,j10⟩:=HX8.out.cells;have hxz:=HX8.out.lt;clear hv hlo hp hg HP7 HG7 HR7 HX7)
  | (go_at_call 170;refine (pathOf_is _).mono ?_;rintro e w9 ⟨g7,rfl,hb,hg2,hc⟩;have HG9:Hid (GrowA pb w w9):=HG8.out.below hb;have HP9:Hid (PaS w9 pb b c T s1):=HP8.out.below hb;have HR9:Hid (PhZ w9 r):=HR8.out.below hb;have HX9:Hid (PhB w9 x (pZA 11)):=HX8.out.below hb;have HV9_9:Hid (Tre w9 lo1 (pathP rootP p0) (pL 21 0 0 ⟨#[]⟩ ⟨#[]⟩ 0 0 0 ⟨#[]⟩ (some ⟨g7,0,none⟩) 2 2 none 0 0)):=v_two hc ⟨Nat.le_trans hlz1 hg2.1,hg2.2⟩ v_ph0 (HV1_8.out.below hb);have hlz9:lo1<=w9.heap.size:=Nat.le_trans hlz1 hb.size;clear hb hg2 hc HP8 HG8 HR8 HX8 HV1_8)
  | (go_at_call 168;refine (HST.out.use HTB.out HP9.out HG9.out HV9_9.out hlp1 hlz9).mono ?_;rintro e w10 ⟨k0_3,k1_3,k2_3,k5_3,k6_3,k7_3,s3_3,s4_3,s8_3,a9_3,a10_3,l9_3,c9_3,l10_3,c10_3,rfl,hv,hp,hg⟩;have HG10:Hid (GrowA pb w w10):=(HG9.out.trans hg);have HP10:Hid (PaS w10 pb b c T s2):=hp;have HR10:Hid (PhZ w10 r):=(HR9.out.grow hg hrp);have HX10:Hid (PhB w10 x (pZA 11)):=(HX9.out.grow hg hxp);have HV3_10:Hid (Tre w10 lo1 p (pL k0_3 k1_3 k2_3 s3_3 s4_3 k5_3 k6_3 k7_3 s8_3 a9_3 l9_3 c9_3 a10_3 l10_3 c10_3)):=hv;obtain ⟨⟨y0,y1,y2,y3,y4,y5,y6,y7,y8,y9,y10⟩,z0,z1,z2,z3,z4,z5,z6,z7,z8,z9,z10⟩:=HR10.out.cells;have hrz:=HR10.out.lt;clear hv hp hg HP9 HG9 HR9 HX9))
 all_goals
  go_wp2_with fail
  refine bodyPost_ret (v:=.agg (pA k0_3 k1_3 k2_3 s3_3 s4_3 k5_3 k6_3 k7_3 s8_3 a9_3 l9_3 c9_3 a10_3 l10_3 c10_3)) (by simp [results,Tryz.results163,go_sem,y0,y1,y2,y3,y4,y5,y6,y7,y8,y9,y10]) rfl ⟨(pL k0_3 k1_3 k2_3 s3_3 s4_3 k5_3 k6_3 k7_3 s8_3 a9_3 l9_3 c9_3 a10_3 l10_3 c10_3),?_,rfl,?_,?_⟩
  · (refine Tre.mono (lo:=lo1) ?_ (by have:=HRW.out;omega);(repeat (first | with_reducible refine Tre.setR ?_ hlo1 _ _ | with_reducible refine Tre.allocI ?_ _ | with_reducible exact HV3_10.out)))
  · (repeat (first | with_reducible refine PaS.setR ?_ hrp hrb _ _ | with_reducible refine PaS.allocI ?_ _ | exact HP10.out))
  · (repeat (first | with_reducible refine GrowA.setR ?_ HRW.out _ _ | with_reducible refine GrowA.alloc ?_ _ | exact HG10.out))
end Go.Proofs.YtmcmbdkpfcibkaaGreatDoor
