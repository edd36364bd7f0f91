import Derived.Test.YtmcmbdkpfcibkaaGreatDoorLuA
import Derived.Test.YtmcmbdkpfcibkaaGreatDoorLxE
import Derived.Test.YtmcmbdkpfcibkaaGreatDoorLcG
import Derived.Test.YtmcmbdkpfcibkaaGreatDoorRgIn
set_option linter.unusedVariables false
set_option maxHeartbeats 6400000
namespace Go.Proofs.YtmcmbdkpfcibkaaGreatDoor
set_option maxRecDepth 100000
open Go.RowKit Go.WideShapes
structure XN (w0:World) (lb tb ob sb:Nat) (N:ByteArray->Nat) (p:Nat) (W:World):Prop where
 l:W.heap[lb]?=some (.cells #[.map (some tb),.map (some ob),.map (some sb),vI (p:Int),vI 6] 73)
 s:SMap W sb N
 z:w0.heap.size<=W.heap.size
 os:W.os=w0.os
 tape:W.tape=w0.tape
 output:W.output=w0.output
 k:∀ b,b<w0.heap.size->b≠lb->b≠sb->W.heap[b]?=w0.heap[b]?
theorem XN.refl {w0:World} {lb tb ob sb:Nat} {N:ByteArray->Nat} {p:Nat} (h1:w0.heap[lb]?=some (.cells #[.map (some tb),.map (some ob),.map (some sb),vI (p:Int),vI 6] 73)) (h2:SMap w0 sb N):XN w0 lb tb ob sb N p w0:=⟨h1,h2,Nat.le_refl _,rfl,rfl,rfl,fun _ _ _ _=>rfl⟩
theorem XN.here {w0 W:World} {lb tb ob sb:Nat} {N:ByteArray->Nat} {p:Nat} (h:XN w0 lb tb ob sb N p W):XN W lb tb ob sb N p W:=XN.refl h.l h.s
theorem XN.trans {w0 w1 W:World} {lb tb ob sb:Nat} {N N':ByteArray->Nat} {p q:Nat} (h:XN w0 lb tb ob sb N p w1) (h':XN w1 lb tb ob sb N' q W):XN w0 lb tb ob sb N' q W:=⟨h'.l,h'.s,Nat.le_trans h.z h'.z,h'.os.trans h.os,h'.tape.trans h.tape,h'.output.trans h.output,fun b hb h1 h2=>(h'.k b (Nat.lt_of_lt_of_le hb h.z) h1 h2).trans (h.k b hb h1 h2)⟩
theorem XS.thenN {w0 w1 W:World} {lb tb ob sb:Nat} {N N':ByteArray->Nat} {p q:Nat} (h:XS w0 lb tb ob sb N p w1) (h':XN w1 lb tb ob sb N' q W):XN w0 lb tb ob sb N' q W:=⟨h'.l,h'.s,Nat.le_trans h.z h'.z,h'.os.trans h.os,h'.tape.trans h.tape,h'.output.trans h.output,fun b hb h1 h2=>(h'.k b (Nat.lt_of_lt_of_le hb h.z) h1 h2).trans (h.k b hb h1 h2)⟩
theorem XN.below {w0 W W':World} {lb tb ob sb:Nat} {N:ByteArray->Nat} {p:Nat} (h:XN w0 lb tb ob sb N p W) (hb:Below W.heap.size W W'):XN w0 lb tb ob sb N p W':=⟨(hb.block lb (gI h.l).1).trans h.l,h.s.keep (hb.block sb h.s.lt),Nat.le_trans h.z hb.size,hb.os.trans h.os,hb.tape.trans h.tape,hb.output.trans h.output,fun b h0 h1 h2=>(hb.block b (Nat.lt_of_lt_of_le h0 h.z)).trans (h.k b h0 h1 h2)⟩
theorem XN.alloc {w0 W:World} {lb tb ob sb:Nat} {N:ByteArray->Nat} {p:Nat} (h:XN w0 lb tb ob sb N p W) (o:Obj):XN w0 lb tb ob sb N p (W.alloc o):=h.below ((Below.refl _ _).alloc (Nat.le_refl _) o)
theorem XN.drew {w0 W:World} {lb tb ob sb:Nat} {N:ByteArray->Nat} {p:Nat} (h:XN w0 lb tb ob sb N p W):XN w0 lb tb ob sb N p W.drew:=⟨h.l,h.s,h.z,h.os,h.tape,h.output,h.k⟩
theorem XN.low {w0 W:World} {lb tb ob sb B0:Nat} {N:ByteArray->Nat} {p:Nat} (h:XN w0 lb tb ob sb N p W) (h1:B0<=lb) (h2:B0<=sb) (h3:lb<w0.heap.size):Below B0 w0 W:=⟨h.os,h.tape,h.output,h.z,fun b hb=>h.k b (by omega) (by omega) (by omega)⟩
theorem XN.put {w0 W:World} {lb tb ob sb r:Nat} {N:ByteArray->Nat} {p:Nat} (h:XN w0 lb tb ob sb N p W) (hr:w0.heap.size<=r) (hl:lb<w0.heap.size) (hs:sb<w0.heap.size) (vs:List Value):XN w0 lb tb ob sb N p (putL W r 0 vs):=by
 have hb:=putL_below (B:=W.heap.size.min r) (b:=r) (w0:=W) (Nat.min_le_right _ _) vs W 0 (Below.refl _ _)
 have hz:=h.z
 have hm:w0.heap.size<=W.heap.size.min r:=Nat.le_min.2 ⟨hz,hr⟩
 exact ⟨(hb.block lb (by omega)).trans h.l,h.s.keep (hb.block sb (by omega)),Nat.le_trans hz hb.size,hb.os.trans h.os,hb.tape.trans h.tape,hb.output.trans h.output,fun b h0 h1 h2=>(hb.block b (by omega)).trans (h.k b h0 h1 h2)⟩
theorem XN.turned {w0 W w':World} {lb tb ob sb:Nat} {N N':ByteArray->Nat} {p:Nat} (h:XN w0 lb tb ob sb N p W) (hn:lb≠sb) (hs:SMap w' sb N') (ht:TurnedM W w' sb):XN w0 lb tb ob sb N' p w' :=
 ⟨(ht.2.1 lb hn).trans h.l,hs,by rw [ht.1];exact h.z,ht.2.2.1.trans h.os,ht.2.2.2.1.trans h.tape,ht.2.2.2.2.trans h.output,fun b h0 h1 h2=>(ht.2.1 b h2).trans (h.k b h0 h1 h2)⟩
theorem XN.ofKp {w w':World} {lb tb ob sb:Nat} {N:ByteArray->Nat} {p q:Nat} (h:XN w lb tb ob sb N p w) (hl:lb≠sb) (hk:KpN lb (.map (some tb)) (.map (some ob)) (.map (some sb)) q w w'):XN w lb tb ob sb N q w':=⟨hk.1,h.s.keep (hk.2.1 sb h.s.lt (Ne.symm hl)),hk.2.2.size,hk.2.2.os,hk.2.2.tape,hk.2.2.output,fun b h0 h1 _=>hk.2.1 b h0 h1⟩
theorem XB.atN {w0 W:World} {lb tb ob sb:Nat} {N:ByteArray->Nat} {p:Nat} (h:XB w0 lb tb ob sb) (hs:XN w0 lb tb ob sb N p W):XB W lb tb ob sb:=by
 obtain ⟨B0,⟨h1,h2⟩,h3⟩:=h.u
 exact ⟨h.t.keep (hs.k tb h.t.lt h.tl h.ts),h.o.keep (hs.k ob h.o.lt h.ol h.os),h.ls,h.tl,h.ts,h.ol,h.os,Nat.lt_of_lt_of_le h.ll hs.z,Nat.lt_of_lt_of_le h.sl hs.z,B0,⟨h1,h2⟩,fun V hV=>h3 V ((hs.low h1 h2 h.ll).trans (hV.mono (Nat.le_refl _)))⟩
theorem PhIn.atN {w0 W:World} {lb tb ob sb pb po:Nat} {N:ByteArray->Nat} {p:Nat} {ph:Ph} {S:Nat->Prop} {u:List Value} (h:PhIn w0 lb sb pb po ph S u) (hs:XN w0 lb tb ob sb N p W):PhIn W lb sb pb po ph S u :=
 ⟨h.c.keep (hs.k pb (h.h pb h.s).1 (h.h pb h.s).2.1 (h.h pb h.s).2.2),Ph.V.keep (fun _ q=>q) (fun b q=>hs.k b (h.h b q).1 (h.h b q).2.1 (h.h b q).2.2) h.v,h.s,fun b q=>⟨Nat.lt_of_lt_of_le (h.h b q).1 hs.z,(h.h b q).2⟩⟩
def RunN (f:Nat) (ph:Ph) (N:ByteArray->Nat) (p q:Nat):Prop:=∀ (w:World) (lb tb ob sb:Nat) (S:Nat->Prop) (pb po:Nat) (u:List Value),XB w lb tb ob sb->XS w lb tb ob sb N p w->PhIn w lb sb pb po ph S u ->
 Calls Tryz.prog f #[vP lb 0,vP pb po] w fun e w'=>e=.returned (.agg zA)/\XN w lb tb ob sb N q w'
theorem RunN.use {f:Nat} {ph:Ph} {N:ByteArray->Nat} {p q:Nat} (h:RunN f ph N p q) {w0 W:World} {lb tb ob sb pb po:Nat} {S:Nat->Prop} {u:List Value} (hB:XB w0 lb tb ob sb) (hX:XS w0 lb tb ob sb N p W) (hP:PhIn w0 lb sb pb po ph S u) :
 Calls Tryz.prog f #[vP lb 0,vP pb po] W fun e w'=>e=.returned (.agg zA)/\XN w0 lb tb ob sb N q w'/\(∀ b,b<W.heap.size->b≠lb->b≠sb->w'.heap[b]?=W.heap[b]?)/\W.heap.size<=w'.heap.size :=
 (h W lb tb ob sb S pb po u (hB.at hX) hX.here (hP.at hX)).mono fun e w' ⟨h2,h3⟩=>⟨h2,hX.thenN h3,h3.k,h3.z⟩
theorem bad_alone {ph:Ph} {N:ByteArray->Nat} {p:Nat} (ha:∀ (W:World) (lb tb ob sb:Nat) (S:Nat->Prop) (pb po:Nat) (u:List Value),XB W lb tb ob sb->XS W lb tb ob sb N p W->PhIn W lb sb pb po ph S u->Calls Tryz.prog 53 #[vP lb 0,vP pb po] W fun e w'=>e=.returned (vI 6)/\Below W.heap.size W w'):RunN 24 ph N p p:=by
 intro w lb tb ob sb S pb po u hB hX hP
 refine (expr_bad lb tb ob sb p pb po 6 w (by decide) hX.l (fun W hW=>?_)).mono fun e w' ⟨k1,k2,k3,k4⟩=>⟨k1,k2,hX.s.keep (k3 sb hX.s.lt (Ne.symm hB.ls)),k4.size,k4.os,k4.tape,k4.output,fun b h0 h1 _=>k3 b h0 h1⟩
 have hs:=hX.below hW
 exact ha W lb tb ob sb S pb po u (hB.at hs) hs.here (hP.at hs)
theorem expr_wrong {w0 w:World} {lb tb ob sb:Nat} {N:ByteArray->Nat} {p:Nat} (b off:Nat) (hX:XN w0 lb tb ob sb N p w) :
 Calls Tryz.prog 24 #[vP lb 0,vP b off] w fun e w'=>e=.returned (.agg zA)/\XN w0 lb tb ob sb N p w'/\(∀ b,b<w.heap.size->w'.heap[b]?=w.heap[b]?)/\w.heap.size<=w'.heap.size:=by
 have HX:=HidOf hX
 obtain ⟨_,_,_,_,l4,l5,l6⟩:=bk5 hX.l
 clear hX
 go_enter Tryz.func24,Tryz.ntmps24
 go_wp2
 obtain ⟨W1,hW1⟩:∃ W,W=w.alloc (.cells zA 29):=⟨_,rfl⟩
 have HX1:Hid (XN w0 lb tb ob sb N p W1):=by rw [hW1];exact HX.out.alloc _
 have HZ1:Hid (W1.heap[w.heap.size]?=some (.cells zA 29)):=by rw [hW1];exact aNew rfl
 have HO1:Hid (∀ b,b<w.heap.size->W1.heap[b]?=w.heap[b]?):=by rw [hW1];exact fun b hb=>Below.heap_alloc _ _ _ hb
 rw [<- hW1]
 clear hW1
 have hz2:w.heap.size<W1.heap.size:=(gI HZ1.out).1
 obtain ⟨y0,y1,y2,y3,y4,y5,y6,y7,y8,y9,y10,_,_⟩:=bk11 HZ1.out
 exact bodyPost_ret (v:=.agg zA) (by simp [results,Tryz.results24,go_sem,y0,y1,y2,y3,y4,y5,y6,y7,y8,y9,y10]) rfl ⟨rfl,HX1.out,HO1.out,Nat.le_of_lt hz2⟩
open Go.RowKit Go.WideShapes
theorem exprs_bad {n j0:Nat} {A:Nat->Ph} {X:Nat->Ex} {P:Nat->Nat} {N:ByteArray->Nat} {q:Nat} (hn:n<=1000) (hj:j0<n) (hP:∀ k,k<=n->P k<=700) (hr:∀ k,k<j0->RunE (A k) N (P k) (P (k + 1)) (X k)) (hb:RunN 24 (A j0) N (P j0) q) (w:World) (lb tb ob sb:Nat) (S:Nat->Prop) (aa:Option Addr) (ac:Nat) (hac:n<=ac) (hcm:ac<=maxLen) (hl:0<n->∃ g o,aa=some ⟨g,o,none⟩/\∀ k,k<n->∃ u,PhIn w lb sb g (o + k * 11) (A k) S u) (hB:XB w lb tb ob sb) (hX:XS w lb tb ob sb N (P 0) w) :
 Calls Tryz.prog 103 #[vP lb 0,.slice aa n ac] w fun e w'=>∃ b m c,e=.returned (.slice b m c)/\XN w lb tb ob sb N q w':=by
 have HB:=HidOf hB
 have HX:=HidOf hX
 have HR:=HidOf hr
 have HL:=HidOf hl
 have HPP:=HidOf hP
 have HBAD:=HidOf hb
 have hll:=hB.ll
 have hsl:=hB.sl
 obtain ⟨i0,hi0,hz0,hz1,hz2⟩:=info_parts infoEx
 clear hB hX hr hl hP hb
 unfold maxLen at hcm
 go_enter Tryz.func103,Tryz.ntmps103
 go_wp2
 go_loopw [5,10] (fun lv iv wr=>∃ k:Nat,k<=n/\iv=vI k/\((k<=j0/\XS w lb tb ob sb N (P k) wr/\LOwn 29 11 (ExE X) wr w.heap.size lv k)\/(j0<k/\XN w lb tb ob sb N q wr/\∃ b m c,lv=.slice b m c))) (fun _ iv _=>n - (intOf iv).toNat)
 case atStart=>exact ⟨0,Nat.zero_le _,rfl,.inl ⟨Nat.zero_le _,HX.out,LOwn.nil _ _ _ _ _⟩⟩
 case round =>
  obtain ⟨k,hk,rfl,⟨hkj,hs0,hl0⟩ | ⟨hkj,hs0,b0,m0,c0,rfl⟩⟩:=hrel
  · have HS0:Hid (XS w lb tb ob sb N (P k) wr):=hs0
    obtain ⟨la,lc,rfl⟩:=hl0.form
    have HL0:Hid (LOwn 29 11 (ExE X) wr w.heap.size (.slice la k lc) k):=hl0
    clear hs0 hl0
    have hlt:k<n:=by omega
    have hki:(k:Int)<(n:Int):=by omega
    by_cases hlj:k<j0
    · skip
      have hka:(k:Int)<(ac:Int):=by omega
      obtain ⟨g,o,rfl,hph⟩:=HL.out (by omega)
      obtain ⟨u,hu⟩:=hph k hlt
      have HU:=HidOf hu
      have HRK:Hid (RunE (A k) N (P k) (P (k + 1)) (X k)):=HR.out k hlj
      have hp7:P (k + 1)<=700:=HPP.out (k + 1) (by omega)
      clear hph hu
      go_wp2_with (first
       | (go_at_call 24;refine (HRK.out.use HB.out HS0.out HU.out).mono ?_;rintro e w1 ⟨x0,x1,x2,x6,x7,x8,y3,y4,y5,y9,b10,l10,c10,hx,rfl,hs,hk,hz⟩;have HS1:Hid (XS w lb tb ob sb N (P (k + 1)) w1):=hs;have HE1:=HidOf hx;have HO1:=HidOf hx.ones;have HZ1:Hid (wr.heap.size<=w1.heap.size):=hz;have HOW:Hid (∀ z,(Value.slice la k lc).ownBlock=some z->z<wr.heap.size):=(fun z hz=>(HL0.out.own z hz).2);have HL1:Hid (LOwn 29 11 (ExE X) w1 w.heap.size (.slice la k lc) k):=HL0.out.step (ExE.keeps X) hz (fun b h1 h2=>hk b h2 (by omega) (by omega));have HWR:Hid (w.heap.size<=wr.heap.size):=HS0.out.z;clear hs hx hk hz HS0 HL0)
       | (go_at_call 96;refine (keeps_is lb (.map (some tb)) (.map (some ob)) (.map (some sb)) (P (k + 1)) _ _ (HS1.out.alloc _).l hp7).mono ?_;rintro e w2 ⟨rfl,hw2⟩;obtain rfl:=hw2.symm)
       | (at_builtin;obtain ⟨L,ho,hE⟩:=(HL1.out.below (ExE.keeps X) ((Below.refl _ _).alloc (Nat.le_refl _) (.cells (eA x0 x1 x2 y3 y4 y5 x6 x7 x8 y9 b10 l10 c10) 29))).below (ExE.keeps X) ((Below.refl _ _).alloc (Nat.le_refl _) (.cells (eA x0 x1 x2 y3 y4 y5 x6 x7 x8 y9 b10 l10 c10) 29));refine wpList_append_own_at _ rfl (.tmp 20) (.tmp 22) 27 rfl w.heap.size 29 i0 _ 11 136 Tryz.underlying27 hi0 hz0 hz1 hz2 rfl (by decide) _ _ _ rfl ho ⟨w1.heap.size + 1,0,none⟩ 1 1 (eL x0 x1 x2 y3 y4 y5 x6 x7 x8 y9 b10 l10 c10) rfl rfl (new_at (by simp)) HO1.out (by unfold maxLen;omega) (by omega) (by have:=HS1.out.z;simp;omega) ?_;intro v7 w7 hown7 hgrow7 _ hat7;have HL7:Hid (LOwn 29 11 (ExE X) w7 w.heap.size v7 (k + 1)):=LOwn.push (lo1:=wr.heap.size) (ExE.keeps X) hE rfl (Ex.W.keep (fun b q=>⟨q.1,by simp;omega⟩) (fun b q=>(Below.heap_alloc _ _ _ (by simp;omega)).trans (Below.heap_alloc _ _ _ q.2)) HE1.out) HWR.out HOW.out hown7 hgrow7 hat7;have HX7:Hid (∀ z,z<w1.heap.size->z<w.heap.size->w7.heap[z]?=w1.heap[z]?):=(fun z h1 h2=>(hgrow7.block z (by simp;omega) (fun e=>by have:=(HL1.out.own z e.symm).1;omega)).trans ((Below.heap_alloc _ _ _ (by simp;omega)).trans (Below.heap_alloc _ _ _ h1)));have HS7:Hid (XS w lb tb ob sb N (P (k + 1)) w7):=(by have hz1:=HS1.out.z;exact ⟨(HX7.out lb (by omega) hll).trans HS1.out.l,HS1.out.s.keep (HX7.out sb (by omega) hsl),Nat.le_trans hz1 (Nat.le_trans (by simp;omega) hgrow7.size),hgrow7.os.trans HS1.out.os,hgrow7.tape.trans HS1.out.tape,hgrow7.output.trans HS1.out.output,fun b h0 h1 h2=>(HX7.out b (by omega) h0).trans (HS1.out.k b h0 h1 h2)⟩);clear ho hE hown7 hgrow7 hat7 HL1 HX7))
      go_roundw
      case rel=>exact ⟨k + 1,by omega,by go_num,.inl ⟨by omega,HS7.out,HL7.out⟩⟩
      case measure=>simp [intOf];omega
    · obtain rfl:k=j0:=by omega
      have hka:(k:Int)<(ac:Int):=by omega
      obtain ⟨g,o,rfl,hph⟩:=HL.out (by omega)
      obtain ⟨u,hu⟩:=hph k hlt
      have HU:=HidOf hu
      clear hph hu
      go_wp2_with (first
       | (go_at_call 24;refine (HBAD.out.use HB.out HS0.out HU.out).mono ?_;rintro e w1 ⟨rfl,hs,hk,hz⟩;have HS1:Hid (XN w lb tb ob sb N q w1):=hs;clear hs hk hz HS0 HL0)
       | (go_at_call 96;refine (keeps_no lb (.map (some tb)) (.map (some ob)) (.map (some sb)) (q:Int) _ _ (HS1.out.alloc _).l).mono ?_;rintro e w2 ⟨rfl,hw2⟩;obtain rfl:=hw2.symm))
      go_roundw
      case rel=>exact ⟨k + 1,by omega,by go_num,.inr ⟨by omega,HS1.out.alloc _,_,_,_,rfl⟩⟩
      case measure=>simp [intOf];omega
  · have HS0:Hid (XN w lb tb ob sb N q wr):=hs0
    clear hs0
    by_cases hlt:k<n
    · have hki:(k:Int)<(n:Int):=by omega
      have hka:(k:Int)<(ac:Int):=by omega
      obtain ⟨g,o,rfl,hph⟩:=HL.out (by omega)
      clear hph
      go_wp2_with (first
       | (go_at_call 24;refine (expr_wrong g (o + k * 11) HS0.out).mono ?_;rintro e w1 ⟨rfl,hs,hk,hz⟩;have HS1:Hid (XN w lb tb ob sb N q w1):=hs;clear hs hk hz HS0)
       | (go_at_call 96;refine (keeps_no lb (.map (some tb)) (.map (some ob)) (.map (some sb)) (q:Int) _ _ (HS1.out.alloc _).l).mono ?_;rintro e w2 ⟨rfl,hw2⟩;obtain rfl:=hw2.symm))
      go_roundw
      case rel=>exact ⟨k + 1,by omega,by go_num,.inr ⟨by omega,HS1.out.alloc _,_,_,_,rfl⟩⟩
      case measure=>simp [intOf];omega
    · have hki:¬ ((k:Int)<(n:Int)):=by omega
      go_wp2
      go_ret
      exact ⟨⟨b0,m0,c0,rfl⟩,HS0.out⟩
open Go.RowKit Go.WideShapes Go.Shelf
attribute [local go_sem] Oper.semAt_some
def AroN (lb:Nat) (m1 m2 m3:Value) (p:Nat) (k2:Int) (i2:It) (nm2 at2:ByteArray) (g2 ax2 tk2:Int) (tn2:ByteArray) (aa2:Option Addr) (am2 ac2:Nat) (w W0:World) (W:World):Prop :=
 W.heap[lb]?=some (.cells #[m1,m2,m3,vI ((p:Nat):Int),vI 0] 73)/\W.heap[w.heap.size + 1]?=some (.cells (eA k2 i2.kind i2.n i2.s nm2 at2 g2 ax2 tk2 tn2 aa2 am2 ac2) 29)/\W.heap[w.heap.size + 2]?=some (.cells zA 29)/\(∀ c,c<w.heap.size->c≠lb->W.heap[c]?=w.heap[c]?)/\Below lb w W/\W0.heap.size<=W.heap.size
theorem AroN.own (lb:Nat) (m1 m2 m3:Value) (p:Nat) (k2:Int) (i2:It) (nm2 at2:ByteArray) (g2 ax2 tk2:Int) (tn2:ByteArray) (aa2:Option Addr) (am2 ac2:Nat) (w W0:World) (hl:lb<w.heap.size) (hz:w.heap.size<=W0.heap.size):OwnFrom W0.heap.size (fun (_:List Nat) W=>AroN lb m1 m2 m3 p k2 i2 nm2 at2 g2 ax2 tk2 tn2 aa2 am2 ac2 w W0 W):=by
 rintro pre X Y row ⟨h1,h2,h4,h5,h6,h7⟩ hg hr
 exact ⟨cells_kept h1 hg hr,cells_kept h2 hg hr,cells_kept h4 hg hr,fun c hc hn=>(hg.block c (by omega) (fun e=>by have:=(hr c e.symm).1;omega)).trans (h5 c hc hn),h6.grown hg (by omega) (fun k e=>by have:=(hr k e).1;omega),Nat.le_trans h7 hg.size⟩
open Go.RowKit Go.WideShapes
open Go.RowKit Go.WideShapes
theorem namesOf_for (b off:Nat) (nm a:ByteArray) (w:World) (h:ClAt w b off 1 nm a) :
 Calls Tryz.prog 97 #[vP b off] w fun e w'=>∃ n0,e=.returned (vL w.heap.size 0 2 2)/\w'=(w.drewN n0).alloc (.cells #[vS nm,vS a] 9):=by
 obtain ⟨c0,c1,c2⟩:=h
 go_enter Tryz.func97,Tryz.ntmps97
 go_upto_region 3 with fail
 go_region
 all_goals go_wp2
 all_goals go_ret
 all_goals exact ⟨1,rfl,rfl⟩
open Go.RowKit Go.WideShapes
attribute [local go_sem] Oper.semAt_some
theorem lower_badN {q:Nat} (ph:Ph) (v:List Value) (w:World) (hv:ph.V w (fun b=>b<w.heap.size) v) (hT:Tabs w) (R:Int) (hR6:R=6) (hb:RunN 24 ph (fun _=>0) 0 q) :
 Calls Tryz.prog 12 #[.agg v.toArray] w fun e w'=>e=.returned (.tuple #[noEx,vI R])/\Below w.heap.size w w':=by
 have hR:¬ R=0:=by omega
 have HBN:=HidOf hb
 have hR1:(R == 0)=false:=by simpa using hR
 clear hb
 have CK:Hid (∀ W,Calls Tryz.prog 22 #[] W fun e w'=>e=.returned (.map (some W.heap.size))/\VMap w' W.heap.size callsV/\Below W.heap.size W w'):=calls_is
 have CO:Hid (∀ W,Calls Tryz.prog 23 #[] W fun e w'=>e=.returned (.map (some W.heap.size))/\VMap w' W.heap.size opersV/\Below W.heap.size W w'):=operators_is
 have HTT:Hid (∀ W,Below w.heap.size w W->Tabs W):=fun W hW=>Utf8Tabs_below hT hW
 have HV0:=HidOf hv
 have hmm:=@run_makeMap Tryz.prog
 obtain ⟨k0_1,k1_1,k2_1,k5_1,k6_1,k7_1,s3_1,s4_1,s8_1,a9_1,a10_1,l9_1,c9_1,l10_1,c10_1,rfl⟩:=hv.form
 clear hv hT
 go_enter Tryz.func12,Tryz.ntmps12
 go_upto_region 2 with (first
  | (go_at_call 22;refine (CK.out _).mono ?_;rintro e w1 ⟨rfl,hv1,hb1⟩;have HV1:Hid (VMap w1 (w.heap.size + 1 + 1) callsV):=(by have e:=hv1;rw [size_two] at e;exact e);have HB1:Hid (Below w.heap.size w w1):=Below.trans (((Below.refl _ _).alloc (Nat.le_refl _) _).alloc (by simp) _) (hb1.mono (by simp;omega));have HP1:=hidC ((hb1.block w.heap.size (by simp;omega)).trans (aOld (aNew rfl)));have HZ1:=hidC ((hb1.block (w.heap.size + 1) (by simp)).trans (aNew (by simp)));have hz1:=HB1.out.size;clear hb1 hv1)
  | (go_at_call 23;refine (CO.out _).mono ?_;rintro e w2 ⟨rfl,hv2,hb2⟩;have HB2:Hid (Below w.heap.size w w2):=HB1.out.trans (hb2.mono hz1);have HV2:=hidC hv2;have HV1b:=hidC (HV1.out.keep (hb2.block _ HV1.out.lt));have hl1:w.heap.size + 1 + 1<w1.heap.size:=HV1.out.lt;have HP2:=hidC (blC hb2 (gI HP1.out).1 HP1.out);have HZ2:=hidC (blC hb2 (gI HZ1.out).1 HZ1.out);have hz2:=HB2.out.size;have hz12:w1.heap.size<w2.heap.size:=HV2.out.lt;clear hb2 hv2))
 obtain ⟨W3,hW3⟩:∃ W,W=(w2.alloc (.map #[] 0)).alloc (.cells #[.map (some (w.heap.size + 1 + 1)),.map (some w1.heap.size),.map (some w2.heap.size),vI 0,vI 0] 73):=⟨_,rfl⟩
 have HB3:Hid (Below w.heap.size w W3):=by rw [hW3];exact (HB2.out.alloc hz2 _).alloc (by simp;omega) _
 have HL3:Hid (W3.heap[w2.heap.size + 1]?=some (.cells #[.map (some (w.heap.size + 1 + 1)),.map (some w1.heap.size),.map (some w2.heap.size),vI ((0:Nat):Int),vI 0] 73)):=by rw [hW3];exact aNew (by simp)
 have HS3:Hid (SMap W3 w2.heap.size (fun _=>0)):=by rw [hW3];exact (SMap.made w2).keep (Below.heap_alloc _ _ _ (by simp))
 have HVA3:Hid (VMap W3 (w.heap.size + 1 + 1) callsV):=by rw [hW3];exact (HV1b.out.alloc _).alloc _
 have HVB3:Hid (VMap W3 w1.heap.size opersV):=by rw [hW3];exact (HV2.out.alloc _).alloc _
 have HP3:Hid (W3.heap[w.heap.size]?=some (.cells (pA k0_1 k1_1 k2_1 s3_1 s4_1 k5_1 k6_1 k7_1 s8_1 a9_1 l9_1 c9_1 a10_1 l10_1 c10_1) 44)):=by rw [hW3];exact aOld (aOld HP2.out)
 have HZ3:Hid (W3.heap[w.heap.size + 1]?=some (.cells zA 29)):=by rw [hW3];exact aOld (aOld HZ2.out)
 rw [<- hW3]
 have hz3:w2.heap.size + 1<W3.heap.size:=(gI HL3.out).1
 have hz03:=HB3.out.size
 have HXB:Hid (XB W3 (w2.heap.size + 1) (w.heap.size + 1 + 1) w1.heap.size w2.heap.size):=⟨HVA3.out,HVB3.out,by omega,by omega,by omega,by omega,by omega,hz3,by omega,w.heap.size,⟨by omega,by omega⟩,fun W hW=>HTT.out W (HB3.out.trans hW)⟩
 have HXS:Hid (XS W3 (w2.heap.size + 1) (w.heap.size + 1 + 1) w1.heap.size w2.heap.size (fun _=>0) 0 W3):=XS.refl HL3.out HS3.out
 have HPH:Hid (PhIn W3 (w2.heap.size + 1) w2.heap.size w.heap.size 0 ph (fun b=>b<=w.heap.size) (pL k0_1 k1_1 k2_1 s3_1 s4_1 k5_1 k6_1 k7_1 s8_1 a9_1 l9_1 c9_1 a10_1 l10_1 c10_1)):=⟨fun j hj=>by
  rw [Nat.zero_add]
  simp only [World.cell?,HP3.out]
  simp,Ph.V.keep (fun b q=>Nat.le_of_lt q) (fun b q=>HB3.out.block b q) HV0.out,Nat.le_refl _,fun b q=>⟨by omega,by omega,by omega⟩⟩
 clear hW3 HP1 HP2 HZ1 HZ2 HB1 HB2 CK CO HV1 HV1b HV2 HL3 HS3 HVA3 HVB3 HP3
 have CE:Hid (Calls Tryz.prog 24 #[vP (w2.heap.size + 1) 0,vP w.heap.size 0] W3 fun e w'=>e=.returned noEx/\w'.heap[w2.heap.size + 1]?=some (.cells #[.map (some (w.heap.size + 1 + 1)),.map (some w1.heap.size),.map (some w2.heap.size),vI (q:Int),vI R] 73)/\(∀ b,b<W3.heap.size->b≠w2.heap.size + 1->b≠w2.heap.size->w'.heap[b]?=W3.heap[b]?)/\Below w2.heap.size W3 w'):=by
  rw [hR6]
  exact (HBN.out W3 _ _ _ _ _ _ _ _ HXB.out HXS.out HPH.out).mono fun e w' ⟨k1,k2⟩=>⟨k1,k2.l,k2.k,k2.low (by omega) (Nat.le_refl _) hz3⟩
 unfold Hid at HZ3
 unfold noEx at CE
 have HZ4:=hidC HZ3
 have hly:w.heap.size + 1<W3.heap.size:=(gI HZ3).1
 clear HZ3 hR HBN HXB HXS HPH
 go_upto_region 4 with (go_at_call 24;refine CE.out.mono ?_;rintro e w4 ⟨rfl,hl4,ho4,hb4⟩;have HL4:=hidC hl4;have HZ5:=hidC ((ho4 _ hly (by omega) (by omega)).trans HZ4.out);have HB4:Hid (Below w.heap.size w w4):=HB3.out.trans (hb4.mono (by omega));obtain ⟨_,_,_,_,m4,m5,m6⟩:=bk5 hl4;have hz4:=HB4.out.size;clear hl4 ho4 hb4)
 obtain ⟨W5,hW5⟩:∃ W,W=w4.alloc (.cells zA 29):=⟨_,rfl⟩
 have HB5:Hid (Below w.heap.size w W5):=by rw [hW5];exact HB4.out.alloc hz4 _
 have HL5:Hid (W5.heap[w2.heap.size + 1]?=some (.cells #[.map (some (w.heap.size + 1 + 1)),.map (some w1.heap.size),.map (some w2.heap.size),vI (q:Int),vI R] 73)):=by rw [hW5];exact aOld HL4.out
 have HZ6:Hid (W5.heap[w.heap.size + 1]?=some (.cells zA 29)):=by rw [hW5];exact aOld HZ5.out
 rw [<- hW5]
 clear hW5 m4 m5 m6 HL4 HZ5 HB4 hz4 HZ4 HB3 CE
 refine wp_region_slots (by kernel_rfl) (fun j v _=>match j with | 0=>v=(.agg zA) | 1=>v=vP (w2.heap.size + 1) 4 | 2=>v=vI R | 4=>v=vI R | _=>True)
  (fun l _ W=>Below w.heap.size w W/\W.heap[w2.heap.size + 1]?=some (.cells #[.map (some (w.heap.size + 1 + 1)),.map (some w1.heap.size),.map (some w2.heap.size),vI (q:Int),vI R] 73)/\W.heap[w.heap.size + 1]?=some (.cells zA 29))
  (by kernel_rfl) (by kernel_rfl) ⟨HB5.out.trans ⟨rfl,rfl,rfl,Nat.le_refl _,fun _ _=>rfl⟩,HL5.out,HZ6.out⟩ ?_ ?_
 · intro l a W i o hsz h ho hl haf
   obtain ⟨g1,g2,g3⟩:=h.more
   have hi:i<5:=(gI ho).1
   obtain rfl | rfl | rfl | rfl | rfl:i=0\/i=1\/i=2\/i=3\/i=4:=by omega
   all_goals (obtain rfl:=Option.some.inj ho;rw [if_pos (want_none rfl)])
   · refine wp_val (v:=.agg zA) (w':=W) ?_ ⟨_,rfl,rfl,fun _ _ h=>h,g1,g2,g3⟩
     unfold execOp
     simp [go_sem]
   · have e8:=h.given 4 _ rfl (by kernel_rfl)
     refine wp_val (v:=vP (w2.heap.size + 1) 4) (w':=W) ?_ ⟨_,rfl,rfl,fun _ _ h=>h,g1,g2,g3⟩
     unfold execOp
     simp [e8,go_sem]
   · obtain ⟨u1,e1,d1⟩:=h.new 1 _ 16 rfl rfl (haf ⟨1,.data⟩ (by simp) rfl)
     have d1':u1=vP (w2.heap.size + 1) 4:=d1
     subst d1'
     obtain ⟨_,_,_,_,m4,_,_⟩:=bk5 g2
     refine wp_val (v:=vI R) (w':=W) ?_ ⟨_,rfl,rfl,fun _ _ h=>h,g1,g2,g3⟩
     unfold execOp
     simp [e1,go_sem,m4]
   · obtain ⟨u1,e1,d1⟩:=h.new 0 _ 15 rfl rfl (haf ⟨0,.data⟩ (by simp) rfl)
     have d1':u1=(.agg zA):=d1
     subst d1'
     have e8:=h.given 2 _ rfl (by kernel_rfl)
     obtain ⟨z0,z1,z2,z3,z4,z5,z6,z7,z8,z9,z10,z11,z12⟩:=bk11 g3
     refine wp_skip (w':=(((((((((((W).setCell ⟨w.heap.size + 1,0,none⟩ (vI 0)).setCell ⟨w.heap.size + 1,1,none⟩ (vI 0)).setCell ⟨w.heap.size + 1,2,none⟩ (vI 0)).setCell ⟨w.heap.size + 1,3,none⟩ (vE)).setCell ⟨w.heap.size + 1,4,none⟩ (vE)).setCell ⟨w.heap.size + 1,5,none⟩ (vE)).setCell ⟨w.heap.size + 1,6,none⟩ (vI 0)).setCell ⟨w.heap.size + 1,7,none⟩ (vI 0)).setCell ⟨w.heap.size + 1,8,none⟩ (vI 0)).setCell ⟨w.heap.size + 1,9,none⟩ (vE)).setCell ⟨w.heap.size + 1,10,none⟩ (vN)) ?_ ⟨_,rfl,trivial,fun _ _ h=>h,?_⟩
     · unfold execOp
       simp [e1,e8,go_sem,z0,z1,z2,z3,z4,z5,z6,z7,z8,z9,z10,z11]
     · have k1:=putL_below (w0:=w) (B:=w.heap.size) (b:=w.heap.size + 1) (Nat.le_succ _) zL W 0 g1
       have k2:=(putL_other (b:=w.heap.size + 1) (c:=w2.heap.size + 1) (by omega) zL W 0).trans g2
       have k3:=putL_same g3 zL rfl
       exact ⟨k1,k2,k3⟩
   · obtain ⟨u1,e1,d1⟩:=h.new 2 _ 17 rfl rfl (haf ⟨2,.data⟩ (by simp) rfl)
     have d1':u1=vI R:=d1
     subst d1'
     refine wp_val (v:=vI R) (w':=W) ?_ ⟨_,rfl,rfl,fun _ _ h=>h,g1,g2,g3⟩
     unfold execOp
     simp [e1,go_sem]
 · intro v W hv hs hg
   obtain ⟨g1,g2,g3⟩:=hg
   have d4:v 4=vI R:=hv 4 _ 3 rfl rfl
   simp only [putAll,d4]
   obtain ⟨y0,y1,y2,y3,y4,y5,y6,y7,y8,y9,y10,_,_⟩:=bk11 g3
   have HB6:=hidC g1
   clear hv hs d4 g1 g2 g3
   go_wp2_with fail
   exact bodyPost_ret (v:=.tuple #[.agg zA,vI R]) (by simp [results,Tryz.results12,go_sem,y0,y1,y2,y3,y4,y5,y6,y7,y8,y9,y10]) rfl ⟨rfl,HB6.out⟩
end Go.Proofs.YtmcmbdkpfcibkaaGreatDoor
