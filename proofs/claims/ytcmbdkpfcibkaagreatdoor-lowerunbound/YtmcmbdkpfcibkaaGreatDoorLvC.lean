import Derived.Test.YtmcmbdkpfcibkaaGreatDoorLxV
import Derived.Test.YtmcmbdkpfcibkaaGreatDoorLxE
import Derived.Test.YtmcmbdkpfcibkaaGreatDoorLaidQ
import Derived.Deep.RegionHeld3
set_option linter.unusedVariables false
set_option maxHeartbeats 3200000
namespace Go.Proofs.YtmcmbdkpfcibkaaGreatDoor
set_option maxRecDepth 100000
open Go.RowKit Go.WideShapes
def Alone (ph:Ph) (N:ByteArray->Nat) (p:Nat) (R:Int):Prop:=∀ (W:World) (lb tb ob sb:Nat) (S:Nat->Prop) (pb po:Nat) (u:List Value),XB W lb tb ob sb->XS W lb tb ob sb N p W->PhIn W lb sb pb po ph S u->Calls Tryz.prog 53 #[vP lb 0,vP pb po] W fun e w'=>e=.returned (vI R)/\Below W.heap.size W w'
theorem parts_path (w:World):Calls Tryz.prog 86 #[vI 21,vI 2] w fun e w'=>e=.returned (vI 0)/\w'=w:=by
 go_enter Tryz.func86,Tryz.ntmps86
 go_wp2
 go_ret
 exact ⟨rfl,rfl⟩
theorem al_path {N:ByteArray->Nat} {p:Nat} {it:It} {nm tn:ByteArray} {cn ax tk:Int} {A:Nat->Ph} :Alone (phN 21 it nm cn ax tk tn 2 A) N p 0:=by
 intro w lb tb ob sb S pb po u hB hX hP
 have CP:Hid (∀ W,Calls Tryz.prog 86 #[vI 21,vI 2] W fun e w'=>e=.returned (vI 0)/\w'=W):=parts_path
 obtain ⟨aa,ac,a10,c10',hu,_⟩:=hP.v
 obtain ⟨c0,c1,c2,c3,c4,c5,c6,c7,c8,c9,c10⟩:=phAt_c (hu ▸ hP.c)
 obtain ⟨l0,l1,l2,l3,l4,l5,l6⟩:=bk5 hX.l
 have hb:=(hP.h pb hP.s).1
 clear hB hX hP hu c1 c2 c3 c4 c5 c6 c7 c8 c10 l0 l1 l2 l3 l4 l5
 go_enter Tryz.func53,Tryz.ntmps53
 go_upto_region 1 with fail
 go_quiet ((go_at_call 86;exact Calls.quiet_of_same (CP.out _)))
 obtain ⟨W,hW⟩:∃ W,W=w.drewN nq:=⟨_,rfl⟩
 have hWh:W.heap=w.heap:=by rw [hW];rfl
 have hWc:∀ x,W.cell? x=w.cell? x:=fun x=>by rw [hW];rfl
 rw [<- hWc] at c0 c9
 rw [<- hWh] at hb l6
 rw [<- hW]
 have HW:Hid (W=w.drewN nq):=hW
 clear hWc hW
 go_wp2
 go_ret
 have hW:=HW.out
 subst hW
 exact ⟨rfl,rfl,rfl,rfl,Nat.le_refl _,fun _ _=>rfl⟩
theorem parts_filt (w:World):Calls Tryz.prog 86 #[vI 22,vI 2] w fun e w'=>e=.returned (vI 0)/\w'=w:=by
 go_enter Tryz.func86,Tryz.ntmps86
 go_wp2
 go_ret
 exact ⟨rfl,rfl⟩
theorem al_filt {N:ByteArray->Nat} {p:Nat} {it:It} {nm tn:ByteArray} {cn ax tk:Int} {A:Nat->Ph} :Alone (phN 22 it nm cn ax tk tn 2 A) N p 0:=by
 intro w lb tb ob sb S pb po u hB hX hP
 have CP:Hid (∀ W,Calls Tryz.prog 86 #[vI 22,vI 2] W fun e w'=>e=.returned (vI 0)/\w'=W):=parts_filt
 obtain ⟨aa,ac,a10,c10',hu,_⟩:=hP.v
 obtain ⟨c0,c1,c2,c3,c4,c5,c6,c7,c8,c9,c10⟩:=phAt_c (hu ▸ hP.c)
 obtain ⟨l0,l1,l2,l3,l4,l5,l6⟩:=bk5 hX.l
 have hb:=(hP.h pb hP.s).1
 clear hB hX hP hu c1 c2 c3 c4 c5 c6 c7 c8 c10 l0 l1 l2 l3 l4 l5
 go_enter Tryz.func53,Tryz.ntmps53
 go_upto_region 1 with fail
 go_quiet ((go_at_call 86;exact Calls.quiet_of_same (CP.out _)))
 obtain ⟨W,hW⟩:∃ W,W=w.drewN nq:=⟨_,rfl⟩
 have hWh:W.heap=w.heap:=by rw [hW];rfl
 have hWc:∀ x,W.cell? x=w.cell? x:=fun x=>by rw [hW];rfl
 rw [<- hWc] at c0 c9
 rw [<- hWh] at hb l6
 rw [<- hW]
 have HW:Hid (W=w.drewN nq):=hW
 clear hWc hW
 go_wp2
 go_ret
 have hW:=HW.out
 subst hW
 exact ⟨rfl,rfl,rfl,rfl,Nat.le_refl _,fun _ _=>rfl⟩
theorem parts_seq (m:Nat) (w:World):Calls Tryz.prog 86 #[vI 3,vI m] w fun e w'=>e=.returned (vI 0)/\w'=w:=by
 go_enter Tryz.func86,Tryz.ntmps86
 go_wp2
 go_ret
 exact ⟨rfl,rfl⟩
theorem al_seq {N:ByteArray->Nat} {p:Nat} {it:It} {nm tn:ByteArray} {cn ax tk:Int} {A:Nat->Ph} {m:Nat} :Alone (phN 3 it nm cn ax tk tn m A) N p 0:=by
 intro w lb tb ob sb S pb po u hB hX hP
 have CP:Hid (∀ W,Calls Tryz.prog 86 #[vI 3,vI m] W fun e w'=>e=.returned (vI 0)/\w'=W):=parts_seq m
 obtain ⟨aa,ac,a10,c10',hu,_⟩:=hP.v
 obtain ⟨c0,c1,c2,c3,c4,c5,c6,c7,c8,c9,c10⟩:=phAt_c (hu ▸ hP.c)
 obtain ⟨l0,l1,l2,l3,l4,l5,l6⟩:=bk5 hX.l
 have hb:=(hP.h pb hP.s).1
 clear hB hX hP hu c1 c2 c3 c4 c5 c6 c7 c8 c10 l0 l1 l2 l3 l4 l5
 go_enter Tryz.func53,Tryz.ntmps53
 go_upto_region 1 with fail
 go_quiet ((go_at_call 86;exact Calls.quiet_of_same (CP.out _)))
 obtain ⟨W,hW⟩:∃ W,W=w.drewN nq:=⟨_,rfl⟩
 have hWh:W.heap=w.heap:=by rw [hW];rfl
 have hWc:∀ x,W.cell? x=w.cell? x:=fun x=>by rw [hW];rfl
 rw [<- hWc] at c0 c9
 rw [<- hWh] at hb l6
 rw [<- hW]
 have HW:Hid (W=w.drewN nq):=hW
 clear hWc hW
 go_wp2
 go_ret
 have hW:=HW.out
 subst hW
 exact ⟨rfl,rfl,rfl,rfl,Nat.le_refl _,fun _ _=>rfl⟩
theorem parts_root (w:World):Calls Tryz.prog 86 #[vI 11,vI 0] w fun e w'=>e=.returned (vI 0)/\w'=w:=by
 go_enter Tryz.func86,Tryz.ntmps86
 go_wp2
 go_ret
 exact ⟨rfl,rfl⟩
theorem al_root {N:ByteArray->Nat} {p:Nat} {it:It} {nm tn:ByteArray} {cn ax tk:Int} :Alone (ph0 11 it nm cn ax tk tn) N p 0:=by
 intro w lb tb ob sb S pb po u hB hX hP
 have CP:Hid (∀ W,Calls Tryz.prog 86 #[vI 11,vI 0] W fun e w'=>e=.returned (vI 0)/\w'=W):=parts_root
 obtain ⟨aa,ac,a10,c10',hu,_⟩:=hP.v
 obtain ⟨c0,c1,c2,c3,c4,c5,c6,c7,c8,c9,c10⟩:=phAt_c (hu ▸ hP.c)
 obtain ⟨l0,l1,l2,l3,l4,l5,l6⟩:=bk5 hX.l
 have hb:=(hP.h pb hP.s).1
 clear hB hX hP hu c1 c2 c3 c4 c5 c6 c7 c8 c10 l0 l1 l2 l3 l4 l5
 go_enter Tryz.func53,Tryz.ntmps53
 go_upto_region 1 with fail
 go_quiet ((go_at_call 86;exact Calls.quiet_of_same (CP.out _)))
 obtain ⟨W,hW⟩:∃ W,W=w.drewN nq:=⟨_,rfl⟩
 have hWh:W.heap=w.heap:=by rw [hW];rfl
 have hWc:∀ x,W.cell? x=w.cell? x:=fun x=>by rw [hW];rfl
 rw [<- hWc] at c0 c9
 rw [<- hWh] at hb l6
 rw [<- hW]
 have HW:Hid (W=w.drewN nq):=hW
 clear hWc hW
 go_wp2
 go_ret
 have hW:=HW.out
 subst hW
 exact ⟨rfl,rfl,rfl,rfl,Nat.le_refl _,fun _ _=>rfl⟩
theorem parts_var (w:World):Calls Tryz.prog 86 #[vI 2,vI 0] w fun e w'=>e=.returned (vI 0)/\w'=w:=by
 go_enter Tryz.func86,Tryz.ntmps86
 go_wp2
 go_ret
 exact ⟨rfl,rfl⟩
theorem al_var {N:ByteArray->Nat} {p:Nat} {it:It} {nm tn:ByteArray} {cn ax tk:Int} (hn:nm.size<=maxLen):Alone (ph0 2 it nm cn ax tk tn) N p (if N nm=0 then 6 else 0):=by
 intro w lb tb ob sb S pb po u hB hX hP
 have CP:Hid (∀ W,Calls Tryz.prog 86 #[vI 2,vI 0] W fun e w'=>e=.returned (vI 0)/\w'=W):=parts_var
 have HS:Hid (∀ W:World,W.heap=w.heap->Calls Tryz.prog 64 #[.map (some sb),vS nm] W fun e w'=>e=.returned (vI (if N nm=0 then 6 else 0))/\w'=W):=fun W hW=>scheck_is sb N nm W (hn) (hX.s.keep (by rw [hW]))
 generalize (if N nm=0 then (6:Int) else 0)=R at *
 obtain ⟨aa,ac,a10,c10',hu,_⟩:=hP.v
 obtain ⟨c0,c1,c2,c3,c4,c5,c6,c7,c8,c9,c10⟩:=phAt_c (hu ▸ hP.c)
 obtain ⟨l0,l1,l2,l3,l4,l5,l6⟩:=bk5 hX.l
 have hb:=(hP.h pb hP.s).1
 clear hB hX hP hu c1 c2 c3 c5 c6 c7 c8 c10 l0 l1 l3 l4 l5
 go_enter Tryz.func53,Tryz.ntmps53
 go_upto_region 1 with fail
 go_quiet ((go_at_call 86;exact Calls.quiet_of_same (CP.out _)))
 obtain ⟨W,hW⟩:∃ W,W=w.drewN nq:=⟨_,rfl⟩
 have hWh:W.heap=w.heap:=by rw [hW];rfl
 have hWc:∀ x,W.cell? x=w.cell? x:=fun x=>by rw [hW];rfl
 rw [<- hWc] at c0 c4 c9 l2
 rw [<- hWh] at hb l6
 rw [<- hW]
 have HW:Hid (W=w.drewN nq):=hW
 clear hWc hW
 go_upto_region 8 with fail
 go_quiet ((go_at_call 64;exact Calls.quiet_of_same (HS.out _ (by exact hWh))))
 go_wp2
 go_ret
 have hW:=HW.out
 subst hW
 exact ⟨rfl,rfl,rfl,rfl,Nat.le_refl _,fun _ _=>rfl⟩
theorem parts_dot (w:World):Calls Tryz.prog 86 #[vI 27,vI 0] w fun e w'=>e=.returned (vI 0)/\w'=w:=by
 go_enter Tryz.func86,Tryz.ntmps86
 go_wp2
 go_ret
 exact ⟨rfl,rfl⟩
theorem al_dot {N:ByteArray->Nat} {p:Nat} {it:It} {nm tn:ByteArray} {cn ax tk:Int} :Alone (ph0 27 it nm cn ax tk tn) N p (if N ⟨#[46]⟩=0 then 6 else 0):=by
 intro w lb tb ob sb S pb po u hB hX hP
 have CP:Hid (∀ W,Calls Tryz.prog 86 #[vI 27,vI 0] W fun e w'=>e=.returned (vI 0)/\w'=W):=parts_dot
 have HS:Hid (∀ W:World,W.heap=w.heap->Calls Tryz.prog 64 #[.map (some sb),vS ⟨#[46]⟩] W fun e w'=>e=.returned (vI (if N ⟨#[46]⟩=0 then 6 else 0))/\w'=W):=fun W hW=>scheck_is sb N ⟨#[46]⟩ W (by decide) (hX.s.keep (by rw [hW]))
 generalize (if N ⟨#[46]⟩=0 then (6:Int) else 0)=R at *
 obtain ⟨aa,ac,a10,c10',hu,_⟩:=hP.v
 obtain ⟨c0,c1,c2,c3,c4,c5,c6,c7,c8,c9,c10⟩:=phAt_c (hu ▸ hP.c)
 obtain ⟨l0,l1,l2,l3,l4,l5,l6⟩:=bk5 hX.l
 have hb:=(hP.h pb hP.s).1
 clear hB hX hP hu c1 c2 c3 c4 c5 c6 c7 c8 c10 l0 l1 l3 l4 l5
 go_enter Tryz.func53,Tryz.ntmps53
 go_upto_region 1 with fail
 go_quiet ((go_at_call 86;exact Calls.quiet_of_same (CP.out _)))
 obtain ⟨W,hW⟩:∃ W,W=w.drewN nq:=⟨_,rfl⟩
 have hWh:W.heap=w.heap:=by rw [hW];rfl
 have hWc:∀ x,W.cell? x=w.cell? x:=fun x=>by rw [hW];rfl
 rw [<- hWc] at c0 c9 l2
 rw [<- hWh] at hb l6
 rw [<- hW]
 have HW:Hid (W=w.drewN nq):=hW
 clear hWc hW
 go_wp2_with (go_at_call 64;refine (HS.out _ hWh).mono ?_;rintro e w1 ⟨rfl,hw1⟩;obtain rfl:=hw1.symm)
 go_ret
 have hW:=HW.out
 subst hW
 exact ⟨rfl,rfl,rfl,rfl,Nat.le_refl _,fun _ _=>rfl⟩
theorem parts_step (w:World):Calls Tryz.prog 86 #[vI 9,vI 0] w fun e w'=>e=.returned (vI 0)/\w'=w:=by
 go_enter Tryz.func86,Tryz.ntmps86
 go_wp2
 go_ret
 exact ⟨rfl,rfl⟩
theorem al_step {N:ByteArray->Nat} {p:Nat} {it:It} {nm tn:ByteArray} {cn ax tk:Int} (hk:stepF ax tk=0):Alone (ph0 9 it nm cn ax tk tn) N p (if N ⟨#[46]⟩=0 then 6 else 0):=by
 intro w lb tb ob sb S pb po u hB hX hP
 have CP:Hid (∀ W,Calls Tryz.prog 86 #[vI 9,vI 0] W fun e w'=>e=.returned (vI 0)/\w'=W):=parts_step
 have HX:=HidOf hX
 have HLB:=HidOf hB.ll
 have HSC:Hid (∀ W:World,XS w lb tb ob sb N p W->Calls Tryz.prog 64 #[.map (some sb),vS ⟨#[46]⟩] W fun e w'=>e=.returned (vI (if N ⟨#[46]⟩=0 then 6 else 0))/\w'=W):=fun W hW=>scheck_is sb N ⟨#[46]⟩ W (by decide) hW.s
 have CS:Hid (∀ W,Calls Tryz.prog 67 #[vI ax,.agg #[vI tk,vS tn]] W fun e w'=>e=.returned (vI 0)/\Below W.heap.size W w'):=fun W=>by
  have h:=checkStep_is ax tk tn W
  rw [hk] at h
  exact h
 generalize (if N ⟨#[46]⟩=0 then (6:Int) else 0)=R at *
 obtain ⟨aa,ac,a10,c10',hu,_⟩:=hP.v
 obtain ⟨c0,c1,c2,c3,c4,c5,c6,c7,c8,c9,c10⟩:=phAt_c (hu ▸ hP.c)
 obtain ⟨l0,l1,l2,l3,l4,l5,l6⟩:=bk5 hX.l
 have hb:=(hP.h pb hP.s).1
 clear hB hX hP hu c1 c2 c3 c4 c5 c10 l0 l1 l2 l3 l4 l5
 go_enter Tryz.func53,Tryz.ntmps53
 go_upto_region 1 with fail
 go_quiet ((go_at_call 86;exact Calls.quiet_of_same (CP.out _)))
 obtain ⟨W,hW⟩:∃ W,W=w.drewN nq:=⟨_,rfl⟩
 have hWh:W.heap=w.heap:=by rw [hW];rfl
 have hWc:∀ x,W.cell? x=w.cell? x:=fun x=>by rw [hW];rfl
 rw [<- hWc] at c0 c6 c7 c8 c9
 rw [<- hWh] at hb l6
 rw [<- hW]
 have HW:Hid (W=w.drewN nq):=hW
 clear hWc hW
 have HXW:Hid (XS w lb tb ob sb N p W):=hidC (by have h:=HX.out;exact h.below ⟨by rw [HW.out];rfl,by rw [HW.out];rfl,by rw [HW.out];rfl,by rw [hWh];exact Nat.le_refl _,fun b _=>by rw [hWh]⟩)
 have HSS:Hid (∀ V,Below W.heap.size W V->V.cell? ⟨pb,po + 6,none⟩=some (vI ax)/\V.cell? ⟨pb,po + 7,none⟩=some (vI tk)/\V.cell? ⟨pb,po + 8,none⟩=some (vS tn)):=fun V hV=>⟨(hV.cell (p:=⟨pb,po + 6,none⟩) hb).trans c6,(hV.cell (p:=⟨pb,po + 7,none⟩) hb).trans c7,(hV.cell (p:=⟨pb,po + 8,none⟩) hb).trans c8⟩
 have CC:Hid (∀ V,Below W.heap.size W V->Calls Tryz.prog 67 #[vI ax,.agg #[vI tk,vS tn]] V fun e w'=>e=.returned (vI 0)/\Below W.heap.size W w'):=fun V hV=>(CS.out V).mono fun e w' ⟨k1,k2⟩=>⟨k1,hV.trans (k2.mono hV.size)⟩
 go_upto_region 12 with fail
 go_region_held3 (fun V=>V.cell? ⟨pb,po + 6,none⟩=some (vI ax)/\V.cell? ⟨pb,po + 7,none⟩=some (vI tk)/\V.cell? ⟨pb,po + 8,none⟩=some (vS tn))
  ((refine HSS.out _ ?_;repeat (first | exact Hid.out (by assumption) | exact Below.refl _ _ | refine Below.drew ?_)))
  (first
   | (go_at_call 67;refine (CC.out _ ?_).mono ?_;(focus (repeat (first | exact Hid.out (by assumption) | exact Below.refl _ _ | refine Below.drew ?_)));rintro e w2 ⟨rfl,hb2⟩;have HB2:Hid (Below W.heap.size W w2):=hb2;have HX2:Hid (XS w lb tb ob sb N p w2):=HXW.out.below hb2;obtain ⟨n0,n1,n2,n3,n4,n5,n6⟩:=bk5 HX2.out.l;clear hb2))
 go_wp2_with (go_at_call 64;refine (HSC.out _ HX2.out).mono ?_;rintro e w1 ⟨rfl,hw1⟩;obtain rfl:=hw1.symm)
 go_ret
 have hB:Below w.heap.size w W:=⟨by rw [HW.out];rfl,by rw [HW.out];rfl,by rw [HW.out];rfl,by rw [hWh];exact Nat.le_refl _,fun b _=>by rw [hWh]⟩
 exact ⟨rfl,hB.trans (HB2.out.mono hB.size)⟩
theorem checkCall_pos {lb tb ob sb:Nat} {N:ByteArray->Nat} {p:Nat} {w0 w:World} (hX:XS w0 lb tb ob sb N p w) :
 Calls Tryz.prog 87 #[vP lb 0,vS ⟨#[112,111,115,105,116,105,111,110]⟩,vI 0] w fun e w'=>e=.returned (vI (if N ⟨#[46,97,116]⟩=0 then 6 else 0))/\Below w.heap.size w w':=by
 have HS:Hid (Calls Tryz.prog 64 #[.map (some sb),vS ⟨#[46,97,116]⟩] w fun e w'=>e=.returned (vI (if N ⟨#[46,97,116]⟩=0 then 6 else 0))/\w'=w):=scheck_is sb N ⟨#[46,97,116]⟩ w (by decide) hX.s
 obtain ⟨l0,l1,l2,l3,l4,l5,l6⟩:=bk5 hX.l
 clear hX
 generalize (if N ⟨#[46,97,116]⟩=0 then (6:Int) else 0)=R at *
 go_enter Tryz.func87,Tryz.ntmps87
 go_wp2_with (go_at_call 64;refine HS.out.mono ?_;rintro e w1 ⟨rfl,hw1⟩;obtain rfl:=hw1.symm)
 go_ret
 exact ⟨rfl,Below.refl _ _⟩
theorem al_pos {N:ByteArray->Nat} {p:Nat} {it:It} {tn:ByteArray} {cn ax tk:Int}:Alone (ph0 8 it ⟨#[112,111,115,105,116,105,111,110]⟩ cn ax tk tn) N p (if N ⟨#[46,97,116]⟩=0 then 6 else 0):=by
 intro w lb tb ob sb S pb po u hB hX hP
 obtain ⟨aa,ac,a10,c10',hu,_⟩:=hP.v
 exact alone_call lb pb po _ _ _ _ _ _ _ 0 _ _ _ w (phAt_c (hu ▸ hP.c)) (hP.h pb hP.s).1 (fun W hW=>checkCall_pos (hX.below hW))
theorem checkCall_last {lb tb ob sb:Nat} {N:ByteArray->Nat} {p:Nat} {w0 w:World} (hX:XS w0 lb tb ob sb N p w) :
 Calls Tryz.prog 87 #[vP lb 0,vS ⟨#[108,97,115,116]⟩,vI 0] w fun e w'=>e=.returned (vI (if N ⟨#[46,108,97,115,116]⟩=0 then 6 else 0))/\Below w.heap.size w w':=by
 have HS:Hid (Calls Tryz.prog 64 #[.map (some sb),vS ⟨#[46,108,97,115,116]⟩] w fun e w'=>e=.returned (vI (if N ⟨#[46,108,97,115,116]⟩=0 then 6 else 0))/\w'=w):=scheck_is sb N ⟨#[46,108,97,115,116]⟩ w (by decide) hX.s
 obtain ⟨l0,l1,l2,l3,l4,l5,l6⟩:=bk5 hX.l
 clear hX
 generalize (if N ⟨#[46,108,97,115,116]⟩=0 then (6:Int) else 0)=R at *
 go_enter Tryz.func87,Tryz.ntmps87
 go_wp2_with (go_at_call 64;refine HS.out.mono ?_;rintro e w1 ⟨rfl,hw1⟩;obtain rfl:=hw1.symm)
 go_ret
 exact ⟨rfl,Below.refl _ _⟩
theorem al_last {N:ByteArray->Nat} {p:Nat} {it:It} {tn:ByteArray} {cn ax tk:Int}:Alone (ph0 8 it ⟨#[108,97,115,116]⟩ cn ax tk tn) N p (if N ⟨#[46,108,97,115,116]⟩=0 then 6 else 0):=by
 intro w lb tb ob sb S pb po u hB hX hP
 obtain ⟨aa,ac,a10,c10',hu,_⟩:=hP.v
 exact alone_call lb pb po _ _ _ _ _ _ _ 0 _ _ _ w (phAt_c (hu ▸ hP.c)) (hP.h pb hP.s).1 (fun W hW=>checkCall_last (hX.below hW))
theorem parts_some (w:World):Calls Tryz.prog 86 #[vI 23,vI 2] w fun e w'=>e=.returned (vI 0)/\w'=w:=by
 go_enter Tryz.func86,Tryz.ntmps86
 go_wp2
 go_ret
 exact ⟨rfl,rfl⟩
theorem al_some {N:ByteArray->Nat} {p:Nat} {it:It} {nm tn:ByteArray} {cn ax tk:Int} {A:Nat->Ph} (hn:nm.size<=maxLen) (hk:namesF nm ⟨#[]⟩=0):Alone (phN 23 it nm cn ax tk tn 2 A) N p 0:=by
 intro w lb tb ob sb S pb po u hB hX hP
 have CP:Hid (∀ W,Calls Tryz.prog 86 #[vI 23,vI 2] W fun e w'=>e=.returned (vI 0)/\w'=W):=parts_some
 have HM:Hid (∀ W:World,Calls Tryz.prog 65 #[vS nm,vE] W fun e w'=>e=.returned (vI 0)/\w'=W):=fun W=>by
  have h:=checkNames_is nm ⟨#[]⟩ W hn (by decide)
  rw [hk] at h
  exact h
 obtain ⟨aa,ac,a10,c10',hu,_⟩:=hP.v
 obtain ⟨c0,c1,c2,c3,c4,c5,c6,c7,c8,c9,c10⟩:=phAt_c (hu ▸ hP.c)
 obtain ⟨l0,l1,l2,l3,l4,l5,l6⟩:=bk5 hX.l
 have hb:=(hP.h pb hP.s).1
 clear hB hX hP hu c1 c2 c3 c5 c6 c7 c8 c10 l0 l1 l2 l3 l4 l5
 go_enter Tryz.func53,Tryz.ntmps53
 go_upto_region 1 with fail
 go_quiet ((go_at_call 86;exact Calls.quiet_of_same (CP.out _)))
 obtain ⟨W,hW⟩:∃ W,W=w.drewN nq:=⟨_,rfl⟩
 have hWh:W.heap=w.heap:=by rw [hW];rfl
 have hWc:∀ x,W.cell? x=w.cell? x:=fun x=>by rw [hW];rfl
 rw [<- hWc] at c0 c4 c9
 rw [<- hWh] at hb l6
 rw [<- hW]
 have HW:Hid (W=w.drewN nq):=hW
 clear hWc hW
 go_wp2_with (go_at_call 65;refine (HM.out _).mono ?_;rintro e w1 ⟨rfl,hw1⟩;obtain rfl:=hw1.symm)
 go_ret
 have hW:=HW.out
 subst hW
 exact ⟨rfl,rfl,rfl,rfl,Nat.le_refl _,fun _ _=>rfl⟩
theorem parts_bin (w:World):Calls Tryz.prog 86 #[vI 25,vI 2] w fun e w'=>e=.returned (vI 0)/\w'=w:=by
 go_enter Tryz.func86,Tryz.ntmps86
 go_wp2
 go_ret
 exact ⟨rfl,rfl⟩
theorem al_bin {N:ByteArray->Nat} {p:Nat} {it:It} {nm tn:ByteArray} {cn ax tk:Int} {A:Nat->Ph} {y:ByteArray} (hn:nm.size<=maxLen) (hV0:opersV nm=some (fV y 2)):Alone (phN 25 it nm cn ax tk tn 2 A) N p 0:=by
 intro w lb tb ob sb S pb po u hB hX hP
 have CP:Hid (∀ W,Calls Tryz.prog 86 #[vI 25,vI 2] W fun e w'=>e=.returned (vI 0)/\w'=W):=parts_bin
 have HO:Hid (∀ W,Below w.heap.size w W->VMap W ob opersV):=fun W hW=>hB.o.keep (hW.block _ hB.o.lt)
 have CT:Hid (∀ W,Below w.heap.size w W->Calls Tryz.prog 66 #[.map (some ob),vS nm,vI 2] W fun e w'=>e=.returned (vI 0)/\Below w.heap.size w w'):=fun W hW=>(tcheckV_is opersV ob nm y 2 2 0 W hn (HO.out W hW) (.inl ⟨hV0,rfl⟩)).mono fun e w' ⟨k1,k2⟩=>⟨k1,hW.trans (k2.mono hW.size)⟩
 obtain ⟨aa,ac,a10,c10',hu,_⟩:=hP.v
 obtain ⟨c0,c1,c2,c3,c4,c5,c6,c7,c8,c9,c10⟩:=phAt_c (hu ▸ hP.c)
 obtain ⟨l0,l1,l2,l3,l4,l5,l6⟩:=bk5 hX.l
 have hb:=(hP.h pb hP.s).1
 clear hB hX hP hu c1 c2 c3 c5 c6 c7 c8 c10 l0 l2 l3 l4 l5
 go_enter Tryz.func53,Tryz.ntmps53
 go_upto_region 1 with fail
 go_quiet ((go_at_call 86;exact Calls.quiet_of_same (CP.out _)))
 obtain ⟨W,hW⟩:∃ W,W=w.drewN nq:=⟨_,rfl⟩
 have hWh:W.heap=w.heap:=by rw [hW];rfl
 have hWc:∀ x,W.cell? x=w.cell? x:=fun x=>by rw [hW];rfl
 rw [<- hWc] at c0 c4 c9 l1
 rw [<- hWh] at hb l6
 rw [<- hW]
 have HW:Hid (W=w.drewN nq):=hW
 clear hWc hW
 have HBW:Hid (Below w.heap.size w W):=hidC ⟨by rw [HW.out];rfl,by rw [HW.out];rfl,by rw [HW.out];rfl,by rw [hWh];exact Nat.le_refl _,fun b _=>by rw [hWh]⟩
 have HSS:Hid (∀ V,Below w.heap.size W V->V.cell? ⟨lb,1,none⟩=some (.map (some ob))/\V.cell? ⟨pb,po + 4,none⟩=some (vS nm)/\V.cell? ⟨pb,po + 9,none⟩=some (.slice aa 2 ac)):=fun V hV=>⟨(hV.cell (p:=⟨lb,1,none⟩) (by rw [<- hWh];exact l6)).trans l1,(hV.cell (p:=⟨pb,po + 4,none⟩) (by rw [<- hWh];exact hb)).trans c4,(hV.cell (p:=⟨pb,po + 9,none⟩) (by rw [<- hWh];exact hb)).trans c9⟩
 have CT2:Hid (∀ V,Below w.heap.size W V->Calls Tryz.prog 66 #[.map (some ob),vS nm,vI 2] V fun e w'=>e=.returned (vI 0)/\Below w.heap.size W w'):=fun V hV=>(tcheckV_is opersV ob nm y 2 2 0 V hn (HO.out V (HBW.out.trans hV)) (.inl ⟨hV0,rfl⟩)).mono fun e w' ⟨k1,k2⟩=>⟨k1,hV.trans (k2.mono (by have:=hV.size;rw [hWh] at this;exact this))⟩
 clear CT
 go_upto_region 19 with fail
 go_region_held3 (fun V=>V.cell? ⟨lb,1,none⟩=some (.map (some ob))/\V.cell? ⟨pb,po + 4,none⟩=some (vS nm)/\V.cell? ⟨pb,po + 9,none⟩=some (.slice aa 2 ac))
  ((refine HSS.out _ ?_;repeat (first | exact Hid.out (by assumption) | exact Below.refl _ _ | refine Below.drew ?_)))
  (first
   | (go_at_call 66;refine (CT2.out _ ?_).mono ?_;(focus (repeat (first | exact Hid.out (by assumption) | exact Below.refl _ _ | refine Below.drew ?_)));rintro e w2 ⟨rfl,hb2⟩;have HB2:Hid (Below w.heap.size W w2):=hb2;clear hb2))
 go_wp2
 go_ret
 exact ⟨rfl,HBW.out.trans HB2.out⟩
end Go.Proofs.YtmcmbdkpfcibkaaGreatDoor
