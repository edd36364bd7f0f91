import Derived.Test.YtmcmbdkpfcibkaaGreatDoorLcG
set_option linter.unusedVariables false
set_option maxHeartbeats 6400000
namespace Go.Proofs.YtmcmbdkpfcibkaaGreatDoor
set_option maxRecDepth 100000
open Go.RowKit Go.WideShapes Go.Shelf
attribute [local go_sem] Oper.semAt_some
theorem cellqF {w w':World} {b o:Nat} (e:w'.heap[b]?=w.heap[b]?):w'.cell? ⟨b,o,none⟩=w.cell? ⟨b,o,none⟩:=by simp only [World.cell?,e]
def AroF (lb:Nat) (m1 m2 m3:Value) (p:Nat) (cv:CV) (nmf atf:ByteArray) (k2:Int) (i2:It) (nm2 at2:ByteArray) (g2 ax2 tk2:Int) (tn2:ByteArray) (aa2:Option Addr) (am2 ac2:Nat) (w W0:World) (pre:List Nat) (W:World):Prop :=
 ∃ (q:Nat) (Bd:Array Value),W.heap[lb]?=some (.cells #[m1,m2,m3,vI ((q:Nat):Int),vI 0] 73)/\W.heap[w.heap.size + 1]?=some (.cells Bd 29)/\W.heap[w.heap.size]?=some (.cells #[vP lb 0] 99)/\W.heap[w.heap.size + 2]?=some (.cells zA 29)/\(∀ c,c<w.heap.size->c≠lb->W.heap[c]?=w.heap[c]?)/\Below lb w W/\W0.heap.size<=W.heap.size /\
  ((pre=[]/\q=p/\Bd=(eA k2 i2.kind i2.n i2.s nm2 at2 g2 ax2 tk2 tn2 aa2 am2 ac2))\/(pre.length=1/\q=p + 1/\∃ n14:Nat,Bd=(eA 5 0 0 ⟨#[]⟩ nmf atf 0 0 0 ⟨#[]⟩ (some ⟨n14,0,none⟩) 2 2)/\W0.heap.size<=n14/\W.heap[n14]?=some (.cells #[vI (cv.k),vI (cv.it.kind),vI (cv.it.n),vS cv.it.s,vS cv.nm,vS cv.at_,vI (cv.n),vI (cv.ax),vI (cv.tk),vS cv.tn,.slice cv.aa cv.am cv.ac,vI (k2),vI (i2.kind),vI (i2.n),vS i2.s,vS nm2,vS at2,vI (g2),vI (ax2),vI (tk2),vS tn2,.slice aa2 am2 ac2] 29)))
theorem AroF.own (lb:Nat) (m1 m2 m3:Value) (p:Nat) (cv:CV) (nmf atf:ByteArray) (k2:Int) (i2:It) (nm2 at2:ByteArray) (g2 ax2 tk2:Int) (tn2:ByteArray) (aa2:Option Addr) (am2 ac2:Nat) (w W0:World) (hl:lb<w.heap.size) (hz:w.heap.size<=W0.heap.size):OwnFrom W0.heap.size (AroF lb m1 m2 m3 p cv nmf atf k2 i2 nm2 at2 g2 ax2 tk2 tn2 aa2 am2 ac2 w W0):=by
 rintro pre X Y row ⟨q,Bd,h1,h2,h3,h4,h5,h6,h7,h8⟩ hg hr
 refine ⟨q,Bd,cells_kept h1 hg hr,cells_kept h2 hg hr,cells_kept h3 hg hr,cells_kept h4 hg hr,fun c hc hn=>(hg.block c (by omega) (fun e=>by have:=(hr c e.symm).1;omega)).trans (h5 c hc hn),h6.grown hg (by omega) (fun k e=>by have:=(hr k e).1;omega),Nat.le_trans h7 hg.size,?_⟩
 rcases h8 with h8 | ⟨e1,e2,n14,e3,e4,e5⟩
 · exact .inl h8
 · exact .inr ⟨e1,e2,n14,e3,e4,cells_kept e5 hg hr⟩
def ArF (lb:Nat) (m1 m2 m3:Value) (p:Nat) (cv:CV) (nmf atf:ByteArray) (k2:Int) (i2:It) (nm2 at2:ByteArray) (g2 ax2 tk2:Int) (tn2:ByteArray) (aa2:Option Addr) (am2 ac2:Nat) (w:World) (e:Ending) (w':World):Prop :=
 ∃ n14:Nat,e=.returned (.agg (eA 5 0 0 ⟨#[]⟩ nmf atf 0 0 0 ⟨#[]⟩ (some ⟨n14,0,none⟩) 2 2))/\Kp lb m1 m2 m3 (p + 1) w w'/\w.heap.size<=n14/\w'.heap[n14]?=some (.cells #[vI (cv.k),vI (cv.it.kind),vI (cv.it.n),vS cv.it.s,vS cv.nm,vS cv.at_,vI (cv.n),vI (cv.ax),vI (cv.tk),vS cv.tn,.slice cv.aa cv.am cv.ac,vI (k2),vI (i2.kind),vI (i2.n),vS i2.s,vS nm2,vS at2,vI (g2),vI (ax2),vI (tk2),vS tn2,.slice aa2 am2 ac2] 29)
theorem around_for (lb:Nat) (m1 m2 m3:Value) (p:Nat) (cv:CV) (nmf atf:ByteArray) (b off cap:Nat) (k2:Int) (i2:It) (nm2 at2:ByteArray) (g2 ax2 tk2:Int) (tn2:ByteArray) (aa2:Option Addr) (am2 ac2:Nat) (w:World) (hl:w.heap[lb]?=some (.cells #[m1,m2,m3,vI (p:Int),vI 0] 73)) (hp:p + 1<=700)
 (hcv:CvAt w b off cv) (hb:b<w.heap.size) (hbl:b≠lb) (hk:w.cell? ⟨cv.pb,cv.po,none⟩=some (vI 1)) (hkb:cv.pb<w.heap.size) (hkl:cv.pb≠lb) (hnm:w.cell? ⟨cv.pb,cv.po + 1,none⟩=some (vS nmf)) (hat:w.cell? ⟨cv.pb,cv.po + 2,none⟩=some (vS atf)) (hnf:nmf.size<=4000) (haf:atf.size<=4000) :
 Calls Tryz.prog 99 #[vP lb 0,vL b off 1 cap,.agg (eA k2 i2.kind i2.n i2.s nm2 at2 g2 ax2 tk2 tn2 aa2 am2 ac2)] w fun e w'=>ArF lb m1 m2 m3 p cv nmf atf k2 i2 nm2 at2 g2 ax2 tk2 tn2 aa2 am2 ac2 w e w':=by
 have HL:=hidC hl
 have HK:=hidC hk
 have HNM:=hidC hnm
 have HAT:=hidC hat
 have HC:=hidC hcv
 have l6:lb<w.heap.size:=(gI hl).1
 have CC:Hid (∀ (W:World) (c:Nat),W.heap[lb]?=some (.cells #[m1,m2,m3,vI ((c:Nat):Int),vI 0] 73)->c + 1<=700->Calls Tryz.prog 92 _ W _):=fun W c h1 h2=>loop_is lb m1 m2 m3 c nmf atf cv.k cv.it cv.nm cv.at_ cv.n cv.ax cv.tk cv.tn cv.aa cv.am cv.ac k2 i2 nm2 at2 g2 ax2 tk2 tn2 aa2 am2 ac2 W h1 h2 hnf haf
 clear hl hk hcv hnm hat
 refine (callsIn_wide (n:=3)).1 ?_
 refine callsIn_of_wp_marks Tryz.func99 rfl trivial ?_ rfl
 simp only [Tryz.ntmps99,List.size_toArray,List.length_cons,List.length_nil,Nat.reduceAdd,Nat.reduceSub,Array.replicate_succ,Array.replicate_zero,List.push_toArray,List.append_toArray,List.nil_append,List.cons_append]
 gi_wp2_with (refine ⟨trivial,?_⟩;gi_at_call 130;refine (callsIn_wide.2 (backward_is _ _ _ _)).mono ?_;rintro e w1 ⟨rfl,rfl⟩)
 obtain ⟨W0,hW0⟩:∃ W,W=(((w.alloc (.cells #[vP lb 0] 99)).alloc (.cells (eA k2 i2.kind i2.n i2.s nm2 at2 g2 ax2 tk2 tn2 aa2 am2 ac2) 29)).alloc (.cells zA 29)).alloc (.cells #[vL b off 1 cap] 130):=⟨_,rfl⟩
 have HL0:Hid (W0.heap[lb]?=some (.cells #[m1,m2,m3,vI (p:Int),vI 0] 73)):=by rw [hW0];exact aOld (aOld (aOld (aOld HL.out)))
 have HA0:Hid (W0.heap[w.heap.size]?=some (.cells #[vP lb 0] 99)):=by rw [hW0];exact aOld (aOld (aOld (aNew rfl)))
 have HY0:Hid (W0.heap[w.heap.size + 1]?=some (.cells (eA k2 i2.kind i2.n i2.s nm2 at2 g2 ax2 tk2 tn2 aa2 am2 ac2) 29)):=by rw [hW0];exact aOld (aOld (aNew (by simp)))
 have HR0:Hid (W0.heap[w.heap.size + 2]?=some (.cells zA 29)):=by rw [hW0];exact aOld (aNew (by simp))
 have HS0:Hid (W0.heap[w.heap.size + 1 + 1 + 1]?=some (.cells #[vL b off 1 cap] 130)):=by rw [hW0];exact aNew (by simp)
 have HB0:Hid (Below w.heap.size w W0):=by rw [hW0];exact ((((Below.refl _ w).alloc (Nat.le_refl _) _).alloc (by simp) _).alloc (by simp;omega) _).alloc (by simp;omega) _
 have hz0:W0.heap.size=w.heap.size + 4:=by rw [hW0];simp
 rw [<- hW0]
 clear hW0
 refine wpIn_rangeFunc_ownH rfl (by decide) (gf:=148) (lb:=#[vP (w.heap.size + 1 + 1 + 1) 0]) rfl trivial (enters_of Tryz.func148 (by kernel_rfl) rfl) (backward_stops Fence.wide _ trivial rfl (by decide) (w.heap.size + 1 + 1 + 1) b off 1 cap (fun _=>cv) (by decide) W0 HS0.out (fun j hj=>by obtain rfl:j=0:=(by omega);exact HC.out.block (HB0.out.block b hb)) (by omega)) (fun h k=>h.trans k) (two_b (by omega) (by omega)) (Below.refl _ _) (fun _=>rfl)
  (AroF lb m1 m2 m3 p cv nmf atf k2 i2 nm2 at2 g2 ax2 tk2 tn2 aa2 am2 ac2 w W0) (fun _ _ _=>False) (AroF.own lb m1 m2 m3 p cv nmf atf k2 i2 nm2 at2 g2 ax2 tk2 tn2 aa2 am2 ac2 w W0 l6 (by omega)) (fun _ _ _ _ _ hs _ _=>hs)
  ⟨p,_,HL0.out,HY0.out,HA0.out,HR0.out,fun c hc _=>HB0.out.block c hc,HB0.out.mono (by omega),Nat.le_refl _,.inl ⟨rfl,rfl,rfl⟩⟩
  (fun x a' W=>∃ T,W0.heap.size<=T/\W.heap[T]?=some (.cells #[vP cv.pb cv.po,vI (cv.k),vI (cv.it.kind),vI (cv.it.n),vS cv.it.s,vS cv.nm,vS cv.at_,vI (cv.n),vI (cv.ax),vI (cv.tk),vS cv.tn,.slice cv.aa cv.am cv.ac] 135)/\a'={ tmps:=#[vP lb 0,vL b off 1 cap,.agg (eA k2 i2.kind i2.n i2.s nm2 at2 g2 ax2 tk2 tn2 aa2 am2 ac2),vP w.heap.size 0,undef,vP (w.heap.size + 1) 0,vP (w.heap.size + 1 + 1) 0,undef,vP T 0,vL b off 1 cap,.func (.func 148) #[] #[vP (w.heap.size + 1 + 1 + 1) 0],vI ((x:Nat):Int),.agg #[vP cv.pb cv.po,vI (cv.k),vI (cv.it.kind),vI (cv.it.n),vS cv.it.s,vS cv.nm,vS cv.at_,vI (cv.n),vI (cv.ax),vI (cv.tk),vS cv.tn,.slice cv.aa cv.am cv.ac],undef,undef,undef,undef,undef,undef,undef,undef,undef,undef,undef,undef,undef,undef,undef,undef,undef,undef,undef,undef,undef,undef,undef,undef,undef,undef,undef,undef,undef,undef,undef,undef,undef,undef,undef,undef,undef,undef,undef,undef,undef,undef,undef,undef,undef,undef,undef],defers:=[] })
  (fun x a' _ X Y row hs hg hr=>by obtain ⟨T,e1,e2,e3⟩:=hs;exact ⟨T,e1,cells_kept e2 hg hr,e3⟩) ?assign ?body ?done ?stop
 case assign =>
  intro l pre x W K hi hK
  simp only [CV.val]
  gi_wp2
  have hzW:W0.heap.size<=W.heap.size:=by obtain ⟨_,_,_,_,_,_,_,_,h7,_⟩:=hi;exact h7
  exact hK _ _ ((KeepsOthers.alloc _ _).from _) ⟨Below.heap_alloc _ _ _ (by omega),Below.heap_alloc _ _ _ (by omega)⟩ ((AroF.own lb m1 m2 m3 p cv nmf atf k2 i2 nm2 at2 g2 ax2 tk2 tn2 aa2 am2 ac2 w W0 l6 (by omega)).alloc _ hi) ⟨W.heap.size,hzW,aNew rfl,rfl⟩
 case body =>
  rintro l pre x a' W1 hl ⟨r,hr⟩ hi ⟨T,hT,hTb,rfl⟩ hlt
  obtain ⟨q,Bd,g1,g2',g3,g4,g5,g6,g7,g8⟩:=hi
  obtain ⟨rfl,e1,rfl⟩:pre=[]/\q=p/\Bd=(eA k2 i2.kind i2.n i2.s nm2 at2 g2 ax2 tk2 tn2 aa2 am2 ac2):=by
   rcases g8 with h | h
   · exact h
   · exfalso;have:=h.1;omega
  obtain rfl:p=q:=e1.symm
  have HA1:=hidC g3
  have HT1:=hidC hTb
  have HY1:=hidC g2'
  have HL1:=hidC g1
  have HR1:=hidC g4
  have HO1:=hidC g5
  have HB1:=hidC g6
  have HRR:=hidC hr
  have HK1:W1.cell? ⟨cv.pb,cv.po,none⟩=some (vI 1):=(cellqF (o:=cv.po) (g5 cv.pb hkb hkl)).trans HK.out
  have NF5:=hidC ((cellqF (o:=cv.po + 1) (g5 cv.pb hkb hkl)).trans HNM.out)
  have AF5:=hidC ((cellqF (o:=cv.po + 2) (g5 cv.pb hkb hkl)).trans HAT.out)
  have hpz:cv.pb<W1.heap.size:=by omega
  obtain ⟨obf,hobf⟩:∃ o,W1.heap[cv.pb]?=some o:=⟨_,Array.getElem?_eq_getElem hpz⟩
  have HOF:=hidC hobf
  clear hobf
  have hTz:T<W1.heap.size:=(gI hTb).1
  obtain ⟨c0,_,_,_,_,_,_,_,_,_,_,_⟩:=bk12 hTb
  clear g1 g2' g3 g4 g5 g6 g8 hTb hr
  gi_wp2
  have HL1c:W1.heap[lb]?=some (.cells #[m1,m2,m3,vI (((p + one ((Array.replicate 16 false).getD 14 false)):Nat):Int),vI 0] 73):=HL1.out
  clear c0 HK1
  refine wpIn_region_slots (by kernel_rfl) (fun j v W=>(match j with | 0=>v=(vP lb 0) | 1=>v=(vP T 0) | 2=>v=(vP cv.pb cv.po) | 3=>v=(vP cv.pb cv.po) | 4=>v=(vP cv.pb (cv.po + 1)) | 5=>v=(vS nmf) | 6=>v=(vP T 0) | 7=>v=(vP cv.pb cv.po) | 8=>v=(vP cv.pb cv.po) | 9=>v=(vP cv.pb (cv.po + 2)) | 10=>v=(vS atf) | 11=>v=(vP T 1) | 12=>v=(.agg (eA cv.k cv.it.kind cv.it.n cv.it.s cv.nm cv.at_ cv.n cv.ax cv.tk cv.tn cv.aa cv.am cv.ac)) | 13=>v=(.agg (eA k2 i2.kind i2.n i2.s nm2 at2 g2 ax2 tk2 tn2 aa2 am2 ac2)) | _=>True)/\(j=14->∃ n14:Nat,v=(.agg (eA 5 0 0 ⟨#[]⟩ nmf atf 0 0 0 ⟨#[]⟩ (some ⟨n14,0,none⟩) 2 2))/\W1.heap.size<=n14/\W.heap[n14]?=some (.cells #[vI (cv.k),vI (cv.it.kind),vI (cv.it.n),vS cv.it.s,vS cv.nm,vS cv.at_,vI (cv.n),vI (cv.ax),vI (cv.tk),vS cv.tn,.slice cv.aa cv.am cv.ac,vI (k2),vI (i2.kind),vI (i2.n),vS i2.s,vS nm2,vS at2,vI (g2),vI (ax2),vI (tk2),vS tn2,.slice aa2 am2 ac2] 29))) (fun l a W=>Below lb W1 W/\W1.heap.size<=W.heap.size/\W.heap[w.heap.size]?=some (.cells #[vP lb 0] 99)/\W.heap[T]?=some (.cells #[vP cv.pb cv.po,vI (cv.k),vI (cv.it.kind),vI (cv.it.n),vS cv.it.s,vS cv.nm,vS cv.at_,vI (cv.n),vI (cv.ax),vI (cv.tk),vS cv.tn,.slice cv.aa cv.am cv.ac] 135)/\W.heap[cv.pb]?=some (obf)/\((l.getD 15 false=false->W.heap[w.heap.size + 1]?=some (.cells (eA k2 i2.kind i2.n i2.s nm2 at2 g2 ax2 tk2 tn2 aa2 am2 ac2) 29))/\(l.getD 15 false=true->∃ n14:Nat,W.heap[w.heap.size + 1]?=some (.cells (eA 5 0 0 ⟨#[]⟩ nmf atf 0 0 0 ⟨#[]⟩ (some ⟨n14,0,none⟩) 2 2) 29)/\W1.heap.size<=n14/\W.heap[n14]?=some (.cells #[vI (cv.k),vI (cv.it.kind),vI (cv.it.n),vS cv.it.s,vS cv.nm,vS cv.at_,vI (cv.n),vI (cv.ax),vI (cv.tk),vS cv.tn,.slice cv.aa cv.am cv.ac,vI (k2),vI (i2.kind),vI (i2.n),vS i2.s,vS nm2,vS at2,vI (g2),vI (ax2),vI (tk2),vS tn2,.slice aa2 am2 ac2] 29)))/\W.heap[lb]?=some (.cells #[m1,m2,m3,vI (((p + one (l.getD 14 false)):Nat):Int),vI 0] 73)/\(∀ c,c<W1.heap.size->c≠lb->c≠w.heap.size + 1->W.heap[c]?=W1.heap[c]?)) (by kernel_rfl) (by kernel_rfl) (by kernel_rfl) ⟨(Below.refl _ _).trans ⟨rfl,rfl,rfl,Nat.le_refl _,fun _ _=>rfl⟩,Nat.le_refl _,HA1.out,HT1.out,HOF.out,⟨fun _=>HY1.out,fun e7=>by rw [Array.getD_eq_getD_getElem?,Array.getElem?_replicate] at e7;split at e7 <;> cases e7⟩,HL1c,fun c _ _ _=>rfl⟩ ?_ ?_
  · intro l a W i o hsz h ho hl haf
    obtain ⟨g1,g0,b0,b1,b2,b3,bc,gr⟩:=h.more
    have gz:lb<=W.heap.size:=Nat.le_trans (by first | exact Nat.le_refl _ | omega) g0
    have hi:i<16:=(gI ho).1
    obtain rfl | rfl | rfl | rfl | rfl | rfl | rfl | rfl | rfl | rfl | rfl | rfl | rfl | rfl | rfl | rfl:i=0\/i=1\/i=2\/i=3\/i=4\/i=5\/i=6\/i=7\/i=8\/i=9\/i=10\/i=11\/i=12\/i=13\/i=14\/i=15:=by omega
    all_goals (obtain rfl:=Option.some.inj ho;rw [if_pos (want_none rfl)])
    · have e3:=h.given 3 _ rfl (by kernel_rfl)
      have m15:=h.later 15 0 _ ⟨0,.phase⟩ rfl (by simp) rfl rfl hl
      have c_:=b0
      have c0:=box1 c_
      refine wp_val (v:=vP lb 0) (w':=W) ?_ ⟨_,rfl,⟨rfl,fun e=>absurd e (by decide)⟩,fun _ _ h=>h,g1,g0,b0,b1,b2,⟨fun _=>(b3.1 m15),fun e7=>absurd ((set_other_get (show 0≠15 by decide)).symm.trans e7) (by rw [m15];decide)⟩,(by simp only [set_other_get (show 0≠14 by decide)];exact bc),(fun c h1 h2 h3=>gr c h1 h2 h3)⟩
      unfold execOp
      simp [e3,c0,go_sem]
    · have e8:=h.given 8 _ rfl (by kernel_rfl)
      have m15:=h.later 15 1 _ ⟨1,.phase⟩ rfl (by simp) rfl rfl hl
      refine wp_val (v:=vP T 0) (w':=W) ?_ ⟨_,rfl,⟨rfl,fun e=>absurd e (by decide)⟩,fun _ _ h=>h,g1,g0,b0,b1,b2,⟨fun _=>(b3.1 m15),fun e7=>absurd ((set_other_get (show 1≠15 by decide)).symm.trans e7) (by rw [m15];decide)⟩,(by simp only [set_other_get (show 1≠14 by decide)];exact bc),(fun c h1 h2 h3=>gr c h1 h2 h3)⟩
      unfold execOp
      simp [e8,go_sem]
    · obtain ⟨u21,e21,x21⟩:=h.new 1 _ 21 rfl rfl (haf ⟨1,.data⟩ (by simp) rfl)
      have y21:u21=(vP T 0):=x21.1
      subst y21
      have m15:=h.later 15 2 _ ⟨2,.phase⟩ rfl (by simp) rfl rfl hl
      have c_:=b1
      obtain ⟨c0,c1,c2,c3,c4,c5,c6,c7,c8,c9,c10,c11⟩:=bk12 c_
      refine wp_val (v:=vP cv.pb cv.po) (w':=W) ?_ ⟨_,rfl,⟨rfl,fun e=>absurd e (by decide)⟩,fun _ _ h=>h,g1,g0,b0,b1,b2,⟨fun _=>(b3.1 m15),fun e7=>absurd ((set_other_get (show 2≠15 by decide)).symm.trans e7) (by rw [m15];decide)⟩,(by simp only [set_other_get (show 2≠14 by decide)];exact bc),(fun c h1 h2 h3=>gr c h1 h2 h3)⟩
      unfold execOp
      simp [e21,c0,go_sem]
    · obtain ⟨u22,e22,x22⟩:=h.new 2 _ 22 rfl rfl (haf ⟨2,.data⟩ (by simp) rfl)
      have y22:u22=(vP cv.pb cv.po):=x22.1
      subst y22
      have m15:=h.later 15 3 _ ⟨3,.phase⟩ rfl (by simp) rfl rfl hl
      refine wp_val (v:=vP cv.pb cv.po) (w':=W) ?_ ⟨_,rfl,⟨rfl,fun e=>absurd e (by decide)⟩,fun _ _ h=>h,g1,g0,b0,b1,b2,⟨fun _=>(b3.1 m15),fun e7=>absurd ((set_other_get (show 3≠15 by decide)).symm.trans e7) (by rw [m15];decide)⟩,(by simp only [set_other_get (show 3≠14 by decide)];exact bc),(fun c h1 h2 h3=>gr c h1 h2 h3)⟩
      unfold execOp
      simp [e22,go_sem]
    · obtain ⟨u23,e23,x23⟩:=h.new 3 _ 23 rfl rfl (haf ⟨3,.data⟩ (by simp) rfl)
      have y23:u23=(vP cv.pb cv.po):=x23.1
      subst y23
      have m15:=h.later 15 4 _ ⟨4,.phase⟩ rfl (by simp) rfl rfl hl
      refine wp_val (v:=vP cv.pb (cv.po + 1)) (w':=W) ?_ ⟨_,rfl,⟨rfl,fun e=>absurd e (by decide)⟩,fun _ _ h=>h,g1,g0,b0,b1,b2,⟨fun _=>(b3.1 m15),fun e7=>absurd ((set_other_get (show 4≠15 by decide)).symm.trans e7) (by rw [m15];decide)⟩,(by simp only [set_other_get (show 4≠14 by decide)];exact bc),(fun c h1 h2 h3=>gr c h1 h2 h3)⟩
      unfold execOp
      simp [e23,go_sem]
    · obtain ⟨u24,e24,x24⟩:=h.new 4 _ 24 rfl rfl (haf ⟨4,.data⟩ (by simp) rfl)
      have y24:u24=(vP cv.pb (cv.po + 1)):=x24.1
      subst y24
      have m15:=h.later 15 5 _ ⟨5,.phase⟩ rfl (by simp) rfl rfl hl
      have c_:=b2
      have c_1:=(cellqF (o:=cv.po + 1) (c_.trans HOF.out.symm)).trans NF5.out;have c_2:=(cellqF (o:=cv.po + 2) (c_.trans HOF.out.symm)).trans AF5.out
      refine wp_val (v:=vS nmf) (w':=W) ?_ ⟨_,rfl,⟨rfl,fun e=>absurd e (by decide)⟩,fun _ _ h=>h,g1,g0,b0,b1,b2,⟨fun _=>(b3.1 m15),fun e7=>absurd ((set_other_get (show 5≠15 by decide)).symm.trans e7) (by rw [m15];decide)⟩,(by simp only [set_other_get (show 5≠14 by decide)];exact bc),(fun c h1 h2 h3=>gr c h1 h2 h3)⟩
      unfold execOp
      simp [e24,c_1,go_sem]
    · have e8:=h.given 8 _ rfl (by kernel_rfl)
      have m15:=h.later 15 6 _ ⟨6,.phase⟩ rfl (by simp) rfl rfl hl
      refine wp_val (v:=vP T 0) (w':=W) ?_ ⟨_,rfl,⟨rfl,fun e=>absurd e (by decide)⟩,fun _ _ h=>h,g1,g0,b0,b1,b2,⟨fun _=>(b3.1 m15),fun e7=>absurd ((set_other_get (show 6≠15 by decide)).symm.trans e7) (by rw [m15];decide)⟩,(by simp only [set_other_get (show 6≠14 by decide)];exact bc),(fun c h1 h2 h3=>gr c h1 h2 h3)⟩
      unfold execOp
      simp [e8,go_sem]
    · obtain ⟨u26,e26,x26⟩:=h.new 6 _ 26 rfl rfl (haf ⟨6,.data⟩ (by simp) rfl)
      have y26:u26=(vP T 0):=x26.1
      subst y26
      have m15:=h.later 15 7 _ ⟨7,.phase⟩ rfl (by simp) rfl rfl hl
      have c_:=b1
      obtain ⟨c0,c1,c2,c3,c4,c5,c6,c7,c8,c9,c10,c11⟩:=bk12 c_
      refine wp_val (v:=vP cv.pb cv.po) (w':=W) ?_ ⟨_,rfl,⟨rfl,fun e=>absurd e (by decide)⟩,fun _ _ h=>h,g1,g0,b0,b1,b2,⟨fun _=>(b3.1 m15),fun e7=>absurd ((set_other_get (show 7≠15 by decide)).symm.trans e7) (by rw [m15];decide)⟩,(by simp only [set_other_get (show 7≠14 by decide)];exact bc),(fun c h1 h2 h3=>gr c h1 h2 h3)⟩
      unfold execOp
      simp [e26,c0,go_sem]
    · obtain ⟨u27,e27,x27⟩:=h.new 7 _ 27 rfl rfl (haf ⟨7,.data⟩ (by simp) rfl)
      have y27:u27=(vP cv.pb cv.po):=x27.1
      subst y27
      have m15:=h.later 15 8 _ ⟨8,.phase⟩ rfl (by simp) rfl rfl hl
      refine wp_val (v:=vP cv.pb cv.po) (w':=W) ?_ ⟨_,rfl,⟨rfl,fun e=>absurd e (by decide)⟩,fun _ _ h=>h,g1,g0,b0,b1,b2,⟨fun _=>(b3.1 m15),fun e7=>absurd ((set_other_get (show 8≠15 by decide)).symm.trans e7) (by rw [m15];decide)⟩,(by simp only [set_other_get (show 8≠14 by decide)];exact bc),(fun c h1 h2 h3=>gr c h1 h2 h3)⟩
      unfold execOp
      simp [e27,go_sem]
    · obtain ⟨u28,e28,x28⟩:=h.new 8 _ 28 rfl rfl (haf ⟨8,.data⟩ (by simp) rfl)
      have y28:u28=(vP cv.pb cv.po):=x28.1
      subst y28
      have m15:=h.later 15 9 _ ⟨9,.phase⟩ rfl (by simp) rfl rfl hl
      refine wp_val (v:=vP cv.pb (cv.po + 2)) (w':=W) ?_ ⟨_,rfl,⟨rfl,fun e=>absurd e (by decide)⟩,fun _ _ h=>h,g1,g0,b0,b1,b2,⟨fun _=>(b3.1 m15),fun e7=>absurd ((set_other_get (show 9≠15 by decide)).symm.trans e7) (by rw [m15];decide)⟩,(by simp only [set_other_get (show 9≠14 by decide)];exact bc),(fun c h1 h2 h3=>gr c h1 h2 h3)⟩
      unfold execOp
      simp [e28,go_sem]
    · obtain ⟨u29,e29,x29⟩:=h.new 9 _ 29 rfl rfl (haf ⟨9,.data⟩ (by simp) rfl)
      have y29:u29=(vP cv.pb (cv.po + 2)):=x29.1
      subst y29
      have m15:=h.later 15 10 _ ⟨10,.phase⟩ rfl (by simp) rfl rfl hl
      have c_:=b2
      have c_1:=(cellqF (o:=cv.po + 1) (c_.trans HOF.out.symm)).trans NF5.out;have c_2:=(cellqF (o:=cv.po + 2) (c_.trans HOF.out.symm)).trans AF5.out
      refine wp_val (v:=vS atf) (w':=W) ?_ ⟨_,rfl,⟨rfl,fun e=>absurd e (by decide)⟩,fun _ _ h=>h,g1,g0,b0,b1,b2,⟨fun _=>(b3.1 m15),fun e7=>absurd ((set_other_get (show 10≠15 by decide)).symm.trans e7) (by rw [m15];decide)⟩,(by simp only [set_other_get (show 10≠14 by decide)];exact bc),(fun c h1 h2 h3=>gr c h1 h2 h3)⟩
      unfold execOp
      simp [e29,c_2,go_sem]
    · have e8:=h.given 8 _ rfl (by kernel_rfl)
      have m15:=h.later 15 11 _ ⟨11,.phase⟩ rfl (by simp) rfl rfl hl
      refine wp_val (v:=vP T 1) (w':=W) ?_ ⟨_,rfl,⟨rfl,fun e=>absurd e (by decide)⟩,fun _ _ h=>h,g1,g0,b0,b1,b2,⟨fun _=>(b3.1 m15),fun e7=>absurd ((set_other_get (show 11≠15 by decide)).symm.trans e7) (by rw [m15];decide)⟩,(by simp only [set_other_get (show 11≠14 by decide)];exact bc),(fun c h1 h2 h3=>gr c h1 h2 h3)⟩
      unfold execOp
      simp [e8,go_sem]
    · obtain ⟨u31,e31,x31⟩:=h.new 11 _ 31 rfl rfl (haf ⟨11,.data⟩ (by simp) rfl)
      have y31:u31=(vP T 1):=x31.1
      subst y31
      have m15:=h.later 15 12 _ ⟨12,.phase⟩ rfl (by simp) rfl rfl hl
      have c_:=b1
      obtain ⟨c0,c1,c2,c3,c4,c5,c6,c7,c8,c9,c10,c11⟩:=bk12 c_
      refine wp_val (v:=.agg (eA cv.k cv.it.kind cv.it.n cv.it.s cv.nm cv.at_ cv.n cv.ax cv.tk cv.tn cv.aa cv.am cv.ac)) (w':=W) ?_ ⟨_,rfl,⟨rfl,fun e=>absurd e (by decide)⟩,fun _ _ h=>h,g1,g0,b0,b1,b2,⟨fun _=>(b3.1 m15),fun e7=>absurd ((set_other_get (show 12≠15 by decide)).symm.trans e7) (by rw [m15];decide)⟩,(by simp only [set_other_get (show 12≠14 by decide)];exact bc),(fun c h1 h2 h3=>gr c h1 h2 h3)⟩
      unfold execOp
      simp [e31,c1,c2,c3,c4,c5,c6,c7,c8,c9,c10,c11,go_sem]
    · have e5:=h.given 5 _ rfl (by kernel_rfl)
      have m15:=h.later 15 13 _ ⟨13,.phase⟩ rfl (by simp) rfl rfl hl
      have c_:=b3.1 m15
      obtain ⟨c0,c1,c2,c3,c4,c5,c6,c7,c8,c9,c10,cf,_⟩:=bk11 c_
      refine wp_val (v:=.agg (eA k2 i2.kind i2.n i2.s nm2 at2 g2 ax2 tk2 tn2 aa2 am2 ac2)) (w':=W) ?_ ⟨_,rfl,⟨rfl,fun e=>absurd e (by decide)⟩,fun _ _ h=>h,g1,g0,b0,b1,b2,⟨fun _=>(b3.1 m15),fun e7=>absurd ((set_other_get (show 13≠15 by decide)).symm.trans e7) (by rw [m15];decide)⟩,(by simp only [set_other_get (show 13≠14 by decide)];exact bc),(fun c h1 h2 h3=>gr c h1 h2 h3)⟩
      unfold execOp
      simp [e5,c0,c1,c2,c3,c4,c5,c6,c7,c8,c9,c10,go_sem]
    · obtain ⟨u20,e20,x20⟩:=h.new 0 _ 20 rfl rfl (haf ⟨0,.data⟩ (by simp) rfl)
      have y20:u20=(vP lb 0):=x20.1
      subst y20
      obtain ⟨u25,e25,x25⟩:=h.new 5 _ 25 rfl rfl (haf ⟨5,.data⟩ (by simp) rfl)
      have y25:u25=(vS nmf):=x25.1
      subst y25
      obtain ⟨u30,e30,x30⟩:=h.new 10 _ 30 rfl rfl (haf ⟨10,.data⟩ (by simp) rfl)
      have y30:u30=(vS atf):=x30.1
      subst y30
      obtain ⟨u32,e32,x32⟩:=h.new 12 _ 32 rfl rfl (haf ⟨12,.data⟩ (by simp) rfl)
      have y32:u32=(.agg (eA cv.k cv.it.kind cv.it.n cv.it.s cv.nm cv.at_ cv.n cv.ax cv.tk cv.tn cv.aa cv.am cv.ac)):=x32.1
      subst y32
      obtain ⟨u33,e33,x33⟩:=h.new 13 _ 33 rfl rfl (haf ⟨13,.data⟩ (by simp) rfl)
      have y33:u33=(.agg (eA k2 i2.kind i2.n i2.s nm2 at2 g2 ax2 tk2 tn2 aa2 am2 ac2)):=x33.1
      subst y33
      have m15:=h.later 15 14 _ ⟨14,.phase⟩ rfl (by simp) rfl rfl hl
      have m14:l.getD 14 false=false:=by rw [Array.getD_eq_getD_getElem?] at hl ⊢;cases hx:l[14]? with | none=>rfl | some bb=>rw [hx] at hl;exact hl
      have o1:one true=1:=rfl
      have o0:one false=0:=rfl
      have o_14:=one_le (l.getD 14 false)
      have ob:(p + one (l.getD 14 false)) + 1<=700:=by rw [m14,o0];omega
      have oc:p + one ((l.setIfInBounds 14 true).getD 14 false)=(p + one (l.getD 14 false)) + 1:=by rw [set_this_get (i:=14) (n:=16) hsz (by decide),m14,o0,o1] <;> omega
      refine wp_enter (f:=92) (args:=#[vP lb 0,vS nmf,vS atf,.agg (eA cv.k cv.it.kind cv.it.n cv.it.s cv.nm cv.at_ cv.n cv.ax cv.tk cv.tn cv.aa cv.am cv.ac),.agg (eA k2 i2.kind i2.n i2.s nm2 at2 g2 ax2 tk2 tn2 aa2 am2 ac2)]) (w':=W) ?_ ((CC.out W (p + one (l.getD 14 false)) bc ob).mono ?_)
      · unfold execOp
        simp [e20,e25,e30,e32,e33,go_sem]
      · rintro e W' ⟨rfl,hk,hs⟩
        exact ⟨_,rfl,_,rfl,⟨trivial,fun _=>⟨W.heap.size + 3,rfl,by omega,hs⟩⟩,fun j u hd=>⟨hd.1,fun e=>by obtain ⟨n14,ev,p_n14,f_n14⟩:=hd.2 e;exact ⟨n14,ev,p_n14,(hk.2.1 _ (gI (f_n14)).1 (by omega)).trans (f_n14)⟩⟩,g1.trans hk.2.2,Nat.le_trans g0 hk.2.2.size,(hk.2.1 _ (gI (b0)).1 (by omega)).trans (b0),(hk.2.1 _ (gI (b1)).1 (by omega)).trans (b1),(hk.2.1 _ (gI (b2)).1 (by omega)).trans (b2),⟨fun _=>(hk.2.1 _ (gI ((b3.1 m15))).1 (by omega)).trans ((b3.1 m15)),fun e7=>absurd ((set_other_get (show 14≠15 by decide)).symm.trans e7) (by rw [m15];decide)⟩,(by rw [oc];exact hk.1),(fun c h1 h2 h3=>(hk.2.1 c (Nat.lt_of_lt_of_le h1 g0) h2).trans (gr c h1 h2 h3))⟩
    · have e5:=h.given 5 _ rfl (by kernel_rfl)
      obtain ⟨u34,e34,x34⟩:=h.new 14 _ 34 rfl rfl (haf ⟨14,.phase⟩ (by simp) rfl)
      obtain ⟨n14,rfl,p_n14,f_n14⟩:=x34.2 rfl
      have m15:l.getD 15 false=false:=by rw [Array.getD_eq_getD_getElem?] at hl ⊢;cases hx:l[15]? with | none=>rfl | some bb=>rw [hx] at hl;exact hl
      have c_:=b3.1 m15
      obtain ⟨c0,c1,c2,c3,c4,c5,c6,c7,c8,c9,c10,cf,_⟩:=bk11 c_
      obtain ⟨W',hW'⟩:∃ V,V=(((((((((((W).setCell ⟨w.heap.size + 1,0,none⟩ (vI 5)).setCell ⟨w.heap.size + 1,1,none⟩ (vI 0)).setCell ⟨w.heap.size + 1,2,none⟩ (vI 0)).setCell ⟨w.heap.size + 1,3,none⟩ (vE)).setCell ⟨w.heap.size + 1,4,none⟩ (vS nmf)).setCell ⟨w.heap.size + 1,5,none⟩ (vS atf)).setCell ⟨w.heap.size + 1,6,none⟩ (vI 0)).setCell ⟨w.heap.size + 1,7,none⟩ (vI 0)).setCell ⟨w.heap.size + 1,8,none⟩ (vI 0)).setCell ⟨w.heap.size + 1,9,none⟩ (vE)).setCell ⟨w.heap.size + 1,10,none⟩ (vL n14 0 2 2):=⟨_,rfl⟩
      have hP:W'=putL W (w.heap.size + 1) 0 (eL 5 0 0 ⟨#[]⟩ nmf atf 0 0 0 ⟨#[]⟩ (some ⟨n14,0,none⟩) 2 2):=hW'
      refine wp_skip (w':=W') ?_ ⟨undef,rfl,⟨trivial,fun e=>absurd e (by decide)⟩,fun j u hd=>⟨hd.1,fun e=>by obtain ⟨n14,ev,p_n14,f_n14⟩:=hd.2 e;exact ⟨n14,ev,p_n14,(by rw [hP];exact (putL_other (by omega) _ _ _).trans (f_n14))⟩⟩,(by rw [hP];exact putL_below (by omega) _ _ _ g1),Nat.le_trans g0 (by rw [hP];exact (putL_below (B:=0) (w0:=W) (Nat.zero_le _) _ _ _ (Below.refl _ _)).size),(by rw [hP];exact (putL_other (by omega) _ _ _).trans (b0)),(by rw [hP];exact (putL_other (by omega) _ _ _).trans (b1)),(by rw [hP];exact (putL_other (by omega) _ _ _).trans (b2)),⟨fun e7=>absurd ((set_this_get (i:=15) (n:=16) hsz (by decide)).symm.trans e7) (by decide),fun _=>⟨n14,(by rw [hP];exact putL_same c_ _ rfl),p_n14,(by rw [hP];exact (putL_other (by omega) _ _ _).trans (f_n14))⟩⟩,(by simp only [set_other_get (show 15≠14 by decide)];exact (by rw [hP];exact (putL_other (by omega) _ _ _).trans (bc))),(fun c h1 h2 h3=>(by rw [hP];exact (putL_other h3 _ _ _).trans (gr c h1 h2 h3)))⟩
      rw [hW']
      clear hP hW'
      unfold execOp
      simp [e5,e34,c0,c1,c2,c3,c4,c5,c6,c7,c8,c9,c10,cf,go_sem]
  · intro v W3 hv hs hg
    obtain ⟨u1,u0,y0,y1,yF,y2,yc,yr⟩:=hg
    obtain ⟨n14,z1,z2,z3⟩:=y2.2 rfl
    have yc':W3.heap[lb]?=some (.cells #[m1,m2,m3,vI ((p + 1:Nat):Int),vI 0] 73):=yc
    clear hv hs yc y2 CC HL1c
    gi_wp2
    refine ⟨⟨u0,fun k o hk h0 ho=>(yr k (gI h0).1 (by omega) (by omega)).trans h0⟩,⟨yr _ (by omega) (by omega) (by omega),yr b (by omega) hbl (by omega)⟩,p + 1,_,yc',z1,y0,(yr _ (by omega) (by omega) (by omega)).trans HR1.out,fun c hc hn=>(yr c (by omega) hn (by omega)).trans (HO1.out c hc hn),HB1.out.trans u1,Nat.le_trans g7 u0,.inr ⟨rfl,rfl,n14,rfl,Nat.le_trans g7 z2,z3⟩⟩
 case done =>
  rintro D ys W hD hS hI hK
  obtain ⟨q,Bd,g1,g2',g3,g4,g5,g6,g7,g8⟩:=hI
  obtain ⟨e1,e2,n14,rfl,z2,z3⟩:ys.length=1/\q=p + 1/\∃ n14:Nat,Bd=(eA 5 0 0 ⟨#[]⟩ nmf atf 0 0 0 ⟨#[]⟩ (some ⟨n14,0,none⟩) 2 2)/\W0.heap.size<=n14/\W.heap[n14]?=some (.cells #[vI (cv.k),vI (cv.it.kind),vI (cv.it.n),vS cv.it.s,vS cv.nm,vS cv.at_,vI (cv.n),vI (cv.ax),vI (cv.tk),vS cv.tn,.slice cv.aa cv.am cv.ac,vI (k2),vI (i2.kind),vI (i2.n),vS i2.s,vS nm2,vS at2,vI (g2),vI (ax2),vI (tk2),vS tn2,.slice aa2 am2 ac2] 29):=by
   rcases g8 with h | h
   · exfalso;rw [h.1] at hS;have:=congrArg List.length hS;rw [dn_length] at this;cases this
   · exact h
  obtain rfl:p + 1=q:=e2.symm
  have HK2:=hidC hK
  have HR2:=hidC g4
  obtain ⟨c0,c1,c2,c3,c4,c5,c6,c7,c8,c9,c10,_,_⟩:=bk11 g2'
  obtain ⟨r0,r1,r2,r3,r4,r5,r6,r7,r8,r9,r10,rf,_⟩:=bk11 g4
  have HL2:=hidC g1
  have HO2:=hidC g5
  have HB2:=hidC g6
  have HZ3:=hidC z3
  clear g1 g2' g3 g4 g5 g6 g8 hK z3
  gi_wp2
  generalize hW2:World.setCell _ _ _=W2
  have hP:W2=putL W (w.heap.size + 2) 0 (eL 5 0 0 ⟨#[]⟩ nmf atf 0 0 0 ⟨#[]⟩ (some ⟨n14,0,none⟩) 2 2):=hW2.symm
  have HK3:W2.heap[D]?=some (.deferred (some [])):=by rw [hP];exact (putL_other (by omega) _ _ _).trans HK2.out
  have HR3:W2.heap[w.heap.size + 2]?=some (.cells (eA 5 0 0 ⟨#[]⟩ nmf atf 0 0 0 ⟨#[]⟩ (some ⟨n14,0,none⟩) 2 2) 29):=by rw [hP];exact putL_same HR2.out _ rfl
  have hO3:∀ c,c≠w.heap.size + 2->W2.heap[c]?=W.heap[c]?:=fun c h=>by rw [hP];exact putL_other h _ _ _
  have hB3:Below lb w W2:=by rw [hP];exact putL_below (by omega) _ _ _ HB2.out
  clear hW2 hP
  refine ⟨by simp,.inl ⟨_,_,rfl,run_takeDeferred HK3,?_⟩⟩
  have hD3:∀ c,c≠D->(W2.putObj D (.deferred none)).heap[c]?=W2.heap[c]?:=fun c h=>World.putObj_heap_other h
  have h9D:n14≠D:=fun e=>by have:=HZ3.out;rw [e,HK2.out] at this;cases this
  have hz4:lb<=W2.heap.size:=Nat.le_trans (Nat.le_of_lt l6) hB3.size
  obtain ⟨y0,y1,y2,y3,y4,y5,y6,y7,y8,y9,y10,_,_⟩:=bk11 ((hD3 (w.heap.size + 2) (by omega)).trans HR3)
  refine ⟨.agg (eA 5 0 0 ⟨#[]⟩ nmf atf 0 0 0 ⟨#[]⟩ (some ⟨n14,0,none⟩) 2 2),by simp [results,Tryz.results99,go_sem,y0,y1,y2,y3,y4,y5,y6,y7,y8,y9,y10],?_⟩
  exact ⟨n14,rfl,⟨(hD3 lb (by omega)).trans ((hO3 lb (by omega)).trans HL2.out),fun c hc hn=>(hD3 c (by omega)).trans ((hO3 c (by omega)).trans (HO2.out c hc hn)),hB3.grown (grownBy_putObj' W2 D _) hz4 (fun k e=>by cases e;omega)⟩,by omega,(hD3 n14 h9D).trans ((hO3 n14 (by omega)).trans HZ3.out)⟩
 case stop =>
  rintro D c pre W _ _ h _
  exact h.elim
end Go.Proofs.YtmcmbdkpfcibkaaGreatDoor
