import Derived.Test.YtmcmbdkpfcibkaaGreatDoorPrBin1
import Derived.Test.YtmcmbdkpfcibkaaGreatDoorCkSt
import Derived.Test.YtmcmbdkpfcibkaaGreatDoorPrSteps
import Derived.Test.YtmcmbdkpfcibkaaGreatDoorRgIn
import Derived.Defers
set_option linter.unusedVariables false
set_option maxHeartbeats 6400000
namespace Go.Proofs.YtmcmbdkpfcibkaaGreatDoor
set_option maxRecDepth 100000
open Go.RowKit
theorem getD_ofP {l:Array Bool} {i:Nat} (hl:l.getD i true=false):l.getD i false=false:=by
 rw [Array.getD_eq_getD_getElem?] at hl ⊢
 cases hx:l[i]? with
 | none=>rfl
 | some v=>rw [hx] at hl;exact hl
def TreH (wn:World) (p:Ph) (W:World) (u:List Value):Prop:=∃ hi,p.V W (fun b=>wn.heap.size<=b/\b<hi) u/\hi<=W.heap.size
theorem TreH.keep {wn:World} {p:Ph} {W W':World} {u:List Value} (h:TreH wn p W u) (hs:W.heap.size<=W'.heap.size) (hk:∀ b,wn.heap.size<=b->b<W.heap.size->W'.heap[b]?=W.heap[b]?):TreH wn p W' u:=by
 obtain ⟨hi,h1,h2⟩:=h
 exact ⟨hi,Ph.V.keep (fun _ q=>q) (fun b q=>hk b q.1 (by omega)) h1,by omega⟩
def FilD (wn:World) (pb x k g cc:Nat) (p:Ph) (j:Nat) (v:Value) (W:World):Prop:=match j with
 | 0=>v=vP x 9
 | 1=>v=vL g 0 (k + 1) cc
 | 2=>v=vP pb 0
 | 3=>∃ u,v=.agg u.toArray/\TreH wn p W u
 | 4=>∃ n4 u,v=vL n4 0 1 1/\wn.heap.size<=n4/\W.heap[n4]?=some (.cells u.toArray 44)/\TreH wn p W u
 | 6=>v=vP x 9
 | _=>True
theorem FilD.keep {wn:World} {pb x k g cc:Nat} {p:Ph} {W W':World} (hs:W.heap.size<=W'.heap.size) (hk:∀ b,wn.heap.size<=b->b<W.heap.size->W'.heap[b]?=W.heap[b]?):∀ j v,FilD wn pb x k g cc p j v W->FilD wn pb x k g cc p j v W':=by
 intro j v h
 unfold FilD at h ⊢
 split <;> simp only at h ⊢ <;> try exact h
 · obtain ⟨u,h1,h2⟩:=h
   exact ⟨u,h1,h2.keep hs hk⟩
 · obtain ⟨n4,u,h1,h2,h3,h4⟩:=h
   exact ⟨n4,u,h1,h2,(hk n4 h2 (gI h3).1).trans h3,h4.keep hs hk⟩
structure FilG (w wn:World) (pb b c:Nat) (T:List Tok) (st st':Pst) (r q x lo1 k g cc:Nat) (A:Nat->Ph) (l:Array Bool) (a:Act) (W:World):Prop where
 P0:l.getD 3 false=false->PaS W pb b c T st
 P1:l.getD 3 false=true->PaS W pb b c T st'
 G:GrowA pb w W
 R:PhZ W r
 Z:Leave W pb q
 S:wn.heap.size<=W.heap.size
 X0:l.getD 7 false=false->PhB W x (pA 22 0 0 ⟨#[]⟩ ⟨#[]⟩ 0 0 0 ⟨#[]⟩ (some ⟨g,0,none⟩) (k + 1) cc none 0 0)
 L0:l.getD 5 false=false->LOwn 44 11 (exc x (PhE A)) W lo1 (vL g 0 (k + 1) cc) (k + 1)
 L1:l.getD 5 false=true->l.getD 7 false=false->∃ g7 c7,a.tmps[27]?=some (vL g7 0 (k + 1 + 1) c7)/\(lo1<=g7/\g7<W.heap.size/\g7≠x)/\LOwn 44 11 (exc x (PhE A)) W lo1 (vL g7 0 (k + 1 + 1) c7) (k + 1 + 1)
 X1:l.getD 7 false=true->∃ g7 c7,PhB W x (pA 22 0 0 ⟨#[]⟩ ⟨#[]⟩ 0 0 0 ⟨#[]⟩ (some ⟨g7,0,none⟩) (k + 1 + 1) c7 none 0 0)/\(lo1<=g7/\g7<W.heap.size/\g7≠x)/\LOwn 44 11 (exc x (PhE A)) W lo1 (vL g7 0 (k + 1 + 1) c7) (k + 1 + 1)
theorem FilG.pure {w wn:World} {pb b c:Nat} {T:List Tok} {st st':Pst} {r q x lo1 k g cc:Nat} {A:Nat->Ph} {l:Array Bool} {a:Act} {W:World} (h:FilG w wn pb b c T st st' r q x lo1 k g cc A l a W) {i s:Nat} {v:Value} (h3:i≠3) (h5:i≠5) (h7:i≠7) (hs:s≠27):FilG w wn pb b c T st st' r q x lo1 k g cc A (l.setIfInBounds i true) (a.put (some s) v) W:=by
 refine ⟨?_,?_,h.G,h.R,h.Z,h.S,?_,?_,?_,?_⟩
 · rw [set_other_get h3];exact h.P0
 · rw [set_other_get h3];exact h.P1
 · rw [set_other_get h7];exact h.X0
 · rw [set_other_get h5];exact h.L0
 · rw [set_other_get h5,set_other_get h7,put_other hs];exact h.L1
 · rw [set_other_get h7];exact h.X1
theorem FilG.below {w wn:World} {pb b c:Nat} {T:List Tok} {st st':Pst} {r q x lo1 k g cc:Nat} {A:Nat->Ph} {l:Array Bool} {a:Act} {W W':World} (h:FilG w wn pb b c T st st' r q x lo1 k g cc A l a W) (hb:Below W.heap.size W W'):FilG w wn pb b c T st st' r q x lo1 k g cc A l a W':=by
 refine ⟨fun e=>(h.P0 e).below hb,fun e=>(h.P1 e).below hb,h.G.below hb,h.R.below hb,h.Z.below hb,Nat.le_trans h.S hb.size,fun e=>(h.X0 e).below hb,fun e=>(h.L0 e).below (exc.keeps (PhE.keeps A)) hb,fun e e2=>?_,fun e=>?_⟩
 · obtain ⟨g7,c7,h1,h2,h3⟩:=h.L1 e e2
   exact ⟨g7,c7,h1,⟨h2.1,Nat.lt_of_lt_of_le h2.2.1 hb.size,h2.2.2⟩,h3.below (exc.keeps (PhE.keeps A)) hb⟩
 · obtain ⟨g7,c7,h1,h2,h3⟩:=h.X1 e
   exact ⟨g7,c7,h1.below hb,⟨h2.1,Nat.lt_of_lt_of_le h2.2.1 hb.size,h2.2.2⟩,h3.below (exc.keeps (PhE.keeps A)) hb⟩
theorem FilG.call {w wn:World} {pb b c:Nat} {T:List Tok} {st st':Pst} {r q x lo1 k g cc:Nat} {A:Nat->Ph} {l:Array Bool} {a:Act} {W W':World} (h:FilG w wn pb b c T st st' r q x lo1 k g cc A l a W) (hz:l.size=8) (m5:l.getD 5 false=false) (m7:l.getD 7 false=false) (hp:PaS W' pb b c T st') (hg:GrowA pb W W') (hrp:r≠pb) (hxp:x≠pb) (hlp:pb<lo1) {v:Value}:FilG w wn pb b c T st st' r q x lo1 k g cc A (l.setIfInBounds 3 true) (a.put (some 25) v) W':=by
 refine ⟨fun e=>?_,fun _=>hp,h.G.trans hg,h.R.grow hg hrp,h.Z.grow hg,Nat.le_trans h.S hg.1,?_,?_,fun e=>?_,fun e=>?_⟩
 · rw [set_this_get hz (by decide)] at e;cases e
 · rw [set_other_get (by decide)];exact fun e=>(h.X0 e).grow hg hxp
 · rw [set_other_get (by decide)];exact fun e=>(h.L0 e).grow (exc.keeps (PhE.keeps A)) hg hlp
 · rw [set_other_get (by decide),m5] at e;cases e
 · rw [set_other_get (by decide),m7] at e;cases e
theorem FilG.app {w wn:World} {pb b c:Nat} {T:List Tok} {st st':Pst} {r q x lo1 k g cc:Nat} {A:Nat->Ph} {l:Array Bool} {a:Act} {W W':World} (h:FilG w wn pb b c T st st' r q x lo1 k g cc A l a W) (hz:l.size=8) (ht:27<a.tmps.size) (m3:l.getD 3 false=true) (m7:l.getD 7 false=false) (hw:W.grownBy W' (some g)) (hgw:w.heap.size<=g) (hgx:g≠x) (hgr:g≠r) (hgp:g≠pb) (hgb:g≠b) (hgq:g≠q) {g7 c7:Nat} (h7:lo1<=g7/\g7<W'.heap.size/\g7≠x) (hl:LOwn 44 11 (exc x (PhE A)) W' lo1 (vL g7 0 (k + 1 + 1) c7) (k + 1 + 1)):FilG w wn pb b c T st st' r q x lo1 k g cc A (l.setIfInBounds 5 true) (a.put (some 27) (vL g7 0 (k + 1 + 1) c7)) W':=by
 have kb:∀ z,z<W.heap.size->z≠g->W'.heap[z]?=W.heap[z]?:=fun z h1 h2=>hw.block z h1 (fun e=>h2 (Option.some.inj e))
 have hp:=h.P1 m3
 have hx:=h.X0 m7
 refine ⟨?_,?_,⟨Nat.le_trans h.G.1 hw.size,hw.os.trans h.G.2.1,hw.tape.trans h.G.2.2.1,hw.output.trans h.G.2.2.2.1,fun z h1 h2=>(kb z (Nat.lt_of_lt_of_le h1 h.G.1) (by omega)).trans (h.G.2.2.2.2 z h1 h2)⟩,(kb r h.R.lt (Ne.symm hgr)).trans h.R,?_,Nat.le_trans h.S hw.size,?_,?_,?_,?_⟩
 · rw [set_other_get (by decide),m3];intro e;cases e
 · exact fun _=>hp.same hw.size (kb pb hp.pl (Ne.symm hgp)) (kb b hp.bl (Ne.symm hgb))
 · exact ⟨(World.cell?_of_block (a:=⟨q,0,none⟩) (kb q h.Z.2.1 (Ne.symm hgq))).trans h.Z.1,Nat.lt_of_lt_of_le h.Z.2.1 hw.size,h.Z.2.2⟩
 · rw [set_other_get (by decide)];exact fun _=>(kb x hx.lt (Ne.symm hgx)).trans hx
 · intro e;rw [set_this_get hz (by decide)] at e;cases e
 · exact fun _ _=>⟨g7,c7,put_this ht,h7,hl⟩
 · rw [set_other_get (by decide),m7];intro e;cases e
theorem FilG.store {w wn:World} {pb b c:Nat} {T:List Tok} {st st':Pst} {r q x lo1 k g cc:Nat} {A:Nat->Ph} {l:Array Bool} {a:Act} {W:World} (h:FilG w wn pb b c T st st' r q x lo1 k g cc A l a W) (hz:l.size=8) (m3:l.getD 3 false=true) (m5:l.getD 5 false=true) (m7:l.getD 7 false=false) (hxp:x≠pb) (hxb:x≠b) (hxw:w.heap.size<=x) (hrx:r≠x) (hqx:q≠x) {g7 c7:Nat} (e7:a.tmps[27]?=some (vL g7 0 (k + 1 + 1) c7)) {a':Act}:FilG w wn pb b c T st st' r q x lo1 k g cc A (l.setIfInBounds 7 true) a' (W.setCell ⟨x,9,none⟩ (vL g7 0 (k + 1 + 1) c7)):=by
 obtain ⟨g8,c8,h1,h2,h3⟩:=h.L1 m5 m7
 rw [e7] at h1
 obtain ⟨rfl,rfl⟩:g7=g8/\c7=c8:=by
  have k:=Option.some.inj h1
  simp only [Value.slice.injEq,Option.some.injEq,Addr.mk.injEq,and_true,true_and] at k
  exact k
 refine ⟨?_,fun _=>(h.P1 m3).setR hxp hxb 9 _,h.G.setR hxw 9 _,h.R.setO hrx 9 _,h.Z.setR (Ne.symm hqx) 9 _,by simpa using h.S,?_,?_,?_,fun _=>⟨g7,c7,(h.X0 m7).setAt 9 _,⟨h2.1,by simpa using h2.2.1,h2.2.2⟩,h3.setX (PhE.keeps A) (fun e=>h2.2.2 (Option.some.inj e)) 9 _⟩⟩
 · rw [set_other_get (by decide),m3];intro e;cases e
 · intro e;rw [set_this_get hz (by decide)] at e;cases e
 · rw [set_other_get (by decide),m5];intro e;cases e
 · intro _ e;rw [set_this_get hz (by decide)] at e;cases e
def FilI (w:World) (pb b c:Nat) (T:List Tok) (ST:Nat->Pst) (r q x lo1:Nat) (A:Nat->Ph) (n:Nat) (W:World):Prop:=∃ k,k<=n/\∃ g cc,(lo1<=g/\g<W.heap.size/\g≠x)/\PaS W pb b c T (ST k)/\GrowA pb w W/\PhZ W r/\Leave W pb q/\PhB W x (pA 22 0 0 ⟨#[]⟩ ⟨#[]⟩ 0 0 0 ⟨#[]⟩ (some ⟨g,0,none⟩) (k + 1) cc none 0 0)/\LOwn 44 11 (exc x (PhE A)) W lo1 (vL g 0 (k + 1) cc) (k + 1)
theorem step_filter {pb b c:Nat} {T:List Tok} {st:Pst} {n:Nat} {ST S3:Nat->Pst} {A:Nat->Ph} {s0:Pst} {p:Ph} {u1s:ByteArray} {u1k u1n:Int} (hT:T.length<=200) (hat:st.at'<=300) (ho:st.opn<=100) (hop:1<=(ST n).opn/\(ST n).opn<=200) (hS:∀ k,k<=n->(ST k).at'<=299) (hA0:A 0=p) (hn2:n<=1000) (he:enterM T st (stepB (seeM T st 0))=s0) (hu1:seeM T (ST 0) 0=⟨u1k,u1s,u1n⟩) (yb:eqT ⟨u1k,u1s,u1n⟩ ⟨5,⟨#[91]⟩,0⟩=true) (hbk:∀ k,k<n->eqT (seeM T (ST k) 0) ⟨5,⟨#[91]⟩,0⟩=true/\wantM T (S3 k) ⟨5,⟨#[93]⟩,0⟩=ST (k + 1)/\(S3 k).at'<=300) (hlv:∀ k,k<n->RunT pb b c T 20 #[vP pb 0] { ST k with at':=(ST k).at' + 1 } (S3 k) (A (k + 1))) (nb:eqT (seeM T (ST n) 0) ⟨5,⟨#[91]⟩,0⟩=false) (hmono:∀ k,k<n->(ST k).at'<(ST (k + 1)).at') (hlu:RunT pb b c T 172 #[vP pb 0] s0 (ST 0) p):RunT pb b c T 169 #[vP pb 0] st { ST n with opn:=(ST n).opn - 1 } (phN 22 ⟨0,0,⟨#[]⟩⟩ ⟨#[]⟩ 0 0 0 ⟨#[]⟩ (n + 1) A):=by
 intro w h htb
 have HTB:Hid (RTab w pb):=htb
 clear htb
 have HLU:Hid (RunT pb b c T 172 #[vP pb 0] s0 (ST 0) p):=hlu
 clear hlu
 have HBK:=HidOf hbk
 have HLV:=HidOf hlv
 have HNB:=HidOf nb
 clear hbk hlv nb
 have hat1:(ST 0).at'<=300:=Nat.le_trans (hS 0 (Nat.zero_le _)) (by decide)
 obtain ⟨beg,hbeg⟩:∃ x,x=stepB (seeM T st 0):=⟨_,rfl⟩
 have SB:Hid (∀ W,PaS W pb b c T st->Calls Tryz.prog 83 #[vP pb 0] W fun e w'=>e=.returned (.bool beg)/\Below W.heap.size W w'):=fun W h=>by rw [hbeg];exact stepBegins_any h hT hat
 rw [<- hbeg] at he
 clear hbeg
 have EN:=neT_run yb
 obtain ⟨i0,hi0,hz0,hz1,hz2⟩:=info_parts infoPh
 have hpl:=h.pl
 have hbl:=h.bl
 have HPW:Hid (pb<w.heap.size):=hpl
 have HBW:Hid (b<w.heap.size):=hbl
 go_enter_defers Tryz.func169,Tryz.ntmps169
 go_upto_region 1 with fail
 obtain ⟨W1,hW1⟩:∃ W,W=w.alloc (.cells (pZA 0) 44):=⟨_,rfl⟩
 have HG1:Hid (GrowA pb w W1):=by rw [hW1];exact (GrowA.refl _ _).alloc _
 have HP1:Hid (PaS W1 pb b c T st):=by rw [hW1];exact h.allocI _
 have HR1:Hid (PhZ W1 w.heap.size):=by rw [hW1];exact PhB.new w _
 rw [<- hW1]
 obtain ⟨r,hr⟩:∃ r,r=w.heap.size:=⟨_,rfl⟩
 have HRW:Hid (w.heap.size<=r):=Nat.le_of_eq hr.symm
 have hrp:r≠pb:=by omega
 have hrb:r≠b:=by omega
 rw [<- hr] at HR1 ⊢
 clear hW1 hr h hpl hbl
 go_upto_region 3 with (first
  | (go_at_call 83;(refine (SB.out _ HP1.out).mono ?_);rintro e w2 ⟨rfl,hb⟩;have HG2:Hid (GrowA pb w w2):=(HG1.out.below hb);have HP2:Hid (PaS w2 pb b c T st):=(HP1.out.below hb);have HR2:Hid (PhZ w2 r):=(HR1.out.below hb);clear hb HP1 HG1 HR1)
  | (go_at_call 49;(refine (penter_is HP2.out _ ho).mono ?_);rintro e w3 ⟨q,rfl,hl,hp,hg,hq⟩;have HG3:Hid (GrowA pb w w3):=(HG2.out.trans hg);have HP3:Hid (PaS w3 pb b c T s0):=(by rw [<- he];exact hp);have HR3:Hid (PhZ w3 r):=(HR2.out.grow hg hrp);have HL3:Hid (Leave w3 pb q):=hl;have hrq:r≠q:=(by have k1:=HR2.out.lt;first | omega | (simp at hq;omega));clear hl hp hg hq HP2 HG2 HR2)
  | (go_at_call 172;(first | refine (HLU.out.use HTB.out HP3.out HG3.out (show max r q<_ from by have k:=HR3.out.lt;have k2:=HL3.out.2.1;first | exact Nat.max_lt.2 ⟨k,k2⟩ | (simp;omega))).mono ?_ | refine (HLU.out.use HTB.out (HP3.out.allocI _) (HG3.out.alloc _) (show max r q<_ from by have k:=HR3.out.lt;have k2:=HL3.out.2.1;first | exact Nat.max_lt.2 ⟨k,k2⟩ | (simp;omega))).mono ?_ | refine (HLU.out.use HTB.out ((HP3.out.allocI _).allocI _) ((HG3.out.alloc _).alloc _) (show max r q<_ from by have k:=HR3.out.lt;have k2:=HL3.out.2.1;first | exact Nat.max_lt.2 ⟨k,k2⟩ | (simp;omega))).mono ?_);rintro e w4 ⟨lo1,v,hlo,hv,rfl,hp,hg⟩;obtain ⟨k0_1,k1_1,k2_1,k5_1,k6_1,k7_1,s3_1,s4_1,s8_1,a9_1,a10_1,l9_1,c9_1,l10_1,c10_1,rfl⟩:=hv.form;have hlo1:r<lo1:=(by have:=hlo.1;omega);have hqlo:q<lo1:=(by have:=hlo.1;omega);have hlp1:=hlo.2.1;have hlz1:=hlo.2.2;have HG4:Hid (GrowA pb w w4):=(HG3.out.trans hg);have HP4:Hid (PaS w4 pb b c T (ST 0)):=hp;have HR4:Hid (PhZ w4 r):=(HR3.out.grow hg hrp);have HL4:Hid (Leave w4 pb q):=(HL3.out.grow hg);have HV1_4:Hid (Tre w4 lo1 p (pL k0_1 k1_1 k2_1 s3_1 s4_1 k5_1 k6_1 k7_1 s8_1 a9_1 l9_1 c9_1 a10_1 l10_1 c10_1)):=hv;clear hv hlo hp hg HP3 HG3 HR3 HL3))
 obtain ⟨y,hy0⟩:∃ y,y=w4.heap.size:=⟨_,rfl⟩
 obtain ⟨W5,hW5⟩:∃ W,W=w4.alloc (.cells (pA k0_1 k1_1 k2_1 s3_1 s4_1 k5_1 k6_1 k7_1 s8_1 a9_1 l9_1 c9_1 a10_1 l10_1 c10_1) 44):=⟨_,rfl⟩
 have HP5:Hid (PaS W5 pb b c T (ST 0)):=by rw [hW5];exact HP4.out.allocI _
 have HG5:Hid (GrowA pb w W5):=by rw [hW5];exact HG4.out.alloc _
 have HR5:Hid (PhZ W5 r):=by rw [hW5];exact HR4.out.allocI _
 have HL5:Hid (Leave W5 pb q):=by rw [hW5];exact HL4.out.allocI _
 have HY5:Hid (PhB W5 y (pA k0_1 k1_1 k2_1 s3_1 s4_1 k5_1 k6_1 k7_1 s8_1 a9_1 l9_1 c9_1 a10_1 l10_1 c10_1)):=by rw [hW5,hy0];exact PhB.new w4 _
 have HV1_5:Hid (Tre W5 lo1 p (pL k0_1 k1_1 k2_1 s3_1 s4_1 k5_1 k6_1 k7_1 s8_1 a9_1 l9_1 c9_1 a10_1 l10_1 c10_1)):=by rw [hW5];exact HV1_4.out.allocI _
 have hyp:y≠pb:=by have:=HP4.out.pl;omega
 have hl1y:lo1<=y:=by rw [hy0];exact hlz1
 rw [<- hW5]
 try rw [<- hy0]
 clear hW5 HP4 HG4 HR4 HL4 HV1_4 hy0
 go_upto_region 5 with (first
  | (go_at_call 81;(refine (see_lit HP5.out 0 (by omega) hT hat1 hu1).mono ?_);rintro e w6 ⟨rfl,hb⟩;have HG6:Hid (GrowA pb w w6):=(HG5.out.below hb);have HP6:Hid (PaS w6 pb b c T (ST 0)):=(HP5.out.below hb);have HR6:Hid (PhZ w6 r):=(HR5.out.below hb);have HL6:Hid (Leave w6 pb q):=(HL5.out.below hb);have HY6:Hid (PhB w6 y (pA k0_1 k1_1 k2_1 s3_1 s4_1 k5_1 k6_1 k7_1 s8_1 a9_1 l9_1 c9_1 a10_1 l10_1 c10_1)):=(HY5.out.below hb);have HV1_6:Hid (Tre w6 lo1 p (pL k0_1 k1_1 k2_1 s3_1 s4_1 k5_1 k6_1 k7_1 s8_1 a9_1 l9_1 c9_1 a10_1 l10_1 c10_1)):=(HV1_5.out.below hb);clear hb HP5 HG5 HR5 HL5 HY5 HV1_5)
  | (go_at_call 82;have HNX:=HP6;refine (mark_is _ _).mono ?_;rintro e w7 ⟨rfl,hb⟩;have HG7:Hid (GrowA pb w w7):=(HG6.out.below hb);have HP7:Hid (PaS w7 pb b c T (ST 0)):=(HP6.out.below hb);have HR7:Hid (PhZ w7 r):=(HR6.out.below hb);have HL7:Hid (Leave w7 pb q):=(HL6.out.below hb);have HY7:Hid (PhB w7 y (pA k0_1 k1_1 k2_1 s3_1 s4_1 k5_1 k6_1 k7_1 s8_1 a9_1 l9_1 c9_1 a10_1 l10_1 c10_1)):=(HY6.out.below hb);have HV1_7:Hid (Tre w7 lo1 p (pL k0_1 k1_1 k2_1 s3_1 s4_1 k5_1 k6_1 k7_1 s8_1 a9_1 l9_1 c9_1 a10_1 l10_1 c10_1)):=(HV1_6.out.below hb);obtain ⟨⟨m0,m1,m2,m3,m4,m5,m6,m7,m8,m9,m10⟩,j0,j1,j2,j3,j4,j5,j6,j7,j8,j9,j10⟩:=HY7.out.cells;have hyz:=HY7.out.lt;clear hb HNX HP6 HG6 HR6 HL6 HY6 HV1_6))
 have hlz9:lo1<=w7.heap.size:=by have k:=HY7.out.lt;omega
 go_upto_region 6 with fail
 obtain ⟨g1,hg10⟩:∃ g,g=w7.heap.size:=⟨_,rfl⟩
 obtain ⟨w8,hw8⟩:∃ W,W=w7.alloc (.cells (pA k0_1 k1_1 k2_1 s3_1 s4_1 k5_1 k6_1 k7_1 s8_1 a9_1 l9_1 c9_1 a10_1 l10_1 c10_1) 44):=⟨_,rfl⟩
 obtain ⟨x,hx1⟩:∃ x,x=g1 + 1:=⟨_,rfl⟩
 have hx0:x=w8.heap.size:=by rw [hx1,hw8,hg10];simp
 obtain ⟨w9,hw9⟩:∃ W,W=w8.alloc (.cells (pA 22 0 0 ⟨#[]⟩ ⟨#[]⟩ 0 0 0 ⟨#[]⟩ (some ⟨g1,0,none⟩) 1 1 none 0 0) 44):=⟨_,rfl⟩
 have HG8:Hid (GrowA pb w w8):=by rw [hw8];exact HG7.out.alloc _
 have HC8:Hid (LOwn 44 11 (PhE A) w8 lo1 (vL g1 0 1 1) 1):=by rw [hw8];exact LOwn.one (u:=(pL k0_1 k1_1 k2_1 s3_1 s4_1 k5_1 k6_1 k7_1 s8_1 a9_1 l9_1 c9_1 a10_1 l10_1 c10_1)) (PhE.keeps A) rfl (show PhE A 0 w7 _ _ from by unfold PhE;rw [hA0];exact HV1_7.out) (Nat.le_refl _) (by rw [hg10];exact hlz9) hg10.symm
 have HP9:Hid (PaS w9 pb b c T (ST 0)):=by rw [hw9,hw8];exact (HP7.out.allocI _).allocI _
 have HG9:Hid (GrowA pb w w9):=by rw [hw9];exact HG8.out.alloc _
 have HR9:Hid (PhZ w9 r):=by rw [hw9,hw8];exact (HR7.out.allocI _).allocI _
 have HL9:Hid (Leave w9 pb q):=by rw [hw9,hw8];exact (HL7.out.allocI _).allocI _
 have HX9:Hid (PhB w9 x (pA 22 0 0 ⟨#[]⟩ ⟨#[]⟩ 0 0 0 ⟨#[]⟩ (some ⟨g1,0,none⟩) 1 1 none 0 0)):=by rw [hw9,hx0];exact PhB.new w8 _
 have HK9:Hid (GrowB w8 pb w9):=by rw [hw9];exact GrowA.alloc (GrowA.refl _ _) _
 have hx8:w8.heap.size<=x:=by rw [hx0];exact Nat.le_refl _
 have hgx:g1≠x:=by rw [hx0,hg10,hw8];simp
 have hgl:g1<w9.heap.size:=by rw [hw9,hw8,hg10];simp;omega
 have hl1g:lo1<=g1:=by rw [hg10];exact hlz9
 have hxp:x≠pb:=by have k:=HP7.out.pl;rw [hx0,hw8];simp;omega
 have hxb:x≠b:=by have k:=HP7.out.bl;rw [hx0,hw8];simp;omega
 have hxw:w.heap.size<=x:=by rw [hx0];exact HG8.out.1
 have hrx2:r<x:=by have k:=HR7.out.lt;rw [hx0,hw8];simp;omega
 have hrx:r≠x:=by omega
 have hrq9:r≠q:=hrq
 have hqx:q≠x:=by have k:=HL7.out.2.1;rw [hx0,hw8];simp;omega
 rw [<- hg10]
 rw [<- hx1]
 rw [<- hw8]
 rw [<- hw9]
 clear hx1 hg10 hw8 hw9 HG7 HP7 HR7 HL7 HV1_7 HY7 hx0 m0 j0 m1 j1 m2 j2 m3 j3 m4 j4 m5 j5 m6 j6 m7 j7 m8 j8 m9 j9 m10 j10 hyz
 have HO9:Hid (LOwn 44 11 (exc x (PhE A)) w9 lo1 (vL g1 0 1 1) 1):=(HC8.out.toExc (PhE.keeps A) hx8).grow (exc.keeps (PhE.keeps A)) HK9.out hlp1
 go_loopw [] (fun wr=>FilI w pb b c T ST r q x lo1 A n wr) (fun wr=>leftW pb wr)
 case atStart=>exact ⟨0,Nat.zero_le _,g1,1,⟨hl1g,hgl,hgx⟩,HP9.out,HG9.out,HR9.out,HL9.out,HX9.out,HO9.out⟩
 case round =>
  clear HP9 HG9 HR9 HL9 HX9 HO9 HK9 HC8 HG8 hgx hgl hl1g
  obtain ⟨k,hk,g,cc,⟨hgl1,hgsz,hgx⟩,hp,hg,hr,hl,hxx,ho⟩:=hrel
  have HP9:=HidOf hp
  have HG9:=HidOf hg
  have HR9:=HidOf hr
  have HL9:=HidOf hl
  have HX9:=HidOf hxx
  have HLO9:=HidOf ho
  have hm0:=hp.leftW
  have hat:=Nat.le_trans (hS k hk) (by decide:299<=300)
  clear hp hg hr hl hxx ho
  by_cases hkn:k<n
  · obtain ⟨hb1,hw,h3⟩:=HBK.out k hkn
    have HB1:=HidOf hb1
    have HRK:=HidOf (HLV.out k hkn)
    clear hb1
    go_upto_region 7 with (first
     | (go_at_call 82;have HNX:=HP9;refine (mark_is _ _).mono ?_;rintro e w10 ⟨rfl,hb⟩;have HG10:Hid (GrowA pb w w10):=(HG9.out.below hb);have HP10:Hid (PaS w10 pb b c T (ST k)):=(HP9.out.below hb);have HR10:Hid (PhZ w10 r):=(HR9.out.below hb);have HL10:Hid (Leave w10 pb q):=(HL9.out.below hb);have HX10:Hid (PhB w10 x (pA 22 0 0 ⟨#[]⟩ ⟨#[]⟩ 0 0 0 ⟨#[]⟩ (some ⟨g,0,none⟩) (k + 1) cc none 0 0)):=(HX9.out.below hb);have HLO10:=HidOf (HLO9.out.below (exc.keeps (PhE.keeps A)) hb);clear HLO9;clear hb HNX HP9 HG9 HR9 HL9 HX9)
     | (go_at_call 85;(refine (skip_yes HP10.out hT hat _ _ _ HB1.out).mono ?_);rintro e w11 ⟨rfl,hp,hg⟩;have HG11:Hid (GrowA pb w w11):=(HG10.out.trans hg);have HP11:Hid (PaS w11 pb b c T { ST k with at':=(ST k).at' + 1 }):=hp;have HR11:Hid (PhZ w11 r):=(HR10.out.grow hg hrp);have HL11:Hid (Leave w11 pb q):=(HL10.out.grow hg);have HX11:Hid (PhB w11 x (pA 22 0 0 ⟨#[]⟩ ⟨#[]⟩ 0 0 0 ⟨#[]⟩ (some ⟨g,0,none⟩) (k + 1) cc none 0 0)):=(HX10.out.grow hg hxp);obtain ⟨⟨m0,m1,m2,m3,m4,m5,m6,m7,m8,m9,m10⟩,j0,j1,j2,j3,j4,j5,j6,j7,j8,j9,j10⟩:=HX11.out.cells;have hxz:=HX11.out.lt;have HLO11:=HidOf (HLO10.out.grow (exc.keeps (PhE.keeps A)) hg hlp1);clear HLO10;clear hp hg HP10 HG10 HR10 HL10 HX10))
    have hgn:g<w11.heap.size:=(HLO11.out.own g rfl).2
    have hln:lo1<=w11.heap.size:=by omega
    have hxn:x<w11.heap.size:=HX11.out.lt
    have hpbn:=HP11.out.pl
    have hbbn:=HP11.out.bl
    have hqn:=HL11.out.2.1
    have hrn:=HR11.out.lt
    have hpg:g≠pb:=by omega
    have hgr:g≠r:=by omega
    have hgw:w.heap.size<=g:=by have:=HRW.out;omega
    have hgb:g≠b:=by have:=HBW.out;omega
    have hgq:g≠q:=by omega
    have HFG:Hid ((FilG w w11 pb b c T { ST k with at':=(ST k).at' + 1 } (S3 k) r q x lo1 k g cc A) (Array.replicate 8 false) (⟨#[],[]⟩) w11.drew):=FilG.below ⟨fun _=>HP11.out,fun e=>absurd e (by decide),HG11.out,HR11.out,HL11.out,Nat.le_refl _,fun _=>HX11.out,fun _=>HLO11.out,fun e=>absurd e (by decide),fun e=>absurd e (by decide)⟩ (Below.refl _ _).drew
    clear HP11 HG11 HR11 HL11 HX11 HLO11 m0 m1 m2 m3 m4 m5 m6 m7 m8 m9 m10 j0 j1 j2 j3 j4 j5 j6 j7 j8 j9 j10 hxz
    refine wp_region_slots (by kernel_rfl) (FilD w11 pb x k g cc (A (k + 1))) (FilG w w11 pb b c T { ST k with at':=(ST k).at' + 1 } (S3 k) r q x lo1 k g cc A) (by kernel_rfl) (by kernel_rfl) ?_ ?_ ?_
    · exact ⟨HFG.out.P0,HFG.out.P1,HFG.out.G,HFG.out.R,HFG.out.Z,HFG.out.S,HFG.out.X0,HFG.out.L0,fun e=>absurd e (by decide),HFG.out.X1⟩
    · intro l a W i o hsz h ho hl haf
      have fx:=h.more
      have hts:a.tmps.size=33:=h.size.trans rfl
      have hi:i<8:=(gI ho).1
      have hl':=getD_ofP hl
      obtain rfl | rfl | rfl | rfl | rfl | rfl | rfl | rfl:i=0\/i=1\/i=2\/i=3\/i=4\/i=5\/i=6\/i=7:=by omega
      all_goals (obtain rfl:=Option.some.inj ho;rw [if_pos (want_none rfl)])
      · have e4:=h.given 4 _ rfl (by kernel_rfl)
        refine wp_val (v:=vP x 9) (w':=W) ?_ ⟨_,rfl,rfl,fun _ _ h=>h,fx.pure (by decide) (by decide) (by decide) (by decide)⟩
        unfold execOp
        simp [e4,go_sem]
      · obtain ⟨u22,e22,x22⟩:=h.new 0 _ 22 rfl rfl (haf ⟨0,.data⟩ (by simp) rfl)
        have y22:u22=vP x 9:=x22
        subst y22
        have m5:=h.later 5 1 _ ⟨1,.data⟩ rfl (by simp) rfl rfl hl
        have m7:=h.later2 7 5 _ ⟨5,.data⟩ rfl (by simp) rfl rfl m5
        have hx:=fx.X0 m7
        have c9:=hx.cells.1.2.2.2.2.2.2.2.2.2.1
        have hxl:=hx.lt
        refine wp_val (v:=vL g 0 (k + 1) cc) (w':=W) ?_ ⟨_,rfl,rfl,fun _ _ h=>h,fx.pure (by decide) (by decide) (by decide) (by decide)⟩
        unfold execOp
        simp [e22,c9,go_sem]
      · have e0:=h.given 0 _ rfl (by kernel_rfl)
        refine wp_val (v:=vP pb 0) (w':=W) ?_ ⟨_,rfl,rfl,fun _ _ h=>h,fx.pure (by decide) (by decide) (by decide) (by decide)⟩
        unfold execOp
        simp [e0,go_sem]
      · obtain ⟨u24,e24,x24⟩:=h.new 2 _ 24 rfl rfl (haf ⟨2,.data⟩ (by simp) rfl)
        have y24:u24=vP pb 0:=x24
        subst y24
        have m4:=h.later 4 3 _ ⟨3,.data⟩ rfl (by simp) rfl rfl hl
        have m5:=h.later2 5 4 _ ⟨4,.data⟩ rfl (by simp) rfl rfl m4
        have m7:=h.later2 7 5 _ ⟨5,.data⟩ rfl (by simp) rfl rfl m5
        refine wp_enter (f:=20) (args:=#[vP pb 0]) (w':=W) ?_ ((HRK.out W (fx.P0 hl') (HTB.out.grow fx.G)).mono ?_)
        · unfold execOp
          simp [e24,go_sem]
        · rintro e W' ⟨v,hv,rfl,hp,hg⟩
          exact ⟨_,rfl,_,rfl,⟨v,rfl,W'.heap.size,Ph.V.keep (fun b q=>⟨Nat.le_trans fx.S q.1,q.2⟩) (fun _ _=>rfl) hv,Nat.le_refl _⟩,FilD.keep hg.1 (fun b h1 h2=>hg.2.2.2.2 b h2 (by omega)),fx.call hsz m5 m7 hp hg hrp hxp hlp1⟩
      · obtain ⟨u25,e25,x25⟩:=h.new 3 _ 25 rfl rfl (haf ⟨3,.data⟩ (by simp) rfl)
        obtain ⟨u,rfl,hu⟩:=x25
        have m5:=h.later 5 4 _ ⟨4,.data⟩ rfl (by simp) rfl rfl hl
        have hb:Below W.heap.size W (W.alloc (.cells u.toArray 44)):=(Below.refl _ _).alloc (Nat.le_refl _) _
        refine wp_val (v:=vL W.heap.size 0 1 1) (w':=W.alloc (.cells u.toArray 44)) ?_ ⟨_,rfl,⟨W.heap.size,u,rfl,fx.S,heap_alloc_new _ _,hu.keep hb.size (fun b _ h2=>hb.block b h2)⟩,FilD.keep hb.size (fun b _ h2=>hb.block b h2),(fx.below hb).pure (by decide) (by decide) (by decide) (by decide)⟩
        obtain ⟨hi,hV,_⟩:=hu
        obtain ⟨k0_2,k1_2,k2_2,k5_2,k6_2,k7_2,s3_2,s4_2,s8_2,a9_2,a10_2,l9_2,c9_2,l10_2,c10_2,rfl⟩:=hV.form
        unfold execOp
        simp [e25,go_sem]
      · obtain ⟨u23,e23,x23⟩:=h.new 1 _ 23 rfl rfl (haf ⟨1,.data⟩ (by simp) rfl)
        have y23:u23=vL g 0 (k + 1) cc:=x23
        subst y23
        obtain ⟨u26,e26,x26⟩:=h.new 4 _ 26 rfl rfl (haf ⟨4,.data⟩ (by simp) rfl)
        obtain ⟨n4,u,rfl,hn4,hc4,hi,hV,hhi⟩:=x26
        have m3:l.getD 3 false=true:=h.shut 4 _ rfl (haf ⟨4,.data⟩ (by simp) rfl) ⟨3,.data⟩ (by simp) rfl
        have m7:=h.later 7 5 _ ⟨5,.data⟩ rfl (by simp) rfl rfl hl
        obtain ⟨L,ho,hE⟩:=fx.L0 hl'
        have HO2:=Ph.V.ones hV
        have hul:=Ph.V.len hV
        refine wp_append_lies W (.tmp 23) (.tmp 26) 41 rfl lo1 44 i0 _ 11 144 Tryz.underlying41 hi0 hz0 hz1 hz2 rfl (by decide) (vL g 0 (k + 1) cc) (k + 1) _ (by simp [Act.eval,e23]) ho ⟨n4,0,none⟩ 1 1 u (by simp [Act.eval,e26]) (by rw [hul]) (by have z:=World.news_of_block hc4;simpa using z) HO2 (by decide) (by unfold maxLen;omega) (by omega) (by have:=fx.S;omega) _ rfl ?_
        intro g7 c7 w7 hown7 hgrow7 hg7 hlt7
        have hg7x:lo1<=g7/\g7<w7.heap.size/\g7≠x:=by
         have h1:=fx.S
         refine ⟨?_,hlt7,?_⟩ <;> rcases hg7 with e | e
         · have e':g=g7:=Option.some.inj e
           omega
         · omega
         · have e':g=g7:=Option.some.inj e
           omega
         · omega
        exact ⟨_,rfl,trivial,FilD.keep hgrow7.size (fun b h1 h2=>hgrow7.block b h2 (fun e=>by have e':b=g:=Option.some.inj e;omega)),fx.app hsz (by omega) m3 m7 hgrow7 hgw hgx hgr hpg hgb hgq hg7x (LOwn.pushX (lo1:=w11.heap.size) (PhE.keeps A) hE hul (Ph.V.keep (fun b q=>⟨q.1,by omega⟩) (fun _ _=>rfl) hV) hln hxn (fun k hk=>by obtain rfl:=(Option.some.inj hk);omega) hown7 hgrow7 hg7)⟩
      · have e4:=h.given 4 _ rfl (by kernel_rfl)
        refine wp_val (v:=vP x 9) (w':=W) ?_ ⟨_,rfl,rfl,fun _ _ h=>h,fx.pure (by decide) (by decide) (by decide) (by decide)⟩
        unfold execOp
        simp [e4,go_sem]
      · obtain ⟨u28,e28,x28⟩:=h.new 6 _ 28 rfl rfl (haf ⟨6,.data⟩ (by simp) rfl)
        have y28:u28=vP x 9:=x28
        subst y28
        have m5:l.getD 5 false=true:=haf ⟨5,.data⟩ (by simp) rfl
        have m4:l.getD 4 false=true:=h.shut 5 _ rfl m5 ⟨4,.data⟩ (by simp) rfl
        have m3:l.getD 3 false=true:=h.shut 4 _ rfl m4 ⟨3,.data⟩ (by simp) rfl
        obtain ⟨g7,c7,e27,hg7,hL7⟩:=fx.L1 m5 hl'
        have hx:=fx.X0 hl'
        have hxl:=hx.lt
        have c9:=hx.cells.1.2.2.2.2.2.2.2.2.2.1
        have f9:=hx.cells.2.2.2.2.2.2.2.2.2.2.1
        refine wp_skip (w':=W.setCell ⟨x,9,none⟩ (vL g7 0 (k + 1 + 1) c7)) ?_ ⟨undef,rfl,trivial,FilD.keep (by simp) (fun b h1 h2=>Below.heap_setCell _ _ _ _ (by simp;omega)),fx.store hsz m3 m5 hl' hxp hxb hxw hrx hqx e27⟩
        unfold execOp
        simp [e28,e27,c9,f9,go_sem]
    · intro v w12 hv hs hg
      have HP12:=HidOf (hg.P1 rfl)
      have HG12:=HidOf hg.G
      have HR12:=HidOf hg.R
      have HL12:=HidOf hg.Z
      obtain ⟨g7,c7,hx7,hg7,hl7⟩:=hg.X1 rfl
      have HX12:=HidOf hx7
      have HLO12:=HidOf hl7
      have hlt7:=hg7.1
      have hgx7:=hg7.2.2
      clear hv hs hg hx7 hl7 HFG
      simp only [putAll,Act.put,List.setIfInBounds_toArray,List.set_cons_succ,List.set_cons_zero]
      go_wp2_with (first
       | (go_at_call 82;have HNX:=HP12;refine (mark_is _ _).mono ?_;rintro e w13 ⟨rfl,hb⟩;have HG13:Hid (GrowA pb w w13):=(HG12.out.below hb);have HP13:Hid (PaS w13 pb b c T (S3 k)):=(HP12.out.below hb);have HR13:Hid (PhZ w13 r):=(HR12.out.below hb);have HL13:Hid (Leave w13 pb q):=(HL12.out.below hb);have HX13:Hid (PhB w13 x (pA 22 0 0 ⟨#[]⟩ ⟨#[]⟩ 0 0 0 ⟨#[]⟩ (some ⟨g7,0,none⟩) (k + 1 + 1) c7 none 0 0)):=(HX12.out.below hb);have HLO13:=HidOf (HLO12.out.below (exc.keeps (PhE.keeps A)) hb);clear HLO12;clear hb HNX HP12 HG12 HR12 HL12 HX12)
       | (go_at_call 144;(refine (want_eq HP13.out hT h3 hw).mono ?_);rintro e w14 ⟨rfl,hp,hg⟩;have HG14:Hid (GrowA pb w w14):=(HG13.out.trans hg);have HP14:Hid (PaS w14 pb b c T (ST (k + 1))):=hp;have HR14:Hid (PhZ w14 r):=(HR13.out.grow hg hrp);have HL14:Hid (Leave w14 pb q):=(HL13.out.grow hg);have HX14:Hid (PhB w14 x (pA 22 0 0 ⟨#[]⟩ ⟨#[]⟩ 0 0 0 ⟨#[]⟩ (some ⟨g7,0,none⟩) (k + 1 + 1) c7 none 0 0)):=(HX13.out.grow hg hxp);have HLO14:=HidOf (HLO13.out.grow (exc.keeps (PhE.keeps A)) hg hlp1);clear HLO13;clear hp hg HP13 HG13 HR13 HL13 HX13))
      have hm8:leftW pb w14<leftW pb wr:=by rw [HP14.out.leftW,hm0];have:=hmono k hkn;have:=hS (k + 1) (by omega);omega
      go_roundw
      case rel=>exact ⟨k + 1,by omega,g7,c7,⟨hlt7,(HLO14.out.own g7 rfl).2,hgx7⟩,HP14.out,HG14.out,HR14.out,HL14.out,HX14.out,HLO14.out⟩
      case measure=>exact hm8
  · obtain rfl:k=n:=by omega
    have hrq:r≠q:=hrq9
    go_wp2_with (first
     | (go_at_call 82;have HNX:=HP9;refine (mark_is _ _).mono ?_;rintro e w10 ⟨rfl,hb⟩;have HG10:Hid (GrowA pb w w10):=(HG9.out.below hb);have HP10:Hid (PaS w10 pb b c T (ST k)):=(HP9.out.below hb);have HR10:Hid (PhZ w10 r):=(HR9.out.below hb);have HL10:Hid (Leave w10 pb q):=(HL9.out.below hb);have HX10:Hid (PhB w10 x (pA 22 0 0 ⟨#[]⟩ ⟨#[]⟩ 0 0 0 ⟨#[]⟩ (some ⟨g,0,none⟩) (k + 1) cc none 0 0)):=(HX9.out.below hb);have HLO10:=HidOf (HLO9.out.below (exc.keeps (PhE.keeps A)) hb);clear HLO9;clear hb HNX HP9 HG9 HR9 HL9 HX9)
     | (go_at_call 85;(refine (skip_no HP10.out hT hat _ _ _ HNB.out).mono ?_);rintro e w11 ⟨rfl,hp,hg⟩;have HG11:Hid (GrowA pb w w11):=(HG10.out.trans hg);have HP11:Hid (PaS w11 pb b c T (ST k)):=hp;have HR11:Hid (PhZ w11 r):=(HR10.out.grow hg hrp);have HL11:Hid (Leave w11 pb q):=(HL10.out.grow hg);have HX11:Hid (PhB w11 x (pA 22 0 0 ⟨#[]⟩ ⟨#[]⟩ 0 0 0 ⟨#[]⟩ (some ⟨g,0,none⟩) (k + 1) cc none 0 0)):=(HX10.out.grow hg hxp);obtain ⟨⟨y0,y1,y2,y3,y4,y5,y6,y7,y8,y9,y10⟩,z0,z1,z2,z3,z4,z5,z6,z7,z8,z9,z10⟩:=HR11.out.cells;obtain ⟨⟨m0,m1,m2,m3,m4,m5,m6,m7,m8,m9,m10⟩,j0,j1,j2,j3,j4,j5,j6,j7,j8,j9,j10⟩:=HX11.out.cells;have hxz:=HX11.out.lt;have hrz:=HR11.out.lt;have HLO11:=HidOf (HLO10.out.grow (exc.keeps (PhE.keeps A)) hg hlp1);clear HLO10;clear hp hg HP10 HG10 HR10 HL10 HX10))
    obtain ⟨Wd,hWd⟩:∃ W,W=(((((((((((w11.setCell ⟨r,0,none⟩ (vI 22)).setCell ⟨r,1,none⟩ (vI 0)).setCell ⟨r,2,none⟩ (vI 0)).setCell ⟨r,3,none⟩ (vE)).setCell ⟨r,4,none⟩ (vE)).setCell ⟨r,5,none⟩ (vI 0)).setCell ⟨r,6,none⟩ (vI 0)).setCell ⟨r,7,none⟩ (vI 0)).setCell ⟨r,8,none⟩ (vE)).setCell ⟨r,9,none⟩ (vL g 0 (k + 1) cc)).setCell ⟨r,10,none⟩ (vN)):=⟨_,rfl⟩
    have HD:Hid (PaS Wd pb b c T (ST k)):=by
     refine HidOf ?_
     rw [hWd]
     (repeat (first | with_reducible refine PaS.setR ?_ hrp hrb _ _ | with_reducible refine PaS.allocI ?_ _ | exact HP11.out))
    have HE:Hid (GrowA pb w Wd):=by
     refine HidOf ?_
     rw [hWd]
     (repeat (first | with_reducible refine GrowA.setR ?_ HRW.out _ _ | with_reducible refine GrowA.alloc ?_ _ | exact HG11.out))
    have HQ:Hid (Leave Wd pb q):=by
     refine HidOf ?_
     rw [hWd]
     (repeat (first | with_reducible refine Leave.setR ?_ hrq _ _ | with_reducible refine Leave.allocI ?_ _ | exact HL11.out))
    have HZ:Hid (PhB Wd r (pA 22 0 0 ⟨#[]⟩ ⟨#[]⟩ 0 0 0 ⟨#[]⟩ (some ⟨g,0,none⟩) (k + 1) cc none 0 0)):=by rw [hWd];exact PhB.put HR11.out
    have HT:Hid (Tre Wd w.heap.size (phN 22 ⟨0,0,⟨#[]⟩⟩ ⟨#[]⟩ 0 0 0 ⟨#[]⟩ (k + 1) A) (pL 22 0 0 ⟨#[]⟩ ⟨#[]⟩ 0 0 0 ⟨#[]⟩ (some ⟨g,0,none⟩) (k + 1) cc none 0 0)):=by
     refine HidOf ?_
     rw [hWd]
     (refine Tre.mono (lo:=lo1) ?_ (by have:=HRW.out;omega))
     (refine Phs.tre (A:=A) (v:=vL g 0 (k + 1) cc) ?_)
     (refine LOwn.phs ?_)
     (refine LOwn.unExc (x:=x) (PhE.keeps A) ?_)
     (repeat (first | with_reducible refine LOwn.setR (exc.keeps (PhE.keeps A)) ?_ hlo1 _ _ | with_reducible exact HLO11.out))
    rw [<- hWd]
    clear hWd
    refine leaves_cons (f:=80) (args:=#[vP q 0]) (by simp) (by simp [go_sem]) ?_
    refine (pleave_is HD.out HQ.out hop .returning).mono ?_
    rintro e u' w99 ⟨rfl,rfl,hp,hg⟩
    obtain ⟨⟨u0,u1,u2,u3,u4,u5,u6,u7,u8,u9,u10⟩,_⟩:=(HZ.out.grow hg hrp).cells
    exact ⟨.agg (pA 22 0 0 ⟨#[]⟩ ⟨#[]⟩ 0 0 0 ⟨#[]⟩ (some ⟨g,0,none⟩) (k + 1) cc none 0 0),by simp [results,Tryz.results169,go_sem,u0,u1,u2,u3,u4,u5,u6,u7,u8,u9,u10],⟨_,HT.out.grow hg HPW.out,rfl,hp,HE.out.trans hg⟩⟩
end Go.Proofs.YtmcmbdkpfcibkaaGreatDoor
