import Derived.Test.YtmcmbdkpfcibkaaGreatDoorCkSt
import Derived.Test.YtmcmbdkpfcibkaaGreatDoorPmClone
import Derived.Deep.RegionHeld3
set_option linter.unusedVariables false
set_option maxHeartbeats 6400000
namespace Go.Proofs.YtmcmbdkpfcibkaaGreatDoor
set_option maxRecDepth 100000
open Go.RowKit
theorem heap_setC {w:World} {b:Nat} {cs:Array Value} {T:TypeId} (h:w.heap[b]?=some (.cells cs T)) (k:Nat) (v:Value):(w.setCell ⟨b,k,none⟩ v).heap[b]?=some (.cells (cs.setIfInBounds k v) T):=by
 simp [World.setCell,Array.getElem?_modify,h]
theorem putC_some {b:Nat} {T:TypeId}:∀ (vs:List Value) (w:World) (k:Nat) (cs:Array Value),w.heap[b]?=some (.cells cs T)->cs.size=k + vs.length->(putC w b k vs).heap[b]?=some (.cells (cs.toList.take k ++ vs).toArray T)
 | [],w,k,cs,h,hs=>by
  rw [putC,h,List.append_nil,List.take_of_length_le (by rw [Array.length_toList,hs];exact Nat.le_refl _)]
 | v :: r,w,k,cs,h,hs=>by
  rw [List.length_cons] at hs
  rw [putC,putC_some r _ (k + 1) _ (heap_setC h k v) (by rw [Array.size_setIfInBounds];omega)]
  have e:(cs.setIfInBounds k v).toList.take (k + 1)=cs.toList.take k ++ [v]:=by
   rw [Array.toList_setIfInBounds,List.take_add_one,List.getElem?_set_self (by rw [Array.length_toList];omega),List.take_set_of_le (Nat.le_refl _)]
   rfl
  rw [e,List.append_assoc]
  rfl
theorem putC_same {b:Nat} {T:TypeId} {w:World} {cs:Array Value} (h:w.heap[b]?=some (.cells cs T)) (vs:List Value) (hs:cs.size=vs.length):(putC w b 0 vs).heap[b]?=some (.cells vs.toArray T):=by
 have:=putC_some vs w 0 cs h (by omega)
 rw [List.take_zero,List.nil_append] at this
 exact this
theorem PhB.drew {w:World} {r:Nat} {v:Array Value} (h:PhB w r v):PhB w.drew r v:=h
def StS (lo y r:Nat) (W:World):Nat->Prop:=fun b=>lo<=b/\b<W.heap.size/\b≠y/\b≠r
structure StW (w:World) (pb b c:Nat) (T:List Tok) (st:Pst) (y r lo:Nat) (vs:Array Value) (p:Ph) (us:List Value) (W:World):Prop where
 P:PaS W pb b c T st
 G:GrowA pb w W
 Y:PhB W y vs
 R:PhZ W r
 V:p.V W (StS lo y r W) us
theorem StW.below {w:World} {pb b c:Nat} {T:List Tok} {st:Pst} {y r lo:Nat} {vs:Array Value} {us:List Value} {p:Ph} {W:World} (h:StW w pb b c T st y r lo vs p us W) {W':World} (hb:Below W.heap.size W W'):StW w pb b c T st y r lo vs p us W' :=
 ⟨h.P.below hb,h.G.below hb,h.Y.below hb,h.R.below hb,Ph.V.keep (fun b q=>⟨q.1,Nat.lt_of_lt_of_le q.2.1 hb.size,q.2.2⟩) (fun b q=>hb.block b q.2.1) h.V⟩
theorem StW.drew {w:World} {pb b c:Nat} {T:List Tok} {st:Pst} {y r lo:Nat} {vs:Array Value} {us:List Value} {p:Ph} {W:World} (h:StW w pb b c T st y r lo vs p us W):StW w pb b c T st y r lo vs p us W.drew:=h.below (Below.refl _ _).drew
theorem StW.grow {w:World} {pb b c:Nat} {T:List Tok} {st:Pst} {y r lo:Nat} {vs:Array Value} {us:List Value} {p:Ph} {W:World} (h:StW w pb b c T st y r lo vs p us W) (hp:pb<lo) (hy:y≠pb) (hr:r≠pb) {W':World} {st':Pst} (hP:PaS W' pb b c T st') (hg:GrowA pb W W'):StW w pb b c T st' y r lo vs p us W' :=
 ⟨hP,h.G.trans hg,h.Y.grow hg hy,h.R.grow hg hr,Ph.V.keep (fun b q=>⟨q.1,Nat.lt_of_lt_of_le q.2.1 hg.1,q.2.2⟩) (fun b q=>hg.2.2.2.2 b q.2.1 (by have:=q.1;omega)) h.V⟩
structure StX (w:World) (pb b c:Nat) (T:List Tok) (st:Pst) (y r lo:Nat) (vs:Array Value) (p:Ph) (us:List Value) (q:Ph) (uq:List Value) (W:World):Prop where
 S:StW w pb b c T st y r lo vs p us W
 Q:q.V W (StS lo y r W) uq
theorem StX.below {w:World} {pb b c:Nat} {T:List Tok} {st:Pst} {y r lo:Nat} {vs:Array Value} {us uq:List Value} {p q:Ph} {W:World} (h:StX w pb b c T st y r lo vs p us q uq W) {W':World} (hb:Below W.heap.size W W'):StX w pb b c T st y r lo vs p us q uq W' :=
 ⟨h.S.below hb,Ph.V.keep (fun b q=>⟨q.1,Nat.lt_of_lt_of_le q.2.1 hb.size,q.2.2⟩) (fun b q=>hb.block b q.2.1) h.Q⟩
theorem StX.drew {w:World} {pb b c:Nat} {T:List Tok} {st:Pst} {y r lo:Nat} {vs:Array Value} {us uq:List Value} {p q:Ph} {W:World} (h:StX w pb b c T st y r lo vs p us q uq W):StX w pb b c T st y r lo vs p us q uq W.drew:=h.below (Below.refl _ _).drew
theorem StW.run {w:World} {pb b c:Nat} {T:List Tok} {st:Pst} {y r lo:Nat} {vs:Array Value} {us:List Value} {p:Ph} {W:World} (h:StW w pb b c T st y r lo vs p us W) (hp:pb<lo) (hy:y≠pb) (hr:r≠pb) (hl:lo<=W.heap.size) {f:Nat} {args:Array Value} {st':Pst} {q:Ph} (hR:RunT pb b c T f args st st' q) (ht:RTab w pb) :
 Calls Tryz.prog f args W fun e w'=>∃ (k0_2 k1_2 k2_2 k5_2 k6_2 k7_2:Int) (s3_2 s4_2 s8_2:ByteArray) (a9_2 a10_2:Option Addr) (l9_2 c9_2 l10_2 c10_2:Nat),e=.returned (.agg (pA k0_2 k1_2 k2_2 s3_2 s4_2 k5_2 k6_2 k7_2 s8_2 a9_2 l9_2 c9_2 a10_2 l10_2 c10_2))/\StX w pb b c T st' y r lo vs p us q (pL k0_2 k1_2 k2_2 s3_2 s4_2 k5_2 k6_2 k7_2 s8_2 a9_2 l9_2 c9_2 a10_2 l10_2 c10_2) w' :=
 (hR W h.P (ht.grow h.G)).mono fun e w' ⟨v,h1,h2,h3,h4⟩=>by
  obtain ⟨k0_2,k1_2,k2_2,k5_2,k6_2,k7_2,s3_2,s4_2,s8_2,a9_2,a10_2,l9_2,c9_2,l10_2,c10_2,rfl⟩:=h1.form
  have hy2:=h.Y.lt
  have hr2:=h.R.lt
  exact ⟨k0_2,k1_2,k2_2,k5_2,k6_2,k7_2,s3_2,s4_2,s8_2,a9_2,a10_2,l9_2,c9_2,l10_2,c10_2,h2,h.grow hp hy hr h3 h4,Ph.V.keep (fun b q=>⟨by omega,q.2,by omega,by omega⟩) (fun _ _=>rfl) h1⟩
theorem StW.put {w:World} {pb b c:Nat} {T:List Tok} {st:Pst} {y r lo:Nat} {vs:Array Value} {us:List Value} {p:Ph} {W:World} (h:StW w pb b c T st y r lo vs p us W) (hyp:y≠pb) (hyb:y≠b) (hyw:w.heap.size<=y) (hry:r≠y) (vs':List Value) (hl:vs.size=vs'.length) {p':Ph} (hv:p'.V W (StS lo y r W) vs'):StW w pb b c T st y r lo vs'.toArray p' vs' (putC W y 0 vs') :=
 ⟨h.P.put hyp hyb 0 _,putC_grow hyw _ _ _ h.G,putC_same h.Y _ hl,(putC_other hry _ _ _).trans h.R,Ph.V.keep (fun b q=>⟨q.1,by rw [putC_size];exact q.2.1,q.2.2⟩) (fun b q=>putC_other q.2.2.1 _ _ _) hv⟩
theorem v_setR {p:Ph} {W:World} {lo y r:Nat} {us:List Value} (h:p.V W (StS lo y r W) us) (k:Nat) (v:Value):p.V (W.setCell ⟨r,k,none⟩ v) (StS lo y r (W.setCell ⟨r,k,none⟩ v)) us :=
 Ph.V.keep (fun b q=>⟨q.1,by simpa using q.2.1,q.2.2⟩) (fun b q=>Below.heap_setCell _ _ _ _ (by simpa using q.2.2.2)) h
theorem v_tre {p:Ph} {W:World} {lo y r:Nat} {us:List Value} (h:p.V W (StS lo y r W) us):Tre W lo p us:=Ph.V.keep (fun b q=>⟨q.1,q.2.1⟩) (fun _ _=>rfl) h
theorem v_ph0 {W:World} {S:Nat->Prop} {k:Int} {it:It} {nm:ByteArray} {n ax tk:Int} {tn:ByteArray}:(ph0 k it nm n ax tk tn).V W S (phL k it nm n ax tk tn (vN) (vN)) :=
 ⟨none,0,none,0,rfl,Nat.le_refl _,Nat.le_refl _,by decide,by decide,fun h=>absurd h (by decide),fun h=>absurd h (by decide)⟩
theorem StX.pathOf {w:World} {pb b c:Nat} {T:List Tok} {st:Pst} {y r lo:Nat} {vs:Array Value} {p q:Ph} {W:World} {k0_1 k1_1 k2_1 k5_1 k6_1 k7_1 k0_2 k1_2 k2_2 k5_2 k6_2 k7_2:Int} {s3_1 s4_1 s8_1 s3_2 s4_2 s8_2:ByteArray} {a9_1 a10_1 a9_2 a10_2:Option Addr} {l9_1 c9_1 l10_1 c10_1 l9_2 c9_2 l10_2 c10_2:Nat} (h:StX w pb b c T st y r lo vs p (pL k0_1 k1_1 k2_1 s3_1 s4_1 k5_1 k6_1 k7_1 s8_1 a9_1 l9_1 c9_1 a10_1 l10_1 c10_1) q (pL k0_2 k1_2 k2_2 s3_2 s4_2 k5_2 k6_2 k7_2 s8_2 a9_2 l9_2 c9_2 a10_2 l10_2 c10_2) W) (hl:lo<=W.heap.size) :
 Calls Tryz.prog 170 #[.agg (pA k0_1 k1_1 k2_1 s3_1 s4_1 k5_1 k6_1 k7_1 s8_1 a9_1 l9_1 c9_1 a10_1 l10_1 c10_1),.agg (pA k0_2 k1_2 k2_2 s3_2 s4_2 k5_2 k6_2 k7_2 s8_2 a9_2 l9_2 c9_2 a10_2 l10_2 c10_2)] W fun e w'=>∃ g,e=.returned (.agg (pA 21 0 0 ⟨#[]⟩ ⟨#[]⟩ 0 0 0 ⟨#[]⟩ (some ⟨g,0,none⟩) 2 2 none 0 0))/\StX w pb b c T st y r lo vs p (pL k0_1 k1_1 k2_1 s3_1 s4_1 k5_1 k6_1 k7_1 s8_1 a9_1 l9_1 c9_1 a10_1 l10_1 c10_1) (twoP 21 ⟨#[]⟩ p q) (pL 21 0 0 ⟨#[]⟩ ⟨#[]⟩ 0 0 0 ⟨#[]⟩ (some ⟨g,0,none⟩) 2 2 none 0 0) w' :=
 (pathOf_is W).mono fun e w' ⟨g,h1,h2,h3,h4⟩=>by
  have hy2:=h.S.Y.lt
  have hr2:=h.S.R.lt
  have hb:=h.below h2
  exact ⟨g,h1,hb.S,v_two h4 ⟨by omega,h3.2,by omega,by omega⟩ hb.S.V hb.Q⟩
theorem StW.along {w:World} {pb b c:Nat} {T:List Tok} {st:Pst} {y r lo:Nat} {vs:Array Value} {us:List Value} {p:Ph} {W:World} (h:StW w pb b c T st y r lo vs p us W) (ax tk:Int) (tn:ByteArray):Calls Tryz.prog 171 #[vI ax,.agg #[vI tk,vS tn]] W fun e w'=>e=.returned (.agg (pA 9 0 0 ⟨#[]⟩ ⟨#[]⟩ 0 ax tk tn none 0 0 none 0 0))/\StX w pb b c T st y r lo vs p us (ph0 9 ⟨0,0,⟨#[]⟩⟩ ⟨#[]⟩ 0 ax tk tn) (pL 9 0 0 ⟨#[]⟩ ⟨#[]⟩ 0 ax tk tn none 0 0 none 0 0) w' :=
 (along_is ax tk tn W).mono fun e w' ⟨h1,h2⟩=>⟨h1,h.below h2,v_ph0⟩
def dosP:Ph:=ph0 9 ⟨0,0,⟨#[]⟩⟩ ⟨#[]⟩ 0 3 1 ⟨#[]⟩
def pathP (p q:Ph):Ph:=twoP 21 ⟨#[]⟩ p q
def chP (p0:Ph) (SEP:Nat->Bool) (A:Nat->Ph):Nat->Ph
 | 0=>p0
 | k + 1=>pathP (if SEP k=true then pathP (chP p0 SEP A k) dosP else chP p0 SEP A k) (A k)
def leftW (pb:Nat) (W:World):Nat:=match W.cell? ⟨pb,1,none⟩ with
 | some (.int _ a)=>1000 - a.toNat
 | _=>0
theorem PaS.leftW {W:World} {pb b c:Nat} {T:List Tok} {st:Pst} (h:PaS W pb b c T st):leftW pb W=1000 - st.at':=by
 unfold Go.Proofs.YtmcmbdkpfcibkaaGreatDoor.leftW
 rw [h.a]
 rfl
def StI (w:World) (pb b c:Nat) (T:List Tok) (ST:Nat->Pst) (y r lo:Nat) (p0:Ph) (SEP:Nat->Bool) (A:Nat->Ph) (n:Nat) (W:World):Prop:=∃ k,k<=n/\∃ (k0_1 k1_1 k2_1 k5_1 k6_1 k7_1:Int) (s3_1 s4_1 s8_1:ByteArray) (a9_1 a10_1:Option Addr) (l9_1 c9_1 l10_1 c10_1:Nat),StW w pb b c T (ST k) y r lo (pA k0_1 k1_1 k2_1 s3_1 s4_1 k5_1 k6_1 k7_1 s8_1 a9_1 l9_1 c9_1 a10_1 l10_1 c10_1) (chP p0 SEP A k) (pL k0_1 k1_1 k2_1 s3_1 s4_1 k5_1 k6_1 k7_1 s8_1 a9_1 l9_1 c9_1 a10_1 l10_1 c10_1) W
theorem steps_is {pb b c:Nat} {T:List Tok} {n:Nat} {ST:Nat->Pst} {SEP:Nat->Bool} {A:Nat->Ph} {p0:Ph} (hT:T.length<=200) (hS:∀ k,k<=n->(ST k).at'<=299)
 (hs1:∀ k,k<n->SEP k=false->eqT (seeM T (ST k) 0) ⟨5,⟨#[47]⟩,0⟩=true)
 (hs2:∀ k,k<n->SEP k=true->eqT (seeM T (ST k) 0) ⟨5,⟨#[47]⟩,0⟩=false/\eqT (seeM T (ST k) 0) ⟨5,⟨#[47,47]⟩,0⟩=true)
 (hr:∀ k,k<n->RunT pb b c T 169 #[vP pb 0] { ST k with at':=(ST k).at' + 1 } (ST (k + 1)) (A k))
 (he:eqT (seeM T (ST n) 0) ⟨5,⟨#[47]⟩,0⟩=false/\eqT (seeM T (ST n) 0) ⟨5,⟨#[47,47]⟩,0⟩=false)
 (hmono:∀ k,k<n->(ST k).at'<(ST (k + 1)).at') {lo:Nat} {w:World} {k0_1 k1_1 k2_1 k5_1 k6_1 k7_1:Int} {s3_1 s4_1 s8_1:ByteArray} {a9_1 a10_1:Option Addr} {l9_1 c9_1 l10_1 c10_1:Nat} (h:PaS w pb b c T (ST 0)) (htb:RTab w pb) (hv:Tre w lo p0 (pL k0_1 k1_1 k2_1 s3_1 s4_1 k5_1 k6_1 k7_1 s8_1 a9_1 l9_1 c9_1 a10_1 l10_1 c10_1)) (hlp:pb<lo) (hlo:lo<=w.heap.size) :
 Calls Tryz.prog 168 #[vP pb 0,.agg (pA k0_1 k1_1 k2_1 s3_1 s4_1 k5_1 k6_1 k7_1 s8_1 a9_1 l9_1 c9_1 a10_1 l10_1 c10_1)] w fun e w'=>∃ (k0_1 k1_1 k2_1 k5_1 k6_1 k7_1:Int) (s3_1 s4_1 s8_1:ByteArray) (a9_1 a10_1:Option Addr) (l9_1 c9_1 l10_1 c10_1:Nat),e=.returned (.agg (pA k0_1 k1_1 k2_1 s3_1 s4_1 k5_1 k6_1 k7_1 s8_1 a9_1 l9_1 c9_1 a10_1 l10_1 c10_1))/\Tre w' lo (chP p0 SEP A n) (pL k0_1 k1_1 k2_1 s3_1 s4_1 k5_1 k6_1 k7_1 s8_1 a9_1 l9_1 c9_1 a10_1 l10_1 c10_1)/\PaS w' pb b c T (ST n)/\GrowA pb w w':=by
 have HTB:=HidOf htb
 have HR:=HidOf hr
 have HE:=HidOf he
 have hpl:=h.pl
 have hbl:=h.bl
 have hyp:w.heap.size≠pb:=by omega
 have hyb:w.heap.size≠b:=by omega
 clear htb hr he
 go_enter Tryz.func168,Tryz.ntmps168
 go_wp2
 obtain ⟨W1,hW1⟩:∃ W,W=(w.alloc (.cells (pA k0_1 k1_1 k2_1 s3_1 s4_1 k5_1 k6_1 k7_1 s8_1 a9_1 l9_1 c9_1 a10_1 l10_1 c10_1) 44)).alloc (.cells (pZA 0) 44):=⟨_,rfl⟩
 have HB1:Hid (Below w.heap.size w W1):=by rw [hW1];exact ((Below.refl _ _).alloc (Nat.le_refl _) _).alloc (by simp) _
 have HY1:Hid (PhB W1 w.heap.size (pA k0_1 k1_1 k2_1 s3_1 s4_1 k5_1 k6_1 k7_1 s8_1 a9_1 l9_1 c9_1 a10_1 l10_1 c10_1)):=by rw [hW1];exact (PhB.new w _).allocI _
 have HR1:Hid (PhZ W1 (w.heap.size + 1)):=by
  have k:=PhB.new (w.alloc (.cells (pA k0_1 k1_1 k2_1 s3_1 s4_1 k5_1 k6_1 k7_1 s8_1 a9_1 l9_1 c9_1 a10_1 l10_1 c10_1) 44)) (pZA 0)
  rw [show (w.alloc (.cells (pA k0_1 k1_1 k2_1 s3_1 s4_1 k5_1 k6_1 k7_1 s8_1 a9_1 l9_1 c9_1 a10_1 l10_1 c10_1) 44)).heap.size=w.heap.size + 1 by simp] at k
  rw [hW1];exact k
 rw [<- hW1]
 clear hW1
 obtain ⟨y,hy⟩:∃ y,y=w.heap.size:=⟨_,rfl⟩
 obtain ⟨r,hr'⟩:∃ r,r=w.heap.size + 1:=⟨_,rfl⟩
 have hyw:w.heap.size<=y:=by omega
 have hrw:w.heap.size<=r:=by omega
 have hry:r≠y:=by omega
 have hrp:r≠pb:=by omega
 have hrb:r≠b:=by omega
 rw [<- hy] at hyp hyb
 have HI0:Hid (StW w pb b c T (ST 0) y r lo (pA k0_1 k1_1 k2_1 s3_1 s4_1 k5_1 k6_1 k7_1 s8_1 a9_1 l9_1 c9_1 a10_1 l10_1 c10_1) (chP p0 SEP A 0) (pL k0_1 k1_1 k2_1 s3_1 s4_1 k5_1 k6_1 k7_1 s8_1 a9_1 l9_1 c9_1 a10_1 l10_1 c10_1) W1):=⟨h.below HB1.out,(GrowA.refl _ _).below HB1.out,by rw [hy];exact HY1.out,by rw [hr'];exact HR1.out,Ph.V.keep (fun b q=>⟨q.1,Nat.lt_of_lt_of_le q.2 HB1.out.size,by omega,by omega⟩) (fun b q=>HB1.out.block b q.2) hv⟩
 rw [<- hr']
 try rw [<- hy]
 clear hy hr' HY1 HR1 HB1 h hv
 go_loopw [] (fun wr=>StI w pb b c T ST y r lo p0 SEP A n wr) (fun wr=>leftW pb wr)
 case atStart=>exact ⟨0,Nat.zero_le _,k0_1,k1_1,k2_1,k5_1,k6_1,k7_1,s3_1,s4_1,s8_1,a9_1,a10_1,l9_1,c9_1,l10_1,c10_1,HI0.out⟩
 case round =>
  clear HI0
  obtain ⟨k,hk,k0_1,k1_1,k2_1,k5_1,k6_1,k7_1,s3_1,s4_1,s8_1,a9_1,a10_1,l9_1,c9_1,l10_1,c10_1,hI⟩:=hrel
  have HI1:=HidOf hI
  have hm0:=hI.P.leftW
  have hat:=Nat.le_trans (hS k hk) (by decide:299<=300)
  clear hI
  by_cases hkn:k<n
  · cases hsep:SEP k
    · have HC:=hs1 k hkn hsep
      go_upto_region 5 with (first
       | (go_at_call 82;have HNX:=HI1;refine (mark_is _ _).mono ?_;rintro e w2 ⟨rfl,hb⟩;have HI2:=HidOf (HI1.out.below hb);clear hb HNX HI1)
       | (go_at_call 85;refine (skip_yes HI2.out.P hT hat _ _ _ HC).mono ?_;rintro e w3 ⟨rfl,hp,hg⟩;have HI3:=HidOf (HI2.out.grow hlp hyp hrp hp hg);clear hp hg HI2))
      have HI3:Hid (StW w pb b c T { ST k with at':=(ST k).at' + 1 } y r lo (pA k0_1 k1_1 k2_1 s3_1 s4_1 k5_1 k6_1 k7_1 s8_1 a9_1 l9_1 c9_1 a10_1 l10_1 c10_1) (chP p0 SEP A k) (pL k0_1 k1_1 k2_1 s3_1 s4_1 k5_1 k6_1 k7_1 s8_1 a9_1 l9_1 c9_1 a10_1 l10_1 c10_1) w3):=HI3.out
      have HAY:Hid (∀ W,PhB W y (pA k0_1 k1_1 k2_1 s3_1 s4_1 k5_1 k6_1 k7_1 s8_1 a9_1 l9_1 c9_1 a10_1 l10_1 c10_1)->W.cell? ⟨y,0,none⟩=some (vI k0_1)/\W.cell? ⟨y,1,none⟩=some (vI k1_1)/\W.cell? ⟨y,2,none⟩=some (vI k2_1)/\W.cell? ⟨y,3,none⟩=some (vS s3_1)/\W.cell? ⟨y,4,none⟩=some (vS s4_1)/\W.cell? ⟨y,5,none⟩=some (vI k5_1)/\W.cell? ⟨y,6,none⟩=some (vI k6_1)/\W.cell? ⟨y,7,none⟩=some (vI k7_1)/\W.cell? ⟨y,8,none⟩=some (vS s8_1)/\W.cell? ⟨y,9,none⟩=some (.slice a9_1 l9_1 c9_1)/\W.cell? ⟨y,10,none⟩=some (.slice a10_1 l10_1 c10_1)):=fun W h=>h.cells.1
      have HY3:Hid (PhB w3 y (pA k0_1 k1_1 k2_1 s3_1 s4_1 k5_1 k6_1 k7_1 s8_1 a9_1 l9_1 c9_1 a10_1 l10_1 c10_1)):=HI3.out.Y
      have hl3:lo<=w3.heap.size:=Nat.le_trans hlo HI3.out.G.1
      obtain ⟨⟨m0,m1,m2,m3,m4,m5,m6,m7,m8,m9,m10⟩,j0,j1,j2,j3,j4,j5,j6,j7,j8,j9,j10⟩:=HI3.out.Y.cells
      have hyz:=HI3.out.Y.lt
      have CS:Hid (∀ W,lo<=W.heap.size->StW w pb b c T { ST k with at':=(ST k).at' + 1 } y r lo (pA k0_1 k1_1 k2_1 s3_1 s4_1 k5_1 k6_1 k7_1 s8_1 a9_1 l9_1 c9_1 a10_1 l10_1 c10_1) (chP p0 SEP A k) (pL k0_1 k1_1 k2_1 s3_1 s4_1 k5_1 k6_1 k7_1 s8_1 a9_1 l9_1 c9_1 a10_1 l10_1 c10_1) W->Calls Tryz.prog 169 #[vP pb 0] W _):=fun W hl h=>h.run hlp hyp hrp hl (HR.out k hkn) HTB.out
      have CPO:Hid (∀ (k0_2 k1_2 k2_2 k5_2 k6_2 k7_2:Int) (s3_2 s4_2 s8_2:ByteArray) (a9_2 a10_2:Option Addr) (l9_2 c9_2 l10_2 c10_2:Nat) W,lo<=W.heap.size->StX w pb b c T (ST (k + 1)) y r lo (pA k0_1 k1_1 k2_1 s3_1 s4_1 k5_1 k6_1 k7_1 s8_1 a9_1 l9_1 c9_1 a10_1 l10_1 c10_1) (chP p0 SEP A k) (pL k0_1 k1_1 k2_1 s3_1 s4_1 k5_1 k6_1 k7_1 s8_1 a9_1 l9_1 c9_1 a10_1 l10_1 c10_1) (A k) (pL k0_2 k1_2 k2_2 s3_2 s4_2 k5_2 k6_2 k7_2 s8_2 a9_2 l9_2 c9_2 a10_2 l10_2 c10_2) W->Calls Tryz.prog 170 _ W _):=fun _ _ _ _ _ _ _ _ _ _ _ _ _ _ _ W hl h=>h.pathOf hl
      go_region_with (first
       | (go_at_call 169;refine (CS.out _ ?_ ?_).mono ?_;(focus (first | exact hl3 | (simp;exact hl3)));(focus (repeat (first | with_reducible exact Hid.out (by with_reducible assumption) | with_reducible refine StW.drew ?_)));rintro e w4 ⟨k0_2,k1_2,k2_2,k5_2,k6_2,k7_2,s3_2,s4_2,s8_2,a9_2,a10_2,l9_2,c9_2,l10_2,c10_2,rfl,hx⟩;have HX4:=HidOf hx;have HY4:Hid (PhB w4 y (pA k0_1 k1_1 k2_1 s3_1 s4_1 k5_1 k6_1 k7_1 s8_1 a9_1 l9_1 c9_1 a10_1 l10_1 c10_1)):=hx.S.Y;have hl4:lo<=w4.heap.size:=Nat.le_trans hlo hx.S.G.1;obtain ⟨⟨m0,m1,m2,m3,m4,m5,m6,m7,m8,m9,m10⟩,j0,j1,j2,j3,j4,j5,j6,j7,j8,j9,j10⟩:=hx.S.Y.cells;have hyz:=hx.S.Y.lt;clear hx HI3 CS)
       | (go_at_call 170;refine (CPO.out _ _ _ _ _ _ _ _ _ _ _ _ _ _ _ _ ?_ ?_).mono ?_;(focus (first | exact hl4 | (simp;exact hl4)));(focus (repeat (first | with_reducible exact Hid.out (by with_reducible assumption) | with_reducible refine StX.drew ?_)));rintro e w5 ⟨g5,rfl,hx⟩;have HX5:=HidOf hx;have HY5:Hid (PhB w5 y (pA k0_1 k1_1 k2_1 s3_1 s4_1 k5_1 k6_1 k7_1 s8_1 a9_1 l9_1 c9_1 a10_1 l10_1 c10_1)):=hx.S.Y;obtain ⟨_,i0,i1,i2,i3,i4,i5,i6,i7,i8,i9,i10⟩:=hx.S.Y.cells;have hyz5:=hx.S.Y.lt;clear hx HX4 CPO))
      all_goals
       obtain ⟨w6,hw6⟩:∃ W,W=putC w5 y 0 (pL 21 0 0 ⟨#[]⟩ ⟨#[]⟩ 0 0 0 ⟨#[]⟩ (some ⟨g5,0,none⟩) 2 2 none 0 0):=⟨_,rfl⟩
       have HI6:Hid (StW w pb b c T (ST (k + 1)) y r lo (pA 21 0 0 ⟨#[]⟩ ⟨#[]⟩ 0 0 0 ⟨#[]⟩ (some ⟨g5,0,none⟩) 2 2 none 0 0) (chP p0 SEP A (k + 1)) (pL 21 0 0 ⟨#[]⟩ ⟨#[]⟩ 0 0 0 ⟨#[]⟩ (some ⟨g5,0,none⟩) 2 2 none 0 0) w6):=by rw [hw6];exact HX5.out.S.put hyp hyb hyw hry (pL 21 0 0 ⟨#[]⟩ ⟨#[]⟩ 0 0 0 ⟨#[]⟩ (some ⟨g5,0,none⟩) 2 2 none 0 0) rfl (by have q:=HX5.out.Q;rw [chP,hsep];exact q)
       simp only [putC] at hw6
       rw [<- hw6]
       clear hw6 HX5 HY3 HY4 HY5 HAY hyz hyz5 m0 m1 m2 m3 m4 m5 m6 m7 m8 m9 m10 j0 j1 j2 j3 j4 j5 j6 j7 j8 j9 j10 i0 i1 i2 i3 i4 i5 i6 i7 i8 i9 i10 hl3 hl4
       have hm8:leftW pb w6<leftW pb wr:=by rw [HI6.out.P.leftW,hm0];have:=hmono k hkn;have:=hS (k + 1) (by omega);omega
       go_wp2
       go_roundw
       case rel=>exact ⟨k + 1,by omega,21,0,0,0,0,0,⟨#[]⟩,⟨#[]⟩,⟨#[]⟩,some ⟨g5,0,none⟩,none,2,2,0,0,HI6.out⟩
       case measure=>exact hm8
    · have HC:=hs2 k hkn hsep
      go_upto_region 4 with (first
       | (go_at_call 82;have HNX:=HI1;refine (mark_is _ _).mono ?_;rintro e w2 ⟨rfl,hb⟩;have HI2:=HidOf (HI1.out.below hb);clear hb HNX HI1)
       | (go_at_call 85;refine (skip_no HI2.out.P hT hat _ _ _ HC.1).mono ?_;rintro e w3 ⟨rfl,hp,hg⟩;have HI3:=HidOf (HI2.out.grow hlp hyp hrp hp hg);clear hp hg HI2)
       | (go_at_call 82;have HNX:=HI3;refine (mark_is _ _).mono ?_;rintro e w4 ⟨rfl,hb⟩;have HI4:=HidOf (HI3.out.below hb);clear hb HNX HI3)
       | (go_at_call 85;refine (skip_yes HI4.out.P hT hat _ _ _ HC.2).mono ?_;rintro e w5 ⟨rfl,hp,hg⟩;have HI5:=HidOf (HI4.out.grow hlp hyp hrp hp hg);clear hp hg HI4))
      have HI5:Hid (StW w pb b c T { ST k with at':=(ST k).at' + 1 } y r lo (pA k0_1 k1_1 k2_1 s3_1 s4_1 k5_1 k6_1 k7_1 s8_1 a9_1 l9_1 c9_1 a10_1 l10_1 c10_1) (chP p0 SEP A k) (pL k0_1 k1_1 k2_1 s3_1 s4_1 k5_1 k6_1 k7_1 s8_1 a9_1 l9_1 c9_1 a10_1 l10_1 c10_1) w5):=HI5.out
      have HAY:Hid (∀ W,PhB W y (pA k0_1 k1_1 k2_1 s3_1 s4_1 k5_1 k6_1 k7_1 s8_1 a9_1 l9_1 c9_1 a10_1 l10_1 c10_1)->W.cell? ⟨y,0,none⟩=some (vI k0_1)/\W.cell? ⟨y,1,none⟩=some (vI k1_1)/\W.cell? ⟨y,2,none⟩=some (vI k2_1)/\W.cell? ⟨y,3,none⟩=some (vS s3_1)/\W.cell? ⟨y,4,none⟩=some (vS s4_1)/\W.cell? ⟨y,5,none⟩=some (vI k5_1)/\W.cell? ⟨y,6,none⟩=some (vI k6_1)/\W.cell? ⟨y,7,none⟩=some (vI k7_1)/\W.cell? ⟨y,8,none⟩=some (vS s8_1)/\W.cell? ⟨y,9,none⟩=some (.slice a9_1 l9_1 c9_1)/\W.cell? ⟨y,10,none⟩=some (.slice a10_1 l10_1 c10_1)):=fun W h=>h.cells.1
      have HY5:Hid (PhB w5 y (pA k0_1 k1_1 k2_1 s3_1 s4_1 k5_1 k6_1 k7_1 s8_1 a9_1 l9_1 c9_1 a10_1 l10_1 c10_1)):=HI5.out.Y
      have hl5:lo<=w5.heap.size:=Nat.le_trans hlo HI5.out.G.1
      obtain ⟨⟨m0,m1,m2,m3,m4,m5,m6,m7,m8,m9,m10⟩,j0,j1,j2,j3,j4,j5,j6,j7,j8,j9,j10⟩:=HI5.out.Y.cells
      have hyz:=HI5.out.Y.lt
      have CA:Hid (∀ W,StW w pb b c T { ST k with at':=(ST k).at' + 1 } y r lo (pA k0_1 k1_1 k2_1 s3_1 s4_1 k5_1 k6_1 k7_1 s8_1 a9_1 l9_1 c9_1 a10_1 l10_1 c10_1) (chP p0 SEP A k) (pL k0_1 k1_1 k2_1 s3_1 s4_1 k5_1 k6_1 k7_1 s8_1 a9_1 l9_1 c9_1 a10_1 l10_1 c10_1) W->Calls Tryz.prog 171 #[vI 3,.agg #[vI 1,vE]] W _):=fun W h=>h.along 3 1 ⟨#[]⟩
      have CPO:Hid (∀ W,lo<=W.heap.size->StX w pb b c T { ST k with at':=(ST k).at' + 1 } y r lo (pA k0_1 k1_1 k2_1 s3_1 s4_1 k5_1 k6_1 k7_1 s8_1 a9_1 l9_1 c9_1 a10_1 l10_1 c10_1) (chP p0 SEP A k) (pL k0_1 k1_1 k2_1 s3_1 s4_1 k5_1 k6_1 k7_1 s8_1 a9_1 l9_1 c9_1 a10_1 l10_1 c10_1) dosP (pL 9 0 0 ⟨#[]⟩ ⟨#[]⟩ 0 3 1 ⟨#[]⟩ none 0 0 none 0 0) W->Calls Tryz.prog 170 _ W _):=fun W hl h=>h.pathOf hl
      go_region_with (first
       | (go_at_call 171;refine (CA.out _ ?_).mono ?_;(focus (repeat (first | with_reducible exact Hid.out (by with_reducible assumption) | with_reducible refine StW.drew ?_)));rintro e w6 ⟨rfl,hx⟩;have HX6:Hid (StX w pb b c T { ST k with at':=(ST k).at' + 1 } y r lo (pA k0_1 k1_1 k2_1 s3_1 s4_1 k5_1 k6_1 k7_1 s8_1 a9_1 l9_1 c9_1 a10_1 l10_1 c10_1) (chP p0 SEP A k) (pL k0_1 k1_1 k2_1 s3_1 s4_1 k5_1 k6_1 k7_1 s8_1 a9_1 l9_1 c9_1 a10_1 l10_1 c10_1) dosP (pL 9 0 0 ⟨#[]⟩ ⟨#[]⟩ 0 3 1 ⟨#[]⟩ none 0 0 none 0 0) w6):=hx;have HY6:Hid (PhB w6 y (pA k0_1 k1_1 k2_1 s3_1 s4_1 k5_1 k6_1 k7_1 s8_1 a9_1 l9_1 c9_1 a10_1 l10_1 c10_1)):=hx.S.Y;have hl6:lo<=w6.heap.size:=Nat.le_trans hlo hx.S.G.1;obtain ⟨⟨m0,m1,m2,m3,m4,m5,m6,m7,m8,m9,m10⟩,j0,j1,j2,j3,j4,j5,j6,j7,j8,j9,j10⟩:=hx.S.Y.cells;have hyz:=hx.S.Y.lt;clear hx HI5 CA)
       | (go_at_call 170;refine (CPO.out _ ?_ ?_).mono ?_;(focus (first | exact hl6 | (simp;exact hl6)));(focus (repeat (first | with_reducible exact Hid.out (by with_reducible assumption) | with_reducible refine StX.drew ?_)));rintro e w7 ⟨g4,rfl,hx⟩;have HX7:=HidOf hx;have HY7:Hid (PhB w7 y (pA k0_1 k1_1 k2_1 s3_1 s4_1 k5_1 k6_1 k7_1 s8_1 a9_1 l9_1 c9_1 a10_1 l10_1 c10_1)):=hx.S.Y;obtain ⟨_,i0,i1,i2,i3,i4,i5,i6,i7,i8,i9,i10⟩:=hx.S.Y.cells;have hyz7:=hx.S.Y.lt;clear hx HX6 CPO))
      all_goals
       obtain ⟨w8,hw8⟩:∃ W,W=putC w7 y 0 (pL 21 0 0 ⟨#[]⟩ ⟨#[]⟩ 0 0 0 ⟨#[]⟩ (some ⟨g4,0,none⟩) 2 2 none 0 0):=⟨_,rfl⟩
       have HI8:Hid (StW w pb b c T { ST k with at':=(ST k).at' + 1 } y r lo (pA 21 0 0 ⟨#[]⟩ ⟨#[]⟩ 0 0 0 ⟨#[]⟩ (some ⟨g4,0,none⟩) 2 2 none 0 0) (pathP (chP p0 SEP A k) dosP) (pL 21 0 0 ⟨#[]⟩ ⟨#[]⟩ 0 0 0 ⟨#[]⟩ (some ⟨g4,0,none⟩) 2 2 none 0 0) w8):=by rw [hw8];exact HX7.out.S.put hyp hyb hyw hry (pL 21 0 0 ⟨#[]⟩ ⟨#[]⟩ 0 0 0 ⟨#[]⟩ (some ⟨g4,0,none⟩) 2 2 none 0 0) rfl HX7.out.Q
       simp only [putC] at hw8
       rw [<- hw8]
       clear hw8 HX7 HY5 HY6 HY7 HAY hyz hyz7 m0 m1 m2 m3 m4 m5 m6 m7 m8 m9 m10 j0 j1 j2 j3 j4 j5 j6 j7 j8 j9 j10 i0 i1 i2 i3 i4 i5 i6 i7 i8 i9 i10 hl5 hl6
       go_wp2_with fail
       have HAY:Hid (∀ W,PhB W y (pA 21 0 0 ⟨#[]⟩ ⟨#[]⟩ 0 0 0 ⟨#[]⟩ (some ⟨g4,0,none⟩) 2 2 none 0 0)->W.cell? ⟨y,0,none⟩=some (vI 21)/\W.cell? ⟨y,1,none⟩=some (vI 0)/\W.cell? ⟨y,2,none⟩=some (vI 0)/\W.cell? ⟨y,3,none⟩=some (vE)/\W.cell? ⟨y,4,none⟩=some (vE)/\W.cell? ⟨y,5,none⟩=some (vI 0)/\W.cell? ⟨y,6,none⟩=some (vI 0)/\W.cell? ⟨y,7,none⟩=some (vI 0)/\W.cell? ⟨y,8,none⟩=some (vE)/\W.cell? ⟨y,9,none⟩=some (vL g4 0 2 2)/\W.cell? ⟨y,10,none⟩=some (vN)):=fun W h=>h.cells.1
       have HY8:Hid (PhB w8 y (pA 21 0 0 ⟨#[]⟩ ⟨#[]⟩ 0 0 0 ⟨#[]⟩ (some ⟨g4,0,none⟩) 2 2 none 0 0)):=HI8.out.Y
       have hl8:lo<=w8.heap.size:=Nat.le_trans hlo HI8.out.G.1
       obtain ⟨⟨m0,m1,m2,m3,m4,m5,m6,m7,m8,m9,m10⟩,j0,j1,j2,j3,j4,j5,j6,j7,j8,j9,j10⟩:=HI8.out.Y.cells
       have hyz:=HI8.out.Y.lt
       have CS:Hid (∀ W,lo<=W.heap.size->StW w pb b c T { ST k with at':=(ST k).at' + 1 } y r lo (pA 21 0 0 ⟨#[]⟩ ⟨#[]⟩ 0 0 0 ⟨#[]⟩ (some ⟨g4,0,none⟩) 2 2 none 0 0) (pathP (chP p0 SEP A k) dosP) (pL 21 0 0 ⟨#[]⟩ ⟨#[]⟩ 0 0 0 ⟨#[]⟩ (some ⟨g4,0,none⟩) 2 2 none 0 0) W->Calls Tryz.prog 169 #[vP pb 0] W _):=fun W hl h=>h.run hlp hyp hrp hl (HR.out k hkn) HTB.out
       have CPO:Hid (∀ (k0_2 k1_2 k2_2 k5_2 k6_2 k7_2:Int) (s3_2 s4_2 s8_2:ByteArray) (a9_2 a10_2:Option Addr) (l9_2 c9_2 l10_2 c10_2:Nat) W,lo<=W.heap.size->StX w pb b c T (ST (k + 1)) y r lo (pA 21 0 0 ⟨#[]⟩ ⟨#[]⟩ 0 0 0 ⟨#[]⟩ (some ⟨g4,0,none⟩) 2 2 none 0 0) (pathP (chP p0 SEP A k) dosP) (pL 21 0 0 ⟨#[]⟩ ⟨#[]⟩ 0 0 0 ⟨#[]⟩ (some ⟨g4,0,none⟩) 2 2 none 0 0) (A k) (pL k0_2 k1_2 k2_2 s3_2 s4_2 k5_2 k6_2 k7_2 s8_2 a9_2 l9_2 c9_2 a10_2 l10_2 c10_2) W->Calls Tryz.prog 170 _ W _):=fun _ _ _ _ _ _ _ _ _ _ _ _ _ _ _ W hl h=>h.pathOf hl
       go_region_with (first
        | (go_at_call 169;refine (CS.out _ ?_ ?_).mono ?_;(focus (first | exact hl8 | (simp;exact hl8)));(focus (repeat (first | with_reducible exact Hid.out (by with_reducible assumption) | with_reducible refine StW.drew ?_)));rintro e w9 ⟨k0_2,k1_2,k2_2,k5_2,k6_2,k7_2,s3_2,s4_2,s8_2,a9_2,a10_2,l9_2,c9_2,l10_2,c10_2,rfl,hx⟩;have HX9:=HidOf hx;have HY9:Hid (PhB w9 y (pA 21 0 0 ⟨#[]⟩ ⟨#[]⟩ 0 0 0 ⟨#[]⟩ (some ⟨g4,0,none⟩) 2 2 none 0 0)):=hx.S.Y;have hl9:lo<=w9.heap.size:=Nat.le_trans hlo hx.S.G.1;obtain ⟨⟨m0,m1,m2,m3,m4,m5,m6,m7,m8,m9,m10⟩,j0,j1,j2,j3,j4,j5,j6,j7,j8,j9,j10⟩:=hx.S.Y.cells;have hyz:=hx.S.Y.lt;clear hx HI8 CS)
        | (go_at_call 170;refine (CPO.out _ _ _ _ _ _ _ _ _ _ _ _ _ _ _ _ ?_ ?_).mono ?_;(focus (first | exact hl9 | (simp;exact hl9)));(focus (repeat (first | with_reducible exact Hid.out (by with_reducible assumption) | with_reducible refine StX.drew ?_)));rintro e w10 ⟨g5,rfl,hx⟩;have HX10:=HidOf hx;have HY10:Hid (PhB w10 y (pA 21 0 0 ⟨#[]⟩ ⟨#[]⟩ 0 0 0 ⟨#[]⟩ (some ⟨g4,0,none⟩) 2 2 none 0 0)):=hx.S.Y;obtain ⟨_,i0,i1,i2,i3,i4,i5,i6,i7,i8,i9,i10⟩:=hx.S.Y.cells;have hyz10:=hx.S.Y.lt;clear hx HX9 CPO))
       all_goals
        obtain ⟨w11,hw11⟩:∃ W,W=putC w10 y 0 (pL 21 0 0 ⟨#[]⟩ ⟨#[]⟩ 0 0 0 ⟨#[]⟩ (some ⟨g5,0,none⟩) 2 2 none 0 0):=⟨_,rfl⟩
        have HI11:Hid (StW w pb b c T (ST (k + 1)) y r lo (pA 21 0 0 ⟨#[]⟩ ⟨#[]⟩ 0 0 0 ⟨#[]⟩ (some ⟨g5,0,none⟩) 2 2 none 0 0) (chP p0 SEP A (k + 1)) (pL 21 0 0 ⟨#[]⟩ ⟨#[]⟩ 0 0 0 ⟨#[]⟩ (some ⟨g5,0,none⟩) 2 2 none 0 0) w11):=by rw [hw11];exact HX10.out.S.put hyp hyb hyw hry (pL 21 0 0 ⟨#[]⟩ ⟨#[]⟩ 0 0 0 ⟨#[]⟩ (some ⟨g5,0,none⟩) 2 2 none 0 0) rfl (by have q:=HX10.out.Q;rw [chP,hsep];exact q)
        simp only [putC] at hw11
        rw [<- hw11]
        clear hw11 HX10 HY8 HY9 HY10 HAY hyz hyz10 m0 m1 m2 m3 m4 m5 m6 m7 m8 m9 m10 j0 j1 j2 j3 j4 j5 j6 j7 j8 j9 j10 i0 i1 i2 i3 i4 i5 i6 i7 i8 i9 i10 hl8 hl9
        have hm8:leftW pb w11<leftW pb wr:=by rw [HI11.out.P.leftW,hm0];have:=hmono k hkn;have:=hS (k + 1) (by omega);omega
        go_wp2
        go_roundw
        case rel=>exact ⟨k + 1,by omega,21,0,0,0,0,0,⟨#[]⟩,⟨#[]⟩,⟨#[]⟩,some ⟨g5,0,none⟩,none,2,2,0,0,HI11.out⟩
        case measure=>exact hm8
  · obtain rfl:k=n:=by omega
    go_wp2_with (first
     | (go_at_call 82;have HNX:=HI1;refine (mark_is _ _).mono ?_;rintro e w2 ⟨rfl,hb⟩;have HI2:=HidOf (HI1.out.below hb);clear hb HNX HI1)
     | (go_at_call 85;refine (skip_no HI2.out.P hT hat _ _ _ HE.out.1).mono ?_;rintro e w3 ⟨rfl,hp,hg⟩;have HI3:=HidOf (HI2.out.grow hlp hyp hrp hp hg);clear hp hg HI2)
     | (go_at_call 82;have HNX:=HI3;refine (mark_is _ _).mono ?_;rintro e w4 ⟨rfl,hb⟩;have HI4:=HidOf (HI3.out.below hb);clear hb HNX HI3)
     | (go_at_call 85;refine (skip_no HI4.out.P hT hat _ _ _ HE.out.2).mono ?_;rintro e w5 ⟨rfl,hp,hg⟩;have HI5:=HidOf (HI4.out.grow hlp hyp hrp hp hg);have hyz:=HI5.out.Y.lt;have hrz:=HI5.out.R.lt;obtain ⟨⟨m0,m1,m2,m3,m4,m5,m6,m7,m8,m9,m10⟩,j0,j1,j2,j3,j4,j5,j6,j7,j8,j9,j10⟩:=HI5.out.Y.cells;obtain ⟨⟨y0,y1,y2,y3,y4,y5,y6,y7,y8,y9,y10⟩,z0,z1,z2,z3,z4,z5,z6,z7,z8,z9,z10⟩:=HI5.out.R.cells;clear hp hg HI4))
    refine bodyPost_ret (v:=.agg (pA k0_1 k1_1 k2_1 s3_1 s4_1 k5_1 k6_1 k7_1 s8_1 a9_1 l9_1 c9_1 a10_1 l10_1 c10_1)) (by simp [results,Tryz.results168,go_sem,y0,y1,y2,y3,y4,y5,y6,y7,y8,y9,y10]) rfl ⟨k0_1,k1_1,k2_1,k5_1,k6_1,k7_1,s3_1,s4_1,s8_1,a9_1,a10_1,l9_1,c9_1,l10_1,c10_1,rfl,?_,?_,?_⟩
    · refine v_tre (y:=y) (r:=r) ?_
      (repeat (first | with_reducible refine v_setR ?_ _ _ | exact HI5.out.V))
    · (repeat (first | with_reducible refine PaS.setR ?_ hrp hrb _ _ | exact HI5.out.P))
    · (repeat (first | with_reducible refine GrowA.setR ?_ hrw _ _ | exact HI5.out.G))
end Go.Proofs.YtmcmbdkpfcibkaaGreatDoor
