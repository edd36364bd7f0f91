import Derived.Test.YtmcmbdkpfcibkaaGreatDoorPrQua
import Derived.Test.YtmcmbdkpfcibkaaGreatDoorPmClone
import Derived.Deep.AppendLies
import Derived.Deep.RegionLaw
import Derived.Test.YtmcmbdkpfcibkaaGreatDoorPrSteps
import Derived.Test.YtmcmbdkpfcibkaaGreatDoorCkSt
import Derived.Test.YtmcmbdkpfcibkaaGreatDoorPoNext
import Derived.Test.YtmcmbdkpfcibkaaGreatDoorPrBare
import Derived.BigQuiet
set_option linter.unusedVariables false
set_option maxHeartbeats 6400000
namespace Go.Proofs.YtmcmbdkpfcibkaaGreatDoor
set_option maxRecDepth 100000
open Go.RowKit
def exc (x:Nat) (E:Nat->World->(Nat->Prop)->List Value->Prop):Nat->World->(Nat->Prop)->List Value->Prop:=fun i w S u=>E i w (fun b=>S b/\b≠x) u
theorem exc.keeps {x:Nat} {E:Nat->World->(Nat->Prop)->List Value->Prop} (hE:∀ i,Keeps (E i)):∀ i,Keeps (exc x E i):=fun i w w' S S' u h1 h2 h3=>hE i _ _ _ _ _ (fun b q=>⟨h1 b q.1,q.2⟩) (fun b q=>h2 b q.1) h3
theorem LOwn.toExc {T:TypeId} {sz:Nat} {E:Nat->World->(Nat->Prop)->List Value->Prop} (hE:∀ i,Keeps (E i)) {w:World} {lo x:Nat} {v:Value} {n:Nat} (h:LOwn T sz E w lo v n) (hx:w.heap.size<=x):LOwn T sz (exc x E) w lo v n:=by
 obtain ⟨L,h1,h2⟩:=h
 exact ⟨L,h1,fun i hi=>⟨(h2 i hi).1,hE i _ _ _ _ _ (fun b q=>⟨q,by have:=q.1.2;omega⟩) (fun _ _=>rfl) (h2 i hi).2⟩⟩
theorem LOwn.unExc {T:TypeId} {sz:Nat} {E:Nat->World->(Nat->Prop)->List Value->Prop} (hE:∀ i,Keeps (E i)) {w:World} {lo x:Nat} {v:Value} {n:Nat} (h:LOwn T sz (exc x E) w lo v n):LOwn T sz E w lo v n:=by
 obtain ⟨L,h1,h2⟩:=h
 exact ⟨L,h1,fun i hi=>⟨(h2 i hi).1,hE i _ _ _ _ _ (fun b q=>q.1) (fun _ _=>rfl) (h2 i hi).2⟩⟩
theorem LOwn.setX {T:TypeId} {sz:Nat} {E:Nat->World->(Nat->Prop)->List Value->Prop} (hE:∀ i,Keeps (E i)) {w:World} {lo x:Nat} {v:Value} {n:Nat} (h:LOwn T sz (exc x E) w lo v n) (hx:v.ownBlock≠some x) (k:Nat) (y:Value):LOwn T sz (exc x E) (w.setCell ⟨x,k,none⟩ y) lo v n:=by
 obtain ⟨L,h1,h2⟩:=h
 have hb:∀ b,b≠x->(w.setCell ⟨x,k,none⟩ y).heap[b]?=w.heap[b]?:=fun b q=>Below.heap_setCell _ _ _ _ (by simpa using q)
 refine ⟨L,⟨h1.1,?_⟩,fun i hi=>⟨(h2 i hi).1,hE i _ _ _ _ _ (fun b q=>⟨⟨⟨q.1.1.1,by simpa using q.1.1.2⟩,q.1.2⟩,q.2⟩) (fun b q=>hb b q.2) (h2 i hi).2⟩⟩
 rcases h1.2 with ⟨q1,q2⟩ | ⟨g,cap,cur,q1,q2,q3,q4,q5,q6,q7⟩
 · exact .inl ⟨q1,q2⟩
 · refine .inr ⟨g,cap,cur,q1,q2,?_,q4,q5,q6,q7⟩
   rw [hb g (fun e=>hx (by rw [q1,e];rfl))]
   exact q3
theorem LOwn.pushX {T:TypeId} {sz:Nat} {E:Nat->World->(Nat->Prop)->List Value->Prop} (hE:∀ i,Keeps (E i)) {w w':World} {lo lo1 x g c:Nat} {v:Value} {n:Nat} {L:Nat->List Value} {u:List Value}
 (h2:∀ i,i<n->(L i).length=sz/\exc x E i w (fun b=>(lo<=b/\b<w.heap.size)/\v.ownBlock≠some b) (L i)) (hu:u.length=sz) (hEu:E n w (fun b=>lo1<=b/\b<w.heap.size) u) (hl:lo<=lo1) (hx:x<lo1) (hvl:∀ k,v.ownBlock=some k->k<lo1)
 (ho:w'.ownsRow lo T sz (vL g 0 (n + 1) c) (n + 1) ((List.range n).flatMap L ++ u)) (hg:w.grownBy w' v.ownBlock) (hv:v.ownBlock=some g\/g=w.heap.size):LOwn T sz (exc x E) w' lo (vL g 0 (n + 1) c) (n + 1) :=
 LOwn.push (lo1:=lo1) (exc.keeps hE) h2 hu (hE n _ _ _ _ _ (fun b q=>⟨q,by have:=q.1;omega⟩) (fun _ _=>rfl) hEu) hl hvl ho hg (by rcases hv with h | h;exact .inl h.symm;exact .inr (by rw [h];rfl))
open Go.RowKit
def binP (nm:ByteArray) (p q:Ph):Ph:=twoP 25 nm p q
def chB (p0:Ph) (NM:Nat->ByteArray) (A:Nat->Ph):Nat->Ph
 | 0=>p0
 | k + 1=>binP (NM k) (chB p0 NM A k) (A k)
theorem StX.two {w:World} {pb b c:Nat} {T:List Tok} {st:Pst} {y r lo:Nat} {vs:Array Value} {p q:Ph} {W:World} {k0_1 k1_1 k2_1 k5_1 k6_1 k7_1 k0_2 k1_2 k2_2 k5_2 k6_2 k7_2:Int} {s3_1 s4_1 s8_1 s3_2 s4_2 s8_2:ByteArray} {a9_1 a10_1 a9_2 a10_2:Option Addr} {l9_1 c9_1 l10_1 c10_1 l9_2 c9_2 l10_2 c10_2:Nat} (h:StX w pb b c T st y r lo vs p (pL k0_1 k1_1 k2_1 s3_1 s4_1 k5_1 k6_1 k7_1 s8_1 a9_1 l9_1 c9_1 a10_1 l10_1 c10_1) q (pL k0_2 k1_2 k2_2 s3_2 s4_2 k5_2 k6_2 k7_2 s8_2 a9_2 l9_2 c9_2 a10_2 l10_2 c10_2) W) (hl:lo<=W.heap.size) (hyp:y≠pb) (hyb:y≠b) (hyw:w.heap.size<=y) (hry:r≠y) (hs:vs.size=11) (us:ByteArray) {g:Nat} (hg:g=W.heap.size) :
 StW w pb b c T st y r lo (pA 25 0 0 ⟨#[]⟩ us 0 0 0 ⟨#[]⟩ (some ⟨g,0,none⟩) 2 2 none 0 0) (binP us p q) (pL 25 0 0 ⟨#[]⟩ us 0 0 0 ⟨#[]⟩ (some ⟨g,0,none⟩) 2 2 none 0 0) ((putC W y 0 (pL 25 0 0 ⟨#[]⟩ us 0 0 0 ⟨#[]⟩ (some ⟨g,0,none⟩) 2 2 none 0 0)).alloc (.cells #[vI k0_1,vI k1_1,vI k2_1,vS s3_1,vS s4_1,vI k5_1,vI k6_1,vI k7_1,vS s8_1,.slice a9_1 l9_1 c9_1,.slice a10_1 l10_1 c10_1,vI k0_2,vI k1_2,vI k2_2,vS s3_2,vS s4_2,vI k5_2,vI k6_2,vI k7_2,vS s8_2,.slice a9_2 l9_2 c9_2,.slice a10_2 l10_2 c10_2] 44)):=by
 subst hg
 have hy2:=h.S.Y.lt
 have hr2:=h.S.R.lt
 have hz:(putC W y 0 (pL 25 0 0 ⟨#[]⟩ us 0 0 0 ⟨#[]⟩ (some ⟨W.heap.size,0,none⟩) 2 2 none 0 0)).heap.size=W.heap.size:=putC_size _ _ _
 have kp:∀ b',b'<W.heap.size->b'≠y->((putC W y 0 (pL 25 0 0 ⟨#[]⟩ us 0 0 0 ⟨#[]⟩ (some ⟨W.heap.size,0,none⟩) 2 2 none 0 0)).alloc (.cells #[vI k0_1,vI k1_1,vI k2_1,vS s3_1,vS s4_1,vI k5_1,vI k6_1,vI k7_1,vS s8_1,.slice a9_1 l9_1 c9_1,.slice a10_1 l10_1 c10_1,vI k0_2,vI k1_2,vI k2_2,vS s3_2,vS s4_2,vI k5_2,vI k6_2,vI k7_2,vS s8_2,.slice a9_2 l9_2 c9_2,.slice a10_2 l10_2 c10_2] 44)).heap[b']?=W.heap[b']?:=fun b' h1 h2=>(Below.heap_alloc _ _ _ (by rw [hz];exact h1)).trans (putC_other h2 _ _ _)
 refine ⟨(h.S.P.put hyp hyb 0 _).allocI _,(putC_grow hyw _ _ _ h.S.G).alloc _,(PhB.allocI (putC_same h.S.Y (pL 25 0 0 ⟨#[]⟩ us 0 0 0 ⟨#[]⟩ (some ⟨W.heap.size,0,none⟩) 2 2 none 0 0) (by rw [hs];rfl)) _),(PhB.allocI ((putC_other hry _ _ _).trans h.S.R) _),?_⟩
 refine v_two (T:=44) (by have k:=heap_alloc_new (putC W y 0 (pL 25 0 0 ⟨#[]⟩ us 0 0 0 ⟨#[]⟩ (some ⟨W.heap.size,0,none⟩) 2 2 none 0 0)) (.cells #[vI k0_1,vI k1_1,vI k2_1,vS s3_1,vS s4_1,vI k5_1,vI k6_1,vI k7_1,vS s8_1,.slice a9_1 l9_1 c9_1,.slice a10_1 l10_1 c10_1,vI k0_2,vI k1_2,vI k2_2,vS s3_2,vS s4_2,vI k5_2,vI k6_2,vI k7_2,vS s8_2,.slice a9_2 l9_2 c9_2,.slice a10_2 l10_2 c10_2] 44);rw [hz] at k;exact k) ⟨hl,by simp [hz],by omega,by omega⟩ (Ph.V.keep (fun b q=>⟨q.1,by have:=q.2.1;simp [hz];omega,q.2.2⟩) (fun b q=>kp b q.2.1 q.2.2.1) h.S.V) (Ph.V.keep (fun b q=>⟨q.1,by have:=q.2.1;simp [hz];omega,q.2.2⟩) (fun b q=>kp b q.2.1 q.2.2.1) h.Q)
def BchainI (w:World) (pb b c:Nat) (T:List Tok) (ST:Nat->Pst) (y r lo:Nat) (p0:Ph) (NM:Nat->ByteArray) (A:Nat->Ph) (n:Nat) (W:World):Prop:=∃ k,k<=n/\∃ (k0_1 k1_1 k2_1 k5_1 k6_1 k7_1:Int) (s3_1 s4_1 s8_1:ByteArray) (a9_1 a10_1:Option Addr) (l9_1 c9_1 l10_1 c10_1:Nat),StW w pb b c T (ST k) y r lo (pA k0_1 k1_1 k2_1 s3_1 s4_1 k5_1 k6_1 k7_1 s8_1 a9_1 l9_1 c9_1 a10_1 l10_1 c10_1) (chB p0 NM A k) (pL k0_1 k1_1 k2_1 s3_1 s4_1 k5_1 k6_1 k7_1 s8_1 a9_1 l9_1 c9_1 a10_1 l10_1 c10_1) W
theorem binary_chain {pb b c:Nat} {T:List Tok} {n:Nat} {st:Pst} {ST:Nat->Pst} {NM:Nat->ByteArray} {A:Nat->Ph} {p0:Ph} {bd:Nat} (hT:T.length<=200) (hbd:bd<8) (h2:bd≠2) (h3:bd≠3) (hat0:st.at'<=300) (hS:∀ k,k<=n->(ST k).at'<=299)
 (h0:RunT pb b c T 123 #[vP pb 0,vI ((bd + 1:Nat):Int)] st (ST 0) p0)
 (hop:∀ k,k<n->opNext (seeM T (ST k) 0) bd=true/\(∃ uk un,seeM T (ST k) 0=⟨uk,NM k,un⟩)/\(NM k).size<=4000)
 (hr:∀ k,k<n->RunT pb b c T 123 #[vP pb 0,vI ((bd + 1:Nat):Int)] { ST k with at':=(ST k).at' + 1 } (ST (k + 1)) (A k))
 (he:opNext (seeM T (ST n) 0) bd=false) (hmono:∀ k,k<n->(ST k).at'<(ST (k + 1)).at'):RunT pb b c T 123 #[vP pb 0,vI (bd:Int)] st (ST n) (chB p0 NM A n):=by
 intro w h htb
 have HTB:Hid (RTab w pb):=htb
 have HR0:=HidOf h0
 have HOP:=HidOf hop
 have HRR:=HidOf hr
 have HE:=HidOf he
 have hat:=hat0
 have hbd8:bd<8:=by omega
 have hwr:IntKind.i64.wrap ((bd:Int) + 1)=((bd + 1:Nat):Int):=by rw [IntWalk.i64_in _ (by omega)];simp
 obtain ⟨b1,hb1⟩:∃ b1:Int,b1=((bd + 1:Nat):Int):=⟨_,rfl⟩
 rw [<- hb1] at hwr HR0 HRR
 have h8:((bd:Int) == 8)=false:=by rw [beq_eq_false_iff_ne];omega
 have b2:((bd:Int) == 2)=false:=by rw [beq_eq_false_iff_ne];omega
 have b3:((bd:Int) == 3)=false:=by rw [beq_eq_false_iff_ne];omega
 clear hb1 htb h0 hop hr he
 have hpl:=h.pl
 have hbl:=h.bl
 go_enter Tryz.func123,Tryz.ntmps123
 go_upto_region 1 with fail
 obtain ⟨W1,hW1⟩:∃ W,W=w.alloc (.cells (pZA 0) 44):=⟨_,rfl⟩
 have HG1:Hid (GrowA pb w W1):=by rw [hW1];exact (GrowA.refl _ _).alloc _
 have HP1:Hid (PaS W1 pb b c T st):=by rw [hW1];exact h.allocI _
 have HR1:Hid (PhZ W1 w.heap.size):=by rw [hW1];exact PhB.new w _
 rw [<- hW1]
 obtain ⟨r,hr⟩:∃ r,r=w.heap.size:=⟨_,rfl⟩
 have HRW:Hid (w.heap.size<=r):=Nat.le_of_eq hr.symm
 have hrp:r≠pb:=by omega
 have hrb:r≠b:=by omega
 rw [<- hr] at HR1 ⊢
 clear hW1 hr h hpl hbl
 go_upto_region 4 with (first
  | (go_at_call 123;(first | refine (HR0.out.use HTB.out HP1.out HG1.out (show r<_ from by have k:=HR1.out.lt;first | exact k | (simp;omega))).mono ?_ | refine (HR0.out.use HTB.out (HP1.out.allocI _) (HG1.out.alloc _) (show r<_ from by have k:=HR1.out.lt;first | exact k | (simp;omega))).mono ?_ | refine (HR0.out.use HTB.out ((HP1.out.allocI _).allocI _) ((HG1.out.alloc _).alloc _) (show r<_ from by have k:=HR1.out.lt;first | exact k | (simp;omega))).mono ?_);rintro e w2 ⟨lo1,v,hlo,hv,rfl,hp,hg⟩;obtain ⟨k0_1,k1_1,k2_1,k5_1,k6_1,k7_1,s3_1,s4_1,s8_1,a9_1,a10_1,l9_1,c9_1,l10_1,c10_1,rfl⟩:=hv.form;have hlo1:=hlo.1;have hlp1:=hlo.2.1;have hlz1:=hlo.2.2;have HG2:=HidOf (HG1.out.trans hg);have HP2:Hid (PaS w2 pb b c T (ST 0)):=hp;have HR2:=HidOf (HR1.out.grow hg hrp);have HV1_2:Hid (Tre w2 lo1 p0 (pL k0_1 k1_1 k2_1 s3_1 s4_1 k5_1 k6_1 k7_1 s8_1 a9_1 l9_1 c9_1 a10_1 l10_1 c10_1)):=hv;have hxp:w2.heap.size≠pb:=(by have:=HP2.out.pl;omega);have hxb:w2.heap.size≠b:=(by have:=HP2.out.bl;omega);clear hv hlo hp hg HP1 HG1 HR1))
 obtain ⟨y,hy⟩:∃ y,y=w2.heap.size:=⟨_,rfl⟩
 obtain ⟨W3,hW3⟩:∃ W,W=w2.alloc (.cells (pA k0_1 k1_1 k2_1 s3_1 s4_1 k5_1 k6_1 k7_1 s8_1 a9_1 l9_1 c9_1 a10_1 l10_1 c10_1) 44):=⟨_,rfl⟩
 have hyp:y≠pb:=by omega
 have hyb:y≠b:=by omega
 have hyw:w.heap.size<=y:=by rw [hy];exact HG2.out.1
 have hry:r≠y:=by have:=HR2.out.lt;omega
 have hrw:=HRW.out
 obtain ⟨lo,hlo0⟩:∃ lo,lo=lo1:=⟨_,rfl⟩
 rw [<- hlo0] at hlp1 hlz1 hlo1 HV1_2
 have hlp:=hlp1
 have hlo:w.heap.size<=lo:=by omega
 have hloy:lo<=y:=by omega
 have HI0:Hid (StW w pb b c T (ST 0) y r lo (pA k0_1 k1_1 k2_1 s3_1 s4_1 k5_1 k6_1 k7_1 s8_1 a9_1 l9_1 c9_1 a10_1 l10_1 c10_1) (chB p0 NM A 0) (pL k0_1 k1_1 k2_1 s3_1 s4_1 k5_1 k6_1 k7_1 s8_1 a9_1 l9_1 c9_1 a10_1 l10_1 c10_1) W3):=by
  rw [hW3]
  exact ⟨HP2.out.allocI _,HG2.out.alloc _,by rw [hy];exact PhB.new w2 _,HR2.out.allocI _,Ph.V.keep (fun b q=>⟨q.1,by have:=q.2;simp;omega,by have:=q.2;omega,by have:=q.1;omega⟩) (fun b q=>Below.heap_alloc _ _ _ q.2) HV1_2.out⟩
 rw [<- hW3]
 try rw [<- hy]
 have hlw:lo<=W3.heap.size:=by have:=HI0.out.Y.lt;omega
 have HYW:Hid (y<W3.heap.size):=HI0.out.Y.lt
 clear hW3 HP2 HG2 HR2 HV1_2 hy hxp hxb hlo0
 go_loopw [] (fun wr=>BchainI w pb b c T ST y r lo p0 NM A n wr/\lo<=wr.heap.size) (fun wr=>leftW pb wr)
 case atStart=>exact ⟨⟨0,Nat.zero_le _,k0_1,k1_1,k2_1,k5_1,k6_1,k7_1,s3_1,s4_1,s8_1,a9_1,a10_1,l9_1,c9_1,l10_1,c10_1,HI0.out⟩,hlw⟩
 case round =>
  clear HI0 HYW hlw
  obtain ⟨⟨k,hk,k0_1,k1_1,k2_1,k5_1,k6_1,k7_1,s3_1,s4_1,s8_1,a9_1,a10_1,l9_1,c9_1,l10_1,c10_1,hI⟩,hlr⟩:=hrel
  have HI1:=HidOf hI
  have hm0:=hI.P.leftW
  have hat:=Nat.le_trans (hS k (by omega)) (by decide:299<=300)
  clear hI
  by_cases hkn:k<n
  · obtain ⟨ho1,⟨uk,un,hu⟩,hus⟩:=HOP.out k hkn
    obtain ⟨us,hnm⟩:∃ us,us=NM k:=⟨_,rfl⟩
    rw [<- hnm] at hu hus
    have HU:=HidOf hu
    have HNM:Hid (NM k=us):=hnm.symm
    have EF:=field_text uk un us
    have HRK:=HidOf (HRR.out k hkn)
    have HONX:Hid (∀ W,PaS W pb b c T (ST k)->OpTab W->Calls Tryz.prog 147 #[vP pb 0,vI bd] W fun e w'=>e=.returned (.bool true)/\Below W.heap.size W w'):=fun W h ho=>by have z:=operatorNext_any h hT hat bd ho;rwa [ho1] at z
    clear ho1 hu hnm
    go_upto_region 7 with (first
     | (go_at_call 147;refine (HONX.out _ HI1.out.P (HTB.out.grow HI1.out.G).1).mono ?_;rintro e w2 ⟨rfl,hb⟩;have HI2:=HidOf (HI1.out.below hb);clear hb HI1 HONX)
     | (go_at_call 81;refine (see_lit HI2.out.P 0 (by omega) hT hat HU.out).mono ?_;rintro e w3 ⟨rfl,hb⟩;have HI3:=HidOf (HI2.out.below hb);clear hb HI2)
     | (go_at_call 75;refine (clone_of us _ hus).mono ?_;rintro e w4 ⟨rfl,hb⟩;have HI4:=HidOf (HI3.out.below hb);have x1:=HI4.out.P.a;have f1:=HI4.out.P.fa;have hl3:=HI4.out.P.pl;clear hb HI3))
    obtain ⟨w5,hw5⟩:∃ W,W=w4.setCell ⟨pb,1,none⟩ (vI (((ST k).at':Int) + 1)):=⟨_,rfl⟩
    have HI5:Hid (StW w pb b c T { ST k with at':=(ST k).at' + 1 } y r lo (pA k0_1 k1_1 k2_1 s3_1 s4_1 k5_1 k6_1 k7_1 s8_1 a9_1 l9_1 c9_1 a10_1 l10_1 c10_1) (chB p0 NM A k) (pL k0_1 k1_1 k2_1 s3_1 s4_1 k5_1 k6_1 k7_1 s8_1 a9_1 l9_1 c9_1 a10_1 l10_1 c10_1) w5):=by
     rw [hw5]
     exact HI4.out.grow hlp hyp hrp (HI4.out.P.setA ((ST k).at' + 1)) ((GrowA.refl _ _).set 1 _)
    rw [<- hw5]
    clear hw5 HI4 x1 f1 hl3
    obtain ⟨⟨m0,m1,m2,m3,m4,m5,m6,m7,m8,m9,m10⟩,j0,j1,j2,j3,j4,j5,j6,j7,j8,j9,j10⟩:=HI5.out.Y.cells
    have hyz:=HI5.out.Y.lt
    have hl5:lo<=w5.heap.size:=(by have:=HI5.out.Y.lt;omega)
    obtain ⟨w6,hw6⟩:∃ W,W=w5.drew:=⟨_,rfl⟩
    have HI6:Hid (StW w pb b c T { ST k with at':=(ST k).at' + 1 } y r lo (pA k0_1 k1_1 k2_1 s3_1 s4_1 k5_1 k6_1 k7_1 s8_1 a9_1 l9_1 c9_1 a10_1 l10_1 c10_1) (chB p0 NM A k) (pL k0_1 k1_1 k2_1 s3_1 s4_1 k5_1 k6_1 k7_1 s8_1 a9_1 l9_1 c9_1 a10_1 l10_1 c10_1) w6):=by rw [hw6];exact HI5.out.drew
    have hl6:lo<=w6.heap.size:=(by have:=HI6.out.Y.lt;omega)
    have HWK:Hid (w5.drew=w6):=hw6.symm
    clear hw6
    go_region_with (first
     | (go_at_call 123;rw [HWK.out];refine (HI6.out.run hlp hyp hrp hl6 HRK.out HTB.out).mono ?_;rintro e w7 ⟨k0_2,k1_2,k2_2,k5_2,k6_2,k7_2,s3_2,s4_2,s8_2,a9_2,a10_2,l9_2,c9_2,l10_2,c10_2,rfl,hx⟩;have HX7:=HidOf hx;have hl7:lo<=w7.heap.size:=(by have:=hx.S.Y.lt;omega);obtain ⟨⟨m0,m1,m2,m3,m4,m5,m6,m7,m8,m9,m10⟩,j0,j1,j2,j3,j4,j5,j6,j7,j8,j9,j10⟩:=hx.S.Y.cells;have hyz:=hx.S.Y.lt;clear hx HI6))
    all_goals
     obtain ⟨g,hg0⟩:∃ g,g=w7.heap.size:=⟨_,rfl⟩
     rw [<- hg0]
     obtain ⟨w8,hw8⟩:∃ W,W=(putC w7 y 0 (pL 25 0 0 ⟨#[]⟩ us 0 0 0 ⟨#[]⟩ (some ⟨g,0,none⟩) 2 2 none 0 0)).alloc (.cells #[vI k0_1,vI k1_1,vI k2_1,vS s3_1,vS s4_1,vI k5_1,vI k6_1,vI k7_1,vS s8_1,.slice a9_1 l9_1 c9_1,.slice a10_1 l10_1 c10_1,vI k0_2,vI k1_2,vI k2_2,vS s3_2,vS s4_2,vI k5_2,vI k6_2,vI k7_2,vS s8_2,.slice a9_2 l9_2 c9_2,.slice a10_2 l10_2 c10_2] 44):=⟨_,rfl⟩
     have HI8:Hid (StW w pb b c T (ST (k + 1)) y r lo (pA 25 0 0 ⟨#[]⟩ us 0 0 0 ⟨#[]⟩ (some ⟨g,0,none⟩) 2 2 none 0 0) (chB p0 NM A (k + 1)) (pL 25 0 0 ⟨#[]⟩ us 0 0 0 ⟨#[]⟩ (some ⟨g,0,none⟩) 2 2 none 0 0) w8):=by
      have z:=HX7.out.two hl7 hyp hyb hyw hry rfl us hg0
      rw [hw8,chB,HNM.out]
      exact z
     simp only [putC] at hw8
     rw [<- hw8]
     clear hw8 HX7 m0 m1 m2 m3 m4 m5 m6 m7 m8 m9 m10 j0 j1 j2 j3 j4 j5 j6 j7 j8 j9 j10 hyz hg0
     have hm8:leftW pb w8<leftW pb wr:=by rw [HI8.out.P.leftW,hm0];have:=hmono k hkn;have:=hS (k + 1) (by omega);omega
     go_wp2
     go_roundw
     case rel=>exact ⟨⟨k + 1,by omega,25,0,0,0,0,0,⟨#[]⟩,us,⟨#[]⟩,some ⟨g,0,none⟩,none,2,2,0,0,HI8.out⟩,by have:=HI8.out.Y.lt;omega⟩
     case measure=>exact hm8
  · obtain rfl:k=n:=by omega
    have HONE:Hid (∀ W,PaS W pb b c T (ST k)->OpTab W->Calls Tryz.prog 147 #[vP pb 0,vI bd] W fun e w'=>e=.returned (.bool false)/\Below W.heap.size W w'):=fun W h ho=>by have z:=operatorNext_any h hT hat bd ho;rwa [HE.out] at z
    go_wp2_with (go_at_call 147;refine (HONE.out _ HI1.out.P (HTB.out.grow HI1.out.G).1).mono ?_;rintro e w2 ⟨rfl,hb⟩;have HI2:=HidOf (HI1.out.below hb);have hyz:=HI2.out.Y.lt;have hrz:=HI2.out.R.lt;obtain ⟨⟨m0,m1,m2,m3,m4,m5,m6,m7,m8,m9,m10⟩,j0,j1,j2,j3,j4,j5,j6,j7,j8,j9,j10⟩:=HI2.out.Y.cells;obtain ⟨⟨y0,y1,y2,y3,y4,y5,y6,y7,y8,y9,y10⟩,z0,z1,z2,z3,z4,z5,z6,z7,z8,z9,z10⟩:=HI2.out.R.cells;clear hb HI1)
    refine bodyPost_ret (v:=.agg (pA k0_1 k1_1 k2_1 s3_1 s4_1 k5_1 k6_1 k7_1 s8_1 a9_1 l9_1 c9_1 a10_1 l10_1 c10_1)) (by simp [results,Tryz.results123,go_sem,y0,y1,y2,y3,y4,y5,y6,y7,y8,y9,y10]) rfl ⟨(pL k0_1 k1_1 k2_1 s3_1 s4_1 k5_1 k6_1 k7_1 s8_1 a9_1 l9_1 c9_1 a10_1 l10_1 c10_1),?_,rfl,?_,?_⟩
    · refine Tre.mono (lo:=lo) (v_tre (y:=y) (r:=r) ?_) hlo
      (repeat (first | with_reducible refine v_setR ?_ _ _ | exact HI2.out.V))
    · (repeat (first | with_reducible refine PaS.setR ?_ hrp hrb _ _ | exact HI2.out.P))
    · (repeat (first | with_reducible refine GrowA.setR ?_ hrw _ _ | exact HI2.out.G))
open Go.RowKit
end Go.Proofs.YtmcmbdkpfcibkaaGreatDoor
