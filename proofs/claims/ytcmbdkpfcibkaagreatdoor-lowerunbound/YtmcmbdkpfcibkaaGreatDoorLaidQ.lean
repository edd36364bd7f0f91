import Derived.Test.YtmcmbdkpfcibkaaGreatDoorCkSt
import Derived.Test.YtmcmbdkpfcibkaaGreatDoorPoNext
import Derived.Test.YtmcmbdkpfcibkaaGreatDoorRlItemC
import Derived.Deep.QuietTactic
import Derived.BigQuiet
import Derived.Deep.Cut
import Derived.Deep.RegionLaw
import Derived.Deep.Strs
import Derived.Deep.Slices
import Derived.ProofKit
import Derived.WalkKit
import Derived.SizedLaws
import Derived.OpenShut
import Derived.Lib.LaidU8
set_option linter.unusedVariables false
set_option maxHeartbeats 3200000
namespace Go.Proofs.YtmcmbdkpfcibkaaGreatDoor
set_option maxRecDepth 100000
open Go.RowKit Go.WideShapes
theorem checkNames_is (x a:ByteArray) (w:World) (hx:x.size<=maxLen) (ha:a.size<=maxLen) :
 Calls Tryz.prog 65 #[vS x,vS a] w fun e w'=>e=.returned (vI (namesF x a))/\w'=w:=by
 unfold maxLen at hx ha
 by_cases h0:x.size=0
 · have g0:=isEmpty_yes h0
   go_enter Tryz.func65,Tryz.ntmps65
   go_wp2
   go_ret
   exact ⟨ret_int (by unfold namesF;rw [if_pos (by omega)]),rfl⟩
 · have g0:=isEmpty_no h0
   by_cases h1:(20:Int)<(x.size:Int)
   · go_enter Tryz.func65,Tryz.ntmps65
     go_wp2
     go_ret
     exact ⟨ret_int (by unfold namesF;rw [if_pos (by omega)]),rfl⟩
   · by_cases h2:(20:Int)<(a.size:Int)
     · go_enter Tryz.func65,Tryz.ntmps65
       go_wp2
       go_ret
       exact ⟨ret_int (by unfold namesF;rw [if_pos (by omega)]),rfl⟩
     · cases h3:(x.toList == a.toList)
       · go_enter Tryz.func65,Tryz.ntmps65
         go_wp2
         go_ret
         exact ⟨ret_int (by unfold namesF;rw [if_neg (by omega),h3,if_neg (by simp)]),rfl⟩
       · go_enter Tryz.func65,Tryz.ntmps65
         go_wp2
         go_ret
         exact ⟨ret_int (by unfold namesF;rw [if_neg (by omega),h3,if_pos rfl]),rfl⟩
theorem checkStep_is (ax tk:Int) (tn:ByteArray) (w:World) :
 Calls Tryz.prog 67 #[vI ax,.agg #[vI tk,vS tn]] w fun e w'=>e=.returned (vI (stepF ax tk))/\Below w.heap.size w w':=by
 have HB:Hid (Below w.heap.size w (w.alloc (.cells #[vI tk,vS tn] 26))):=(Below.refl _ _).alloc (Nat.le_refl _) _
 by_cases h1:ax<1
 · go_enter Tryz.func67,Tryz.ntmps67
   go_wp2
   go_ret
   exact ⟨ret_int (by unfold stepF;rw [if_neg (by omega)]),HB.out⟩
 · by_cases h2:12<ax
   · go_enter Tryz.func67,Tryz.ntmps67
     go_wp2
     go_ret
     exact ⟨ret_int (by unfold stepF;rw [if_neg (by omega)]),HB.out⟩
   · by_cases h3:tk<1
     · go_enter Tryz.func67,Tryz.ntmps67
       go_wp2
       go_ret
       exact ⟨ret_int (by unfold stepF;rw [if_neg (by omega)]),HB.out⟩
     · by_cases h4:5<tk
       · go_enter Tryz.func67,Tryz.ntmps67
         go_wp2
         go_ret
         exact ⟨ret_int (by unfold stepF;rw [if_neg (by omega)]),HB.out⟩
       · go_enter Tryz.func67,Tryz.ntmps67
         go_wp2
         go_ret
         exact ⟨ret_int (by unfold stepF;rw [if_pos (by omega)]),HB.out⟩
theorem checkLit_is (x:It) (w:World) (hs:x.s.size<=maxLen) (hT:Tabs w) :
 Calls Tryz.prog 63 #[.agg #[vI x.kind,vI x.n,vS x.s]] w fun e w'=>e=.returned (vI (litF x))/\Below w.heap.size w w':=by
 have HB:Hid (Below w.heap.size w (w.alloc (.cells #[vI x.kind,vI x.n,vS x.s] 24))):=(Below.refl _ _).alloc (Nat.le_refl _) _
 have C:Hid (∀ W,Below w.heap.size w W->Calls Tryz.prog 108 #[.agg #[vI x.kind,vI x.n,vS x.s]] W fun e w'=>e=.returned (vI (itemF ⟨x.kind,x.n,x.s⟩))/\Below W.heap.size W w'):=fun W hW=>checkItem_any x.kind x.n x.s W hs (Utf8Tabs_below hT hW)
 clear hs hT
 obtain ⟨k,n,s⟩:=x
 by_cases h1:k=1
 · subst h1
   go_enter Tryz.func63,Tryz.ntmps63
   go_wp2
   go_ret
   exact ⟨ret_int (by simp [litF]),HB.out⟩
 · have g1:(k == 1)=false:=by simpa using h1
   go_enter Tryz.func63,Tryz.ntmps63
   go_wp2_with (go_at_call 108;refine (C.out _ HB.out).mono ?_;rintro e w1 ⟨rfl,hb1⟩;have HB1:Hid (Below w.heap.size w w1):=HB.out.trans (hb1.mono (by simp));clear hb1)
   go_ret
   exact ⟨ret_int (by unfold litF itemF;rw [if_neg h1]),HB1.out⟩
theorem scheck_is (sb:Nat) (N:ByteArray->Nat) (x:ByteArray) (w:World) (hx:x.size<=maxLen) (h:SMap w sb N) :
 Calls Tryz.prog 64 #[.map (some sb),vS x] w fun e w'=>e=.returned (vI (if N x=0 then 6 else 0))/\w'=w:=by
 obtain ⟨V,hV,hN⟩:=h
 have HL:Hid ((Instr.lookup 58 (.map (some sb)) (vS x) false).run Tryz.prog w=.ok (vI (N x:Int)) w):=by
  have h1:(Instr.lookup 58 (.map (some sb)) (vS x) false).run Tryz.prog w=.ok (vI (N x:Int)) w:=by rw [<- hN x];exact (hV.look hx Tryz.underlying58 (zeroI w)).1
  exact h1
 have hl:=HL.out
 clear hV hN HL
 by_cases h0:N x=0
 · rw [h0] at hl
   rw [if_pos h0]
   go_enter Tryz.func64,Tryz.ntmps64
   go_wp2
   go_ret
   exact ⟨rfl,rfl⟩
 · have g0:((N x:Int) == 0)=false:=by simp;omega
   rw [if_neg h0]
   go_enter Tryz.func64,Tryz.ntmps64
   go_wp2
   go_ret
   exact ⟨rfl,rfl⟩
open Go.RowKit Go.WideShapes
theorem hidC {p:Prop} (h:p):Hid p:=h
theorem aOld {w:World} {o x:Obj} {b:Nat} (h:w.heap[b]?=some x):(w.alloc o).heap[b]?=some x:=(Below.heap_alloc w o b (gI h).1).trans h
theorem aNew {w:World} {o:Obj} {g:Nat} (hg:w.heap.size=g):(w.alloc o).heap[g]?=some o:=by subst hg;exact heap_alloc_new w o
theorem sOth {w:World} {b j c:Nat} {v:Value} {x:Obj} (h:w.heap[c]?=some x) (hn:c≠b):(w.setCell ⟨b,j,none⟩ v).heap[c]?=some x:=(Below.heap_setCell _ _ _ _ hn).trans h
theorem blC {w w':World} {B b:Nat} {o:Obj} (hb:Below B w w') (hB:b<B) (h:w.heap[b]?=some o):w'.heap[b]?=some o:=(hb.block b hB).trans h
structure ClAt (w:World) (b off:Nat) (k:Int) (nm a:ByteArray):Prop where
 c0:w.cell? ⟨b,off,none⟩=some (vI k)
 c1:w.cell? ⟨b,off + 1,none⟩=some (vS nm)
 c2:w.cell? ⟨b,off + 2,none⟩=some (vS a)
 s1:nm.size<=maxLen
 s2:a.size<=maxLen
theorem ClAt.below {w w':World} {B b off:Nat} {k:Int} {nm a:ByteArray} (h:ClAt w b off k nm a) (hb:Below B w w') (hB:b<B):ClAt w' b off k nm a :=
 have e:=fun o=>hb.cell (p:=⟨b,o,none⟩) hB
 ⟨(e _).trans h.c0,(e _).trans h.c1,(e _).trans h.c2,h.s1,h.s2⟩
def cf1 (n:Nat) (k:Int) (nm a:ByteArray) (k2 lo:Int):Int :=
 if k=1 then namesF nm a else if k=2 then namesF nm noB else if k=3 then (if n≠1/\k2≠4 then 4 else 0) else if k=4 then (if n≠1\/lo≠1 then 4 else 0) else 3
theorem checkFirst_is (b off n cap:Nat) (k:Int) (nm a:ByteArray) (k2 lo:Int) (w:World) (hn:1<=n) (hc:n<=cap) (hm:cap<=maxLen) (h:ClAt w b off k nm a) (h2:1<n->w.cell? ⟨b,off + 15,none⟩=some (vI k2)) (hb:b<w.heap.size) :
 Calls Tryz.prog 124 #[vL b off n cap,vI lo] w fun e w'=>e=.returned (vI (cf1 n k nm a k2 lo))/\Below w.heap.size w w':=by
 obtain ⟨c0,c1,c2,s1,s2⟩:=h
 have CN:Hid (∀ W x y,x.size<=maxLen->y.size<=maxLen->Calls Tryz.prog 65 #[vS x,vS y] W fun e w'=>e=.returned (vI (namesF x y))/\w'=W):=fun W x y hx hy=>checkNames_is x y W hx hy
 have hn0:(0:Int)<(n:Int):=by omega
 unfold maxLen at hm
 by_cases e1:k=1
 · subst e1
   have CM:Hid (∀ W,Calls Tryz.prog 65 #[vS nm,vS a] W fun e w'=>e=.returned (vI (cf1 n 1 nm a k2 lo))/\w'=W):=fun W=>CN.out W nm a s1 s2
   generalize cf1 n 1 nm a k2 lo=R at *
   clear CN h2
   by_cases en:(n:Int)=1
   all_goals
    go_enter Tryz.func124,Tryz.ntmps124
    go_upto_region 5 with fail
    go_quiet ((go_at_call 65;exact Calls.quiet_of_same (CM.out _)))
    go_wp2_with fail
    go_ret
    exact ⟨rfl,rfl,rfl,rfl,Nat.le_refl _,fun _ _=>rfl⟩
 · have g1:(k == 1)=false:=by simpa using e1
   by_cases e2:k=2
   · subst e2
     have CM:Hid (∀ W,Calls Tryz.prog 65 #[vS nm,vE] W fun e w'=>e=.returned (vI (cf1 n 2 nm a k2 lo))/\w'=W):=fun W=>CN.out W nm noB s1 (by decide)
     generalize cf1 n 2 nm a k2 lo=R at *
     clear CN h2
     by_cases en:(n:Int)=1
     all_goals
      go_enter Tryz.func124,Tryz.ntmps124
      go_wp2_with (go_at_call 65;refine (CM.out _).mono ?_;rintro e w1 ⟨rfl,hw1⟩;obtain rfl:=hw1.symm)
      go_ret
      exact ⟨rfl,Below.refl _ _⟩
   · have g2:(k == 2)=false:=by simpa using e2
     by_cases e3:k=3
     · subst e3
       by_cases en:n=1
       · subst en
         go_enter Tryz.func124,Tryz.ntmps124
         go_wp2_with fail
         go_ret
         exact ⟨rfl,Below.refl _ _⟩
       · have c3:=h2 (by omega)
         have en1:((n:Int) == 1)=false:=by simp;omega
         have en2:(1:Int)<(n:Int):=by omega
         by_cases e4:k2=4
         · have HR:Hid (cf1 n 3 nm a k2 lo=0):=by unfold cf1;rw [if_neg (by decide),if_neg (by decide),if_pos rfl,if_neg (by omega)];exact rfl
           rw [HR.out]
           subst e4
           go_enter Tryz.func124,Tryz.ntmps124
           go_wp2_with fail
           go_ret
           exact ⟨rfl,Below.refl _ _⟩
         · have HR:Hid (cf1 n 3 nm a k2 lo=4):=by unfold cf1;rw [if_neg (by decide),if_neg (by decide),if_pos rfl,if_pos ⟨en,e4⟩];exact rfl
           rw [HR.out]
           have g4:(k2 == 4)=false:=by simpa using e4
           clear e4
           go_enter Tryz.func124,Tryz.ntmps124
           go_wp2_with fail
           go_ret
           exact ⟨rfl,Below.refl _ _⟩
     · have g3:(k == 3)=false:=by simpa using e3
       by_cases e4:k=4
       · subst e4
         by_cases en:n=1
         · subst en
           by_cases el:lo=1
           · subst el
             go_enter Tryz.func124,Tryz.ntmps124
             go_wp2_with fail
             go_ret
             exact ⟨rfl,Below.refl _ _⟩
           · have HR:Hid (cf1 1 4 nm a k2 lo=4):=by unfold cf1;rw [if_neg (by decide),if_neg (by decide),if_neg (by decide),if_pos rfl,if_pos (.inr el)];exact rfl
             rw [HR.out]
             have gl:(lo == 1)=false:=by simpa using el
             clear el
             go_enter Tryz.func124,Tryz.ntmps124
             go_wp2_with fail
             go_ret
             exact ⟨rfl,Below.refl _ _⟩
         · have HR:Hid (cf1 n 4 nm a k2 lo=4):=by unfold cf1;rw [if_neg (by decide),if_neg (by decide),if_neg (by decide),if_pos rfl,if_pos (.inl en)];exact rfl
           rw [HR.out]
           have en1:((n:Int) == 1)=false:=by simp;omega
           clear h2
           go_enter Tryz.func124,Tryz.ntmps124
           go_wp2_with fail
           go_ret
           exact ⟨rfl,Below.refl _ _⟩
       · have g4:(k == 4)=false:=by simpa using e4
         have HR:Hid (cf1 n k nm a k2 lo=3):=by unfold cf1;rw [if_neg e1,if_neg e2,if_neg e3,if_neg e4];exact rfl
         rw [HR.out]
         clear h2 e1 e2 e3 e4
         by_cases en:(n:Int)=1
         all_goals
          go_enter Tryz.func124,Tryz.ntmps124
          go_wp2_with fail
          go_ret
          exact ⟨rfl,Below.refl _ _⟩
def loN (K:Nat->Int):Nat->Nat
 | 0=>0
 | i + 1=>loN K i + (if K i=1 then 1 else 0)
theorem loN_le (K:Nat->Int):∀ i,loN K i<=i
 | 0=>Nat.le_refl _
 | i + 1=>by
  have:=loN_le K i
  unfold loN
  split <;> omega
def cfi (n:Nat) (K:Nat->Int) (N A:Nat->ByteArray) (i:Nat):Int:=cf1 (n - i) (K i) (N i) (A i) (K (i + 1)) (loN K i)
def clF (n:Nat) (K:Nat->Int) (N A:Nat->ByteArray):Int:=firstE (cfi n K N A) n
theorem checkClauses_is (b off n cap:Nat) (K:Nat->Int) (N A:Nat->ByteArray) (w:World) (hc:n<=cap) (hm:cap<=maxLen) (h:∀ i,i<n->ClAt w b (off + i * 15) (K i) (N i) (A i)) (hb:b<w.heap.size) :
 Calls Tryz.prog 88 #[vL b off n cap] w fun e w'=>e=.returned (vI (clF n K N A))/\Below w.heap.size w w':=by
 have CF:Hid (∀ W i,Below w.heap.size w W->i<n->Calls Tryz.prog 124 #[vL b (off + i * 15) (n - i) (cap - i),vI (loN K i:Int)] W fun e w'=>e=.returned (vI (cfi n K N A i))/\Below W.heap.size W w'):=fun W i hW hi=>checkFirst_is b (off + i * 15) (n - i) (cap - i) (K i) (N i) (A i) (K (i + 1)) (loN K i) W (by omega) (by omega) (by omega) ((h i hi).below hW hb) (fun h1=>by
  have:=((h (i + 1) (by omega)).below hW hb).c0
  rw [show off + (i + 1) * 15=off + i * 15 + 15 by omega] at this
  exact this) (Nat.lt_of_lt_of_le hb hW.size)
 have HK:Hid (∀ W i,Below w.heap.size w W->i<n->W.cell? ⟨b,off + i * 15,none⟩=some (vI (K i))):=fun W i hW hi=>((h i hi).below hW hb).c0
 unfold maxLen at hm
 clear h
 go_enter Tryz.func88,Tryz.ntmps88
 go_wp2
 go_loopw [3,8] (fun l i wr=>∃ j:Nat,j<=n/\i=vI j/\l=vI (loN K j:Int)/\firstE (cfi n K N A) j=0/\Below w.heap.size w wr) (fun _ i _=>n - (intOf i).toNat)
 case atStart=>exact ⟨0,Nat.zero_le _,rfl,rfl,rfl,Below.refl _ _⟩
 case round =>
  obtain ⟨j,hj,rfl,rfl,hf,hbr⟩:=hrel
  have HBR:=hidC hbr
  have HF:=hidC hf
  have hzr:=hbr.size
  have hbz:b<wr.heap.size:=by omega
  clear hbr hf
  by_cases hlt:j<n
  · have hlo:=loN_le K j
    have CI:Hid (Calls Tryz.prog 124 #[vL b (off + j * 15) (n - j) (cap - j),vI (loN K j:Int)] wr fun e w'=>e=.returned (vI (cfi n K N A j))/\Below wr.heap.size wr w'):=CF.out wr j HBR.out hlt
    have hji:(j:Int)<(n:Int):=by omega
    have HNE:Hid (¬ cfi n K N A j=0->clF n K N A=cfi n K N A j):=fun h1=>firstE_at hlt HF.out h1
    have HZ:Hid (cfi n K N A j=0->firstE (cfi n K N A) (j + 1)=0):=fun h1=>by rw [firstE_succ,if_pos HF.out];exact h1
    generalize cfi n K N A j=R at CI HNE HZ
    by_cases hR:R=0
    · subst hR
      have HZ1:Hid (firstE (cfi n K N A) (j + 1)=0):=HZ.out rfl
      clear HZ HNE
      by_cases hk:K j=1
      · have HLO:Hid (loN K (j + 1)=loN K j + 1):=by show loN K j + (if K j=1 then 1 else 0)=_;rw [if_pos hk]
        go_wp2_with (go_at_call 124;refine CI.out.mono ?_;rintro e w1 ⟨rfl,hb1⟩;have HB1:Hid (Below w.heap.size w w1):=HBR.out.trans (hb1.mono hzr);have k0:=HK.out w1 j HB1.out hlt;rw [hk] at k0;have hz1:=HB1.out.size;have hb1z:b<w1.heap.size:=(by omega);clear hb1 CI)
        go_roundw
        case rel=>exact ⟨j + 1,by omega,by go_num,by rw [HLO.out];simp,HZ1.out,HB1.out⟩
        case measure=>simp [intOf];omega
      · have HLO:Hid (loN K (j + 1)=loN K j):=by show loN K j + (if K j=1 then 1 else 0)=_;rw [if_neg hk];exact rfl
        have hk1:(K j == 1)=false:=by simpa using hk
        clear hk
        go_wp2_with (go_at_call 124;refine CI.out.mono ?_;rintro e w1 ⟨rfl,hb1⟩;have HB1:Hid (Below w.heap.size w w1):=HBR.out.trans (hb1.mono hzr);have k0:=HK.out w1 j HB1.out hlt;have hz1:=HB1.out.size;have hb1z:b<w1.heap.size:=(by omega);clear hb1 CI)
        go_roundw
        case rel=>exact ⟨j + 1,by omega,by go_num,by rw [HLO.out],HZ1.out,HB1.out⟩
        case measure=>simp [intOf];omega
    · have hR1:(R == 0)=false:=by simpa using hR
      have HRE:Hid (R=clF n K N A):=(HNE.out hR).symm
      clear HZ HNE hR
      go_wp2_with (go_at_call 124;refine CI.out.mono ?_;rintro e w1 ⟨rfl,hb1⟩;have HB1:Hid (Below w.heap.size w w1):=HBR.out.trans (hb1.mono hzr);clear hb1 CI)
      go_ret
      exact ⟨ret_int HRE.out,HB1.out⟩
  · obtain rfl:j=n:=by omega
    have HCL:Hid (0=clF j K N A):=HF.out.symm
    go_wp2_with fail
    go_ret
    exact ⟨ret_int HCL.out,HBR.out⟩
open Go.RowKit Go.WideShapes
def ScIs (w:World) (v:Value) (L:List ByteArray):Prop :=
 ∃ a cap,v=.slice a L.length cap/\L.length<=cap/\cap<=maxLen/\(0<L.length->∃ b off,a=some ⟨b,off,none⟩/\b<w.heap.size/\∀ i (h:i<L.length),w.cell? ⟨b,off + i,none⟩=some (vS L[i]))
theorem ScIs.nil (w:World):ScIs w (vN) []:=⟨none,0,rfl,Nat.le_refl _,Nat.zero_le _,fun h=>absurd h (Nat.lt_irrefl 0)⟩
theorem ScIs.below {w w':World} {v:Value} {L:List ByteArray} (h:ScIs w v L) (hb:Below w.heap.size w w'):ScIs w' v L:=by
 obtain ⟨a,cap,h1,h2,h3,h4⟩:=h
 refine ⟨a,cap,h1,h2,h3,fun h0=>?_⟩
 obtain ⟨b,off,k1,k2,k3⟩:=h4 h0
 exact ⟨b,off,k1,Nat.lt_of_lt_of_le k2 hb.size,fun i hi=>(hb.cell (p:=⟨b,off + i,none⟩) k2).trans (k3 i hi)⟩
open Go.RowKit Go.WideShapes
def Ex.V (w:World) (B:Nat):Ex->Value->Prop
 | .no,_=>False
 | .mk k it nm a n ax tk tn m A,v=>∃ sl cap,v=.agg (eA k it.kind it.n it.s nm a n ax tk tn sl m cap)/\it.s.size<=maxLen/\nm.size<=maxLen/\a.size<=maxLen/\m<=cap/\cap<=maxLen/\(0<m->∃ b' off',sl=some ⟨b',off',none⟩/\b'<B/\∀ i,i<m->(A i).At w B b' (off' + i * 11))
theorem Ex.V.below {w w':World} {B:Nat} {x:Ex} {v:Value} (h:x.V w B v) (hb:Below B w w'):x.V w' B v:=by
 cases x with
 | no=>exact h.elim
 | mk k it nm a n ax tk tn m A =>
  obtain ⟨sl,cap,h1,h2,h3,h4,h5,h6,h7⟩:=h
  refine ⟨sl,cap,h1,h2,h3,h4,h5,h6,fun h0=>?_⟩
  obtain ⟨b',off',k1,k2,k3⟩:=h7 h0
  exact ⟨b',off',k1,k2,fun i hi=>(k3 i hi).below hb⟩
theorem Ex.At.val {w:World} {B:Nat} {x:Ex} {b off:Nat} (h:x.At w B b off):b<B/\∃ k it nm a n ax tk tn sl m cap,HeadAt w b off k it nm a n ax tk tn (.slice sl m cap)/\x.V w B (.agg (eA k it.kind it.n it.s nm a n ax tk tn sl m cap)):=by
 cases x with
 | no=>exact h.elim
 | mk k it nm a n ax tk tn m A =>
  obtain ⟨h1,sl,cap,h2,h3,h4,h5⟩:=h
  exact ⟨h1,k,it,nm,a,n,ax,tk,tn,sl,m,cap,h2,sl,cap,rfl,h2.s1,h2.s2,h2.s3,h3,h4,h5⟩
open Go.RowKit Go.WideShapes
theorem enter_is (M:Nat) (N:ByteArray->Nat) (L:List ByteArray) (v:Value) (w:World) (hS:SMap w M N) (hv:TxtsL w v L) (hL:∀ x∈L,x.size<=maxLen) (hN:∀ y,N y + L.length<=4611686018427387904) :
 Calls Tryz.prog 37 #[.map (some M),v] w fun e w'=>e=.returned (.tuple #[])/\SMap w' M (fun y=>N y + cntE L y)/\TurnedM w w' M:=by
 obtain ⟨b,off,cap,rfl,hlc,hcm,hbw,hcells⟩:=hv
 have hbM:0<L.length->b≠M:=fun h0 e=>by
  obtain ⟨V,⟨es,clock,h1,_⟩,_⟩:=hS
  have:=hcells 0 h0
  subst e
  simp [World.cell?,h1] at this
 have HC:Hid (∀ i (h:i<L.length),w.cell? ⟨b,off + i,none⟩=some (vS L[i])):=hcells
 have HS:Hid (SMap w M N):=hS
 have HL:Hid (∀ x∈L,x.size<=maxLen):=hL
 have HN:Hid (∀ y,N y + L.length<=4611686018427387904):=hN
 unfold maxLen at hcm
 clear hcells hS hL hN
 go_enter Tryz.func37,Tryz.ntmps37
 go_wp2
 go_loopw [8] (fun i wr=>∃ k:Nat,k<=L.length/\i=vI k/\SMap wr M (fun y=>N y + cntE (L.take k) y)/\TurnedM w wr M) (fun i _=>L.length - (intOf i).toNat)
 case atStart=>exact ⟨0,Nat.zero_le _,rfl,HS.out.congr (fun y=>by simp [cntE]),TurnedM.refl _ _⟩
 case round =>
  obtain ⟨k,hk,rfl,hsm,htm⟩:=hrel
  by_cases hlt:k<L.length
  · have hii:(k:Int)<(L.length:Int):=by omega
    have hc:wr.cell? ⟨b,off + k,none⟩=some (vS L[k]):=by
     rw [<- HC.out k hlt];unfold World.cell?;rw [htm.2.1 b (hbM (by omega))]
    have hs:=HL.out L[k] (List.getElem_mem _)
    have hn1:=HN.out L[k]
    have hn2:=cntE_le (L.take k) L[k]
    have hn3:(L.take k).length<=L.length:=by first | (simp;done) | (simp;omega)
    have HTM:Hid (TurnedM w wr M):=htm
    have HCT:Hid (∀ y,cntE (L.take (k + 1)) y=cntE (L.take k) y + (if hitB y L[k]=true then 1 else 0)):=fun y=>cntE_take hlt y
    obtain ⟨V,hV,hVN⟩:=hsm
    have HV:Hid (VMap wr M V):=hV
    have HVN:Hid (∀ x,(V x).getD (vI 0)=vI ((N x + cntE (L.take k) x:Nat):Int)):=hVN
    generalize L[k]=x at *
    clear htm hV hVN
    by_cases h0:x.size=0
    · have g0:=isEmpty_yes h0
      go_wp2
      go_roundw
      case rel=>exact ⟨k + 1,by omega,by go_num,⟨V,HV.out,fun y=>by have e:N y + cntE (L.take k) y=N y + cntE (L.take (k + 1)) y:=(by have:=HCT.out y;rw [hit_no h0] at this;simp only [Bool.false_eq_true,if_false] at this;omega);rw [HVN.out y,e]⟩,HTM.out⟩
      case measure=>simp [intOf];omega
    · have g0:=isEmpty_no h0
      obtain ⟨c,hc1⟩:∃ c:Nat,c=N x + cntE (L.take k) x:=⟨_,rfl⟩
      have hc2:(V x).getD (vI 0)=vI (c:Int):=by rw [hc1];exact HVN.out x
      have HC1:Hid (c=N x + cntE (L.take k) x):=hc1
      have hcb:c<=4611686018427387904:=by rw [hc1];omega
      clear hc1
      go_wp2_with (first
       | (refine wpList_vlook rfl (.tmp 14) (.tmp 15) 58 3 (vI 0) rfl Tryz.underlying58 (zeroI _) M V x rfl rfl hs HV.out ?_;rw [hc2])
       | (refine wpList_vput rfl (.tmp 14) (.tmp 15) (.tmp 17) 58 3 rfl Tryz.underlying58 M V x (vI (c + 1:Nat)) rfl rfl (by simp [Act.eval] <;> omega) hs HV.out ?_;intro w1 hv1 ht1;have HV1:Hid (SMap w1 M (fun y=>if (y.toList == x.toList)=true then c + 1 else N y + cntE (L.take k) y)):=SMap.put HVN.out hv1;have HT1:Hid (TurnedM wr w1 M):=ht1;clear hv1 ht1))
      go_roundw
      case rel=>exact ⟨k + 1,by omega,by go_num,HV1.out.congr (fun y=>by have:=HCT.out y;rw [hit_yes h0] at this;by_cases e:(y.toList == x.toList)=true;(· rw [if_pos e] at this ⊢;have e2:=same_iff.1 e;subst e2;have:=HC1.out;omega);(· rw [if_neg e] at this ⊢;omega)),HT1.out.1.trans HTM.out.1,fun c hc=>(HT1.out.2.1 c hc).trans (HTM.out.2.1 c hc),HT1.out.2.2.1.trans HTM.out.2.2.1,HT1.out.2.2.2.1.trans HTM.out.2.2.2.1,HT1.out.2.2.2.2.trans HTM.out.2.2.2.2⟩
      case measure=>simp [intOf];omega
  · have e:k=L.length:=by omega
    subst e
    have HSM:Hid (SMap wr M (fun y=>N y + cntE L y)):=hsm.congr (fun y=>by rw [List.take_length])
    have HTM:Hid (TurnedM w wr M):=htm
    clear hsm htm
    go_wp2
    go_end0
    exact ⟨rfl,HSM.out,HTM.out⟩
theorem leave_is (M:Nat) (N:ByteArray->Nat) (L:List ByteArray) (v:Value) (w:World) (hS:SMap w M (fun y=>N y + cntE L y)) (hv:TxtsL w v L) (hL:∀ x∈L,x.size<=maxLen) (hN:∀ y,N y + L.length<=4611686018427387904) :
 Calls Tryz.prog 38 #[.map (some M),v] w fun e w'=>e=.returned (.tuple #[])/\SMap w' M N/\TurnedM w w' M:=by
 obtain ⟨b,off,cap,rfl,hlc,hcm,hbw,hcells⟩:=hv
 have hbM:0<L.length->b≠M:=fun h0 e=>by
  obtain ⟨V,⟨es,clock,h1,_⟩,_⟩:=hS
  have:=hcells 0 h0
  subst e
  simp [World.cell?,h1] at this
 have HC:Hid (∀ i (h:i<L.length),w.cell? ⟨b,off + i,none⟩=some (vS L[i])):=hcells
 have HS:Hid (SMap w M (fun y=>N y + cntE L y)):=hS
 have HL:Hid (∀ x∈L,x.size<=maxLen):=hL
 have HN:Hid (∀ y,N y + L.length<=4611686018427387904):=hN
 unfold maxLen at hcm
 clear hcells hS hL hN
 go_enter Tryz.func38,Tryz.ntmps38
 go_wp2
 go_loopw [8] (fun i wr=>∃ k:Nat,k<=L.length/\i=vI k/\SMap wr M (fun y=>N y + cntE (L.drop k) y)/\TurnedM w wr M) (fun i _=>L.length - (intOf i).toNat)
 case atStart=>exact ⟨0,Nat.zero_le _,rfl,HS.out,TurnedM.refl _ _⟩
 case round =>
  obtain ⟨k,hk,rfl,hsm,htm⟩:=hrel
  by_cases hlt:k<L.length
  · have hii:(k:Int)<(L.length:Int):=by omega
    have hc:wr.cell? ⟨b,off + k,none⟩=some (vS L[k]):=by
     rw [<- HC.out k hlt];unfold World.cell?;rw [htm.2.1 b (hbM (by omega))]
    have hs:=HL.out L[k] (List.getElem_mem _)
    have hn1:=HN.out L[k]
    have hn2:=cntE_le (L.drop k) L[k]
    have hn3:(L.drop k).length<=L.length:=by first | (simp;done) | (simp;omega)
    have HTM:Hid (TurnedM w wr M):=htm
    have HCT:Hid (∀ y,cntE (L.drop k) y=cntE (L.drop (k + 1)) y + (if hitB y L[k]=true then 1 else 0)):=fun y=>cntE_drop hlt y
    obtain ⟨V,hV,hVN⟩:=hsm
    have HV:Hid (VMap wr M V):=hV
    have HVN:Hid (∀ x,(V x).getD (vI 0)=vI ((N x + cntE (L.drop k) x:Nat):Int)):=hVN
    generalize L[k]=x at *
    clear htm hV hVN
    by_cases h0:x.size=0
    · have g0:=isEmpty_yes h0
      go_wp2
      go_roundw
      case rel=>exact ⟨k + 1,by omega,by go_num,⟨V,HV.out,fun y=>by have e:N y + cntE (L.drop k) y=N y + cntE (L.drop (k + 1)) y:=(by have:=HCT.out y;rw [hit_no h0] at this;simp only [Bool.false_eq_true,if_false] at this;omega);rw [HVN.out y,e]⟩,HTM.out⟩
      case measure=>simp [intOf];omega
    · have g0:=isEmpty_no h0
      obtain ⟨c,hc1⟩:∃ c:Nat,c=N x + cntE (L.drop k) x:=⟨_,rfl⟩
      have hc2:(V x).getD (vI 0)=vI (c:Int):=by rw [hc1];exact HVN.out x
      have HC1:Hid (c=N x + cntE (L.drop k) x):=hc1
      have hcp:1<=c:=by have:=HCT.out x;rw [hit_yes h0,if_pos (by simp)] at this;omega
      have hcb:c<=4611686018427387904:=by rw [hc1];omega
      clear hc1
      go_wp2_with (first
       | (refine wpList_vlook rfl (.tmp 14) (.tmp 15) 58 3 (vI 0) rfl Tryz.underlying58 (zeroI _) M V x rfl rfl hs HV.out ?_;rw [hc2])
       | (refine wpList_vput rfl (.tmp 14) (.tmp 15) (.tmp 17) 58 3 rfl Tryz.underlying58 M V x (vI (c - 1:Nat)) rfl rfl (by simp [Act.eval] <;> omega) hs HV.out ?_;intro w1 hv1 ht1;have HV1:Hid (SMap w1 M (fun y=>if (y.toList == x.toList)=true then c - 1 else N y + cntE (L.drop k) y)):=SMap.put HVN.out hv1;have HT1:Hid (TurnedM wr w1 M):=ht1;clear hv1 ht1))
      go_roundw
      case rel=>exact ⟨k + 1,by omega,by go_num,HV1.out.congr (fun y=>by have:=HCT.out y;rw [hit_yes h0] at this;by_cases e:(y.toList == x.toList)=true;(· rw [if_pos e] at this ⊢;have e2:=same_iff.1 e;subst e2;have:=HC1.out;omega);(· rw [if_neg e] at this ⊢;omega)),HT1.out.1.trans HTM.out.1,fun c hc=>(HT1.out.2.1 c hc).trans (HTM.out.2.1 c hc),HT1.out.2.2.1.trans HTM.out.2.2.1,HT1.out.2.2.2.1.trans HTM.out.2.2.2.1,HT1.out.2.2.2.2.trans HTM.out.2.2.2.2⟩
      case measure=>simp [intOf];omega
  · have e:k=L.length:=by omega
    subst e
    have HSM:Hid (SMap wr M N):=hsm.congr (fun y=>by simp [cntE])
    have HTM:Hid (TurnedM w wr M):=htm
    clear hsm htm
    go_wp2
    go_end0
    exact ⟨rfl,HSM.out,HTM.out⟩
open Go.RowKit Go.WideShapes
open Go.RowKit Go.WideShapes
open Go.RowKit Go.WideShapes
open Go.RowKit Go.WideShapes
open Go.RowKit Go.WideShapes
open Go.RowKit Go.WideShapes
def TB (B:Nat) (w:World):Prop:=∀ W,Below B w W->Tabs W
theorem TB.below {B:Nat} {w w':World} (h:TB B w) (hb:Below B w w'):TB B w':=fun W hW=>h W (hb.trans hW)
open Go.RowKit Go.WideShapes
open Go.RowKit Go.WideShapes
open Go.RowKit Go.WideShapes
open Go.RowKit Go.ChangeShapes Go.WideShapes Go.ChangeAt Go.Deep
theorem cells9T:Tryz.prog.cellsOf 9=1:=by kernel_rfl
theorem cellsMarks:Tryz.prog.cellsOf 119=26:=by kernel_rfl
theorem gMarks:Tryz.prog.globalNamed "pleacher/read.marks"=some 0:=by kernel_rfl
theorem gMarksType:(Tryz.prog.globals[0]?).map (·.type)=some 119:=by kernel_rfl
theorem marks_data (k:Nat) (hk:k<26):∃ ds:List (DataW Unit),Rows.laid_pleacher_read_marks=.agg ds∧ds[k]?=some (.lit (.string (mkAt k))):=by
 refine ⟨_,rfl,?_⟩
 have:k=0∨k=1∨k=2∨k=3∨k=4∨k=5∨k=6∨k=7∨k=8∨k=9∨k=10∨k=11∨k=12∨k=13∨k=14∨k=15∨k=16∨k=17∨k=18∨k=19∨k=20∨k=21∨k=22∨k=23∨k=24∨k=25:=by omega
 rcases this with rfl | rfl | rfl | rfl | rfl | rfl | rfl | rfl | rfl | rfl | rfl | rfl | rfl | rfl | rfl | rfl | rfl | rfl | rfl | rfl | rfl | rfl | rfl | rfl | rfl | rfl <;> rfl
theorem mkCells_at (k:Nat) (hk:k<26):mkCells.toList[k]?=some (vS (mkS k)):=by
 have:k=0\/k=1\/k=2\/k=3\/k=4\/k=5\/k=6\/k=7\/k=8\/k=9\/k=10\/k=11\/k=12\/k=13\/k=14\/k=15\/k=16\/k=17\/k=18\/k=19\/k=20\/k=21\/k=22\/k=23\/k=24\/k=25:=by omega
 rcases this with rfl | rfl | rfl | rfl | rfl | rfl | rfl | rfl | rfl | rfl | rfl | rfl | rfl | rfl | rfl | rfl | rfl | rfl | rfl | rfl | rfl | rfl | rfl | rfl | rfl | rfl <;> rfl
theorem marks_of {W:World} {l:List (String × DataW Unit)} (hL:laidMet Tryz.prog l W) (he:("pleacher/read.marks",Rows.laid_pleacher_read_marks)∈l):MarkTab W/\0<W.heap.size:=by
 obtain ⟨g,t,cs,fuel,p,hg,hty,hvar,hd⟩:=Lib.laidMet.reads hL he
 obtain rfl:=Option.some.inj (gMarks.symm.trans hg)
 obtain rfl:=Option.some.inj (gMarksType.symm.trans hty)
 have hlen:cs.toList.length=26:=by
  obtain ⟨xs,m,_,_,h,_⟩:=DataW.trod_array Tryz.underlying119 hd
  rw [h,cellsMarks]
 have hcs:cs=mkCells:=by
  refine Array.toList_inj.1 (List.ext_getElem? fun k=>?_)
  by_cases hk:k<26
  · obtain ⟨ds,e1,e2⟩:=marks_data k hk
    rw [e1] at hd
    obtain ⟨f,d,q,h1,h2⟩:=Lib.array_elem Tryz.underlying119 hd k hk
    rw [e2] at h1
    obtain rfl:=Option.some.inj h1
    rw [cells9T] at h2
    obtain ⟨s,e3,e4,_⟩:=DataW.trod_string Tryz.underlying9 h2
    simp only [Prod.mk.injEq,DataW.lit.injEq,Lit.string.injEq] at e4
    rw [mkCells_at k hk]
    have e5:s=mkS k:=by
     have:=e4.1
     unfold mkS
     rw [this]
    rw [e5] at e3
    have:=congrArg (fun l:List Value=>l[0]?) e3
    simpa using this
  · rw [List.getElem?_eq_none (by omega),List.getElem?_eq_none (by show mkCells.toList.length<=k;have:mkCells.toList.length=26:=rfl;omega)]
 subst hcs
 unfold World.var? at hvar
 rw [gMarks] at hvar
 simp only [Option.bind_some] at hvar
 unfold MarkTab
 cases hh:W.heap[0]? with
 | none=>rw [hh] at hvar;cases hvar
 | some o =>
  rw [hh] at hvar
  have hlt:0<W.heap.size:=by
   by_cases h:0<W.heap.size
   · exact h
   · rw [Array.getElem?_eq_none (by omega)] at hh;cases hh
  cases o with
  | cells c t fr=>simp only [Option.some.injEq] at hvar;subst hvar;exact ⟨⟨t,fr,rfl⟩,hlt⟩
  | _=>cases hvar
open Go.RowKit Go.ChangeShapes Go.WideShapes
theorem cellsOpers:Tryz.prog.cellsOf 192=42:=by kernel_rfl
theorem cellsOper:Tryz.prog.cellsOf 191=2:=by kernel_rfl
theorem cellsThree:Tryz.prog.cellsOf 3=1:=by kernel_rfl
theorem gOpers:Tryz.prog.globalNamed "pleacher/read.operators"=some 5:=by kernel_rfl
theorem gOpersType:(Tryz.prog.globals[5]?).map (·.type)=some 192:=by kernel_rfl
theorem opers_data (k:Nat) (hk:k<21):∃ ds:List (DataW Unit),Rows.laid_pleacher_read_operators=.agg ds∧ds[k]?=some (.agg [.lit (.string (opN k).data.toList),.lit (.int .i64 (opB k))]):=by
 refine ⟨_,rfl,?_⟩
 have:k=0∨k=1∨k=2∨k=3∨k=4∨k=5∨k=6∨k=7∨k=8∨k=9∨k=10∨k=11∨k=12∨k=13∨k=14∨k=15∨k=16∨k=17∨k=18∨k=19∨k=20:=by omega
 rcases this with rfl | rfl | rfl | rfl | rfl | rfl | rfl | rfl | rfl | rfl | rfl | rfl | rfl | rfl | rfl | rfl | rfl | rfl | rfl | rfl | rfl <;> rfl
theorem opCells_at (k:Nat) (hk:k<21):(opCells.toList.drop (k * 2)).take 2=[vS (opN k),vI (opB k)]:=by
 have:k=0\/k=1\/k=2\/k=3\/k=4\/k=5\/k=6\/k=7\/k=8\/k=9\/k=10\/k=11\/k=12\/k=13\/k=14\/k=15\/k=16\/k=17\/k=18\/k=19\/k=20:=by omega
 rcases this with rfl | rfl | rfl | rfl | rfl | rfl | rfl | rfl | rfl | rfl | rfl | rfl | rfl | rfl | rfl | rfl | rfl | rfl | rfl | rfl | rfl <;> rfl
theorem pairs_eq {a b:List Value} {n:Nat} (ha:a.length=n * 2) (hb:b.length=n * 2) (h:∀ k,k<n->(a.drop (k * 2)).take 2=(b.drop (k * 2)).take 2):a=b:=by
 refine List.ext_getElem? fun i=>?_
 by_cases hi:i<n * 2
 · have hk:=h (i / 2) (by omega)
   have h1:=congrArg (fun l:List Value=>l[i % 2]?) hk
   simp only [List.getElem?_take,List.getElem?_drop] at h1
   rw [if_pos (by omega),if_pos (by omega),show i / 2 * 2 + i % 2=i by omega] at h1
   exact h1
 · rw [List.getElem?_eq_none (by omega),List.getElem?_eq_none (by omega)]
theorem opers_of {W:World} {l:List (String × DataW Unit)} (hL:laidMet Tryz.prog l W) (he:("pleacher/read.operators",Rows.laid_pleacher_read_operators)∈l):OpTab W:=by
 obtain ⟨g,t,cs,fuel,p,hg,hty,hvar,hd⟩:=Lib.laidMet.reads hL he
 obtain rfl:=Option.some.inj (gOpers.symm.trans hg)
 obtain rfl:=Option.some.inj (gOpersType.symm.trans hty)
 have hlen:cs.toList.length=21 * 2:=by
  obtain ⟨xs,m,_,_,h,_⟩:=DataW.trod_array Tryz.underlying192 hd
  rw [h,cellsOpers]
 have hcs:cs=opCells:=by
  refine Array.toList_inj.1 (pairs_eq hlen rfl fun k hk=>?_)
  rw [opCells_at k hk]
  obtain ⟨ds,e1,e2⟩:=opers_data k hk
  rw [e1] at hd
  obtain ⟨f,d,q,h1,h2⟩:=Lib.array_elem Tryz.underlying192 hd k hk
  rw [e2] at h1
  obtain rfl:=Option.some.inj h1
  rw [cellsOper] at h2
  generalize hz:(cs.toList.drop (k * 2)).take 2=zs at h2
  obtain ⟨y0,y1,m,ex,hl,g0,g1⟩:=trod_struct2 Tryz.underlying191 h2
  rw [cellsOper] at hl
  match zs,hl with
  | [c0,c1],_ =>
   simp only [cellsThree,cells9T,List.drop_zero,List.drop_succ_cons,List.take_succ_cons,List.take_zero] at g0 g1
   obtain ⟨s,a0,b0,_⟩:=DataW.trod_string Tryz.underlying9 g0
   obtain ⟨n,a1,b1,_⟩:=DataW.trod_int Tryz.underlying3 g1
   simp only [Prod.mk.injEq,DataW.agg.injEq,List.cons.injEq,and_true] at ex
   obtain ⟨⟨x0,x1⟩,_⟩:=ex
   rw [b0] at x0
   rw [b1] at x1
   simp only [DataW.lit.injEq,Lit.string.injEq,Lit.int.injEq,true_and] at x0 x1
   simp only [List.cons.injEq,and_true] at a0 a1
   rw [a0,a1]
   have hs:s=opN k:=by
    cases hh:s;cases hj:opN k
    rw [hh,hj] at x0
    congr 1
    exact (Array.toList_inj.1 x0).symm
   rw [hs,x1]
 subst hcs
 unfold World.var? at hvar
 rw [gOpers] at hvar
 simp only [Option.bind_some] at hvar
 unfold OpTab
 cases hh:W.heap[5]? with
 | none=>rw [hh] at hvar;cases hvar
 | some o =>
  rw [hh] at hvar
  cases o with
  | cells c t fr=>simp only [Option.some.injEq] at hvar;subst hvar;exact ⟨t,fr,rfl⟩
  | _=>cases hvar
theorem cellsKt:Tryz.prog.cellsOf 204=4:=by kernel_rfl
theorem gKt:Tryz.prog.globalNamed "pleacher/read.kindTests"=some 9:=by kernel_rfl
theorem gKtType:(Tryz.prog.globals[9]?).map (·.type)=some 204:=by kernel_rfl
theorem kinds_data (k:Nat) (hk:k<4):∃ ds:List (DataW Unit),Rows.laid_pleacher_read_kindTests=.agg ds∧ds[k]?=some (.lit (.string (ktN k).data.toList)):=by
 refine ⟨_,rfl,?_⟩
 have:k=0∨k=1∨k=2∨k=3:=by omega
 rcases this with rfl | rfl | rfl | rfl <;> rfl
theorem kindsCells_at (k:Nat) (hk:k<4):ktCells.toList[k]?=some (vS (ktN k)):=by
 have:k=0\/k=1\/k=2\/k=3:=by omega
 rcases this with rfl | rfl | rfl | rfl <;> rfl
theorem kinds_of {W:World} {l:List (String × DataW Unit)} (hL:laidMet Tryz.prog l W) (he:("pleacher/read.kindTests",Rows.laid_pleacher_read_kindTests)∈l):KtTab W/\9<W.heap.size:=by
 obtain ⟨g,t,cs,fuel,p,hg,hty,hvar,hd⟩:=Lib.laidMet.reads hL he
 obtain rfl:=Option.some.inj (gKt.symm.trans hg)
 obtain rfl:=Option.some.inj (gKtType.symm.trans hty)
 have hlen:cs.toList.length=4:=by
  obtain ⟨xs,m,_,_,h,_⟩:=DataW.trod_array Tryz.underlying204 hd
  rw [h,cellsKt]
 have hcs:cs=ktCells:=by
  refine Array.toList_inj.1 (List.ext_getElem? fun k=>?_)
  by_cases hk:k<4
  · obtain ⟨ds,e1,e2⟩:=kinds_data k hk
    rw [e1] at hd
    obtain ⟨f,d,q,h1,h2⟩:=Lib.array_elem Tryz.underlying204 hd k hk
    rw [e2] at h1
    obtain rfl:=Option.some.inj h1
    rw [cells9T] at h2
    obtain ⟨s,e3,e4,_⟩:=DataW.trod_string Tryz.underlying9 h2
    simp only [Prod.mk.injEq,DataW.lit.injEq,Lit.string.injEq] at e4
    rw [kindsCells_at k hk]
    have e5:s=ktN k:=by
     have:=e4.1
     cases hh:s;cases hj:ktN k
     rw [hh,hj] at this
     congr 1
     exact (Array.toList_inj.1 this).symm
    rw [e5] at e3
    have:=congrArg (fun l:List Value=>l[0]?) e3
    simpa using this
  · rw [List.getElem?_eq_none (by omega),List.getElem?_eq_none (by show ktCells.toList.length<=k;have:ktCells.toList.length=4:=rfl;omega)]
 subst hcs
 unfold World.var? at hvar
 rw [gKt] at hvar
 simp only [Option.bind_some] at hvar
 unfold KtTab
 cases hh:W.heap[9]? with
 | none=>rw [hh] at hvar;cases hvar
 | some o =>
  rw [hh] at hvar
  have hlt:9<W.heap.size:=by
   by_cases h:9<W.heap.size
   · exact h
   · rw [Array.getElem?_eq_none (by omega)] at hh;cases hh
  cases o with
  | cells c t fr=>simp only [Option.some.injEq] at hvar;subst hvar;exact ⟨⟨t,fr,rfl⟩,hlt⟩
  | _=>cases hvar
theorem cellsAx:Tryz.prog.cellsOf 203=13:=by kernel_rfl
theorem gAx:Tryz.prog.globalNamed "pleacher/read.axes"=some 8:=by kernel_rfl
theorem gAxType:(Tryz.prog.globals[8]?).map (·.type)=some 203:=by kernel_rfl
theorem axes_data (k:Nat) (hk:k<13):∃ ds:List (DataW Unit),Rows.laid_pleacher_read_axes=.agg ds∧ds[k]?=some (.lit (.string (axN k).data.toList)):=by
 refine ⟨_,rfl,?_⟩
 have:k=0∨k=1∨k=2∨k=3∨k=4∨k=5∨k=6∨k=7∨k=8∨k=9∨k=10∨k=11∨k=12:=by omega
 rcases this with rfl | rfl | rfl | rfl | rfl | rfl | rfl | rfl | rfl | rfl | rfl | rfl | rfl <;> rfl
theorem axesCells_at (k:Nat) (hk:k<13):axCells.toList[k]?=some (vS (axN k)):=by
 have:k=0\/k=1\/k=2\/k=3\/k=4\/k=5\/k=6\/k=7\/k=8\/k=9\/k=10\/k=11\/k=12:=by omega
 rcases this with rfl | rfl | rfl | rfl | rfl | rfl | rfl | rfl | rfl | rfl | rfl | rfl | rfl <;> rfl
theorem axes_of {W:World} {l:List (String × DataW Unit)} (hL:laidMet Tryz.prog l W) (he:("pleacher/read.axes",Rows.laid_pleacher_read_axes)∈l):AxTab W/\8<W.heap.size:=by
 obtain ⟨g,t,cs,fuel,p,hg,hty,hvar,hd⟩:=Lib.laidMet.reads hL he
 obtain rfl:=Option.some.inj (gAx.symm.trans hg)
 obtain rfl:=Option.some.inj (gAxType.symm.trans hty)
 have hlen:cs.toList.length=13:=by
  obtain ⟨xs,m,_,_,h,_⟩:=DataW.trod_array Tryz.underlying203 hd
  rw [h,cellsAx]
 have hcs:cs=axCells:=by
  refine Array.toList_inj.1 (List.ext_getElem? fun k=>?_)
  by_cases hk:k<13
  · obtain ⟨ds,e1,e2⟩:=axes_data k hk
    rw [e1] at hd
    obtain ⟨f,d,q,h1,h2⟩:=Lib.array_elem Tryz.underlying203 hd k hk
    rw [e2] at h1
    obtain rfl:=Option.some.inj h1
    rw [cells9T] at h2
    obtain ⟨s,e3,e4,_⟩:=DataW.trod_string Tryz.underlying9 h2
    simp only [Prod.mk.injEq,DataW.lit.injEq,Lit.string.injEq] at e4
    rw [axesCells_at k hk]
    have e5:s=axN k:=by
     have:=e4.1
     cases hh:s;cases hj:axN k
     rw [hh,hj] at this
     congr 1
     exact (Array.toList_inj.1 this).symm
    rw [e5] at e3
    have:=congrArg (fun l:List Value=>l[0]?) e3
    simpa using this
  · rw [List.getElem?_eq_none (by omega),List.getElem?_eq_none (by show axCells.toList.length<=k;have:axCells.toList.length=13:=rfl;omega)]
 subst hcs
 unfold World.var? at hvar
 rw [gAx] at hvar
 simp only [Option.bind_some] at hvar
 unfold AxTab
 cases hh:W.heap[8]? with
 | none=>rw [hh] at hvar;cases hvar
 | some o =>
  rw [hh] at hvar
  have hlt:8<W.heap.size:=by
   by_cases h:8<W.heap.size
   · exact h
   · rw [Array.getElem?_eq_none (by omega)] at hh;cases hh
  cases o with
  | cells c t fr=>simp only [Option.some.injEq] at hvar;subst hvar;exact ⟨⟨t,fr,rfl⟩,hlt⟩
  | _=>cases hvar
open Go.ChangeShapes Go.WideShapes Go.ChangeAt Go.RowKit
def litD:DataW Unit→Value
 | .lit (.int k n)=>.int k n
 | .lit (.string l)=>.string ⟨l.toArray⟩
 | _=>.int .i64 0
def aggD:DataW Unit->Array Value
 | .agg l=>(l.map litD).toArray
 | _=>#[]
noncomputable def laidWorldD (os:Os):World :=
 let w0:=World.holding Tryz.prog os ⟨#[],#[],[]⟩
 let put (h:Array Obj) (g:Nat) (cs:Array Value):Array Obj:=h.modify g fun
  | .cells _ t frozen=>.cells cs t frozen
  | o=>o
 let h1:=put w0.heap (Tryz.laysValid_ren.g 3) (Lib.firstTab.map fun z=>Value.int .u8 z).toArray
 let h2:=put h1 (Tryz.laysValid_ren.g 4) ((List.range 16).flatMap fun i=>[Value.int .u8 (Lib.accLo i),Value.int .u8 (Lib.accHi i)]).toArray
 let h3:=put h2 0 mkCells
 let h4:=put h3 5 opCells
 let h5:=put h4 8 (aggD Rows.laid_pleacher_read_axes)
 let h6:=put h5 9 (aggD Rows.laid_pleacher_read_kindTests)
 { w0 with heap:=h6 }
open Go.ChangeShapes Go.WideShapes Go.ChangeAt Go.RowKit
noncomputable def laidWorldQ (os:Os):World :=
 let w0:=laidWorldD os
 let put (h:Array Obj) (g:Nat) (cs:Array Value):Array Obj:=h.modify g fun
  | .cells _ t frozen=>.cells cs t frozen
  | o=>o
 let h4:=put w0.heap 6 (aggD Rows.laid_math_bits_deBruijn32tab)
 let h5:=put h4 7 (aggD Rows.laid_math_bits_deBruijn64tab)
 let h6:=put h5 3 (aggD Rows.laid_internal_strconv_uint64pow10)
 { w0 with heap:=h6 }
end Go.Proofs.YtmcmbdkpfcibkaaGreatDoor
