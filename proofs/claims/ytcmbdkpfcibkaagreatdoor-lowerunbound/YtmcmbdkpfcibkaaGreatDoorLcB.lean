import Derived.Test.YtmcmbdkpfcibkaaGreatDoorLaidQ
import Derived.Test.YtmcmbdkpfcibkaaGreatDoorRlItemC
import Derived.Test.YtmcmbdkpfcibkaaGreatDoorCkSt
import Derived.Test.YtmcmbdkpfcibkaaGreatDoorRgIn
set_option linter.unusedVariables false
set_option maxHeartbeats 3200000
namespace Go.Proofs.YtmcmbdkpfcibkaaGreatDoor
set_option maxRecDepth 100000
open Go.RowKit Go.WideShapes
structure PhAt (w:World) (b off:Nat) (k:Int) (it:It) (nm:ByteArray) (n ax tk:Int) (tn:ByteArray) (av cv:Value):Prop where
 c0:w.cell? ⟨b,off,none⟩=some (vI k)
 c1:w.cell? ⟨b,off + 1,none⟩=some (vI it.kind)
 c2:w.cell? ⟨b,off + 2,none⟩=some (vI it.n)
 c3:w.cell? ⟨b,off + 3,none⟩=some (vS it.s)
 c4:w.cell? ⟨b,off + 4,none⟩=some (vS nm)
 c5:w.cell? ⟨b,off + 5,none⟩=some (vI n)
 c6:w.cell? ⟨b,off + 6,none⟩=some (vI ax)
 c7:w.cell? ⟨b,off + 7,none⟩=some (vI tk)
 c8:w.cell? ⟨b,off + 8,none⟩=some (vS tn)
 c9:w.cell? ⟨b,off + 9,none⟩=some av
 c10:w.cell? ⟨b,off + 10,none⟩=some cv
theorem PhAt.below {w w':World} {B b off:Nat} {k:Int} {it:It} {nm:ByteArray} {n ax tk:Int} {tn:ByteArray} {av cv:Value} (h:PhAt w b off k it nm n ax tk tn av cv) (hb:Below B w w') (hB:b<B):PhAt w' b off k it nm n ax tk tn av cv :=
 have e:=fun o=>hb.cell (p:=⟨b,o,none⟩) hB
 ⟨(e _).trans h.c0,(e _).trans h.c1,(e _).trans h.c2,(e _).trans h.c3,(e _).trans h.c4,(e _).trans h.c5,(e _).trans h.c6,(e _).trans h.c7,(e _).trans h.c8,(e _).trans h.c9,(e _).trans h.c10⟩
theorem bk5 {w:World} {b:Nat} {x y z t u:Value} {T:TypeId} (h:w.heap[b]?=some (.cells #[x,y,z,t,u] T)):w.cell? ⟨b,0,none⟩=some x/\w.cell? ⟨b,1,none⟩=some y/\w.cell? ⟨b,2,none⟩=some z/\w.cell? ⟨b,3,none⟩=some t/\w.cell? ⟨b,4,none⟩=some u/\(∀ o,w.frozen? ⟨b,o,none⟩=false)/\b<w.heap.size :=
 ⟨by rw [Lib.cell_of_heap h];rfl,by rw [Lib.cell_of_heap h];rfl,by rw [Lib.cell_of_heap h];rfl,by rw [Lib.cell_of_heap h];rfl,by rw [Lib.cell_of_heap h];rfl,fun o=>Lib.frozen_of_heap h _,(gI h).1⟩
theorem bk11 {w:World} {b:Nat} {x0 x1 x2 x3 x4 x5 x6 x7 x8 x9 x10:Value} {T:TypeId} (h:w.heap[b]?=some (.cells #[x0,x1,x2,x3,x4,x5,x6,x7,x8,x9,x10] T)):w.cell? ⟨b,0,none⟩=some x0/\w.cell? ⟨b,1,none⟩=some x1/\w.cell? ⟨b,2,none⟩=some x2/\w.cell? ⟨b,3,none⟩=some x3/\w.cell? ⟨b,4,none⟩=some x4/\w.cell? ⟨b,5,none⟩=some x5/\w.cell? ⟨b,6,none⟩=some x6/\w.cell? ⟨b,7,none⟩=some x7/\w.cell? ⟨b,8,none⟩=some x8/\w.cell? ⟨b,9,none⟩=some x9/\w.cell? ⟨b,10,none⟩=some x10/\(∀ o,w.frozen? ⟨b,o,none⟩=false)/\b<w.heap.size :=
 ⟨by rw [Lib.cell_of_heap h];rfl,by rw [Lib.cell_of_heap h];rfl,by rw [Lib.cell_of_heap h];rfl,by rw [Lib.cell_of_heap h];rfl,by rw [Lib.cell_of_heap h];rfl,by rw [Lib.cell_of_heap h];rfl,by rw [Lib.cell_of_heap h];rfl,by rw [Lib.cell_of_heap h];rfl,by rw [Lib.cell_of_heap h];rfl,by rw [Lib.cell_of_heap h];rfl,by rw [Lib.cell_of_heap h];rfl,fun o=>Lib.frozen_of_heap h _,(gI h).1⟩
def putL (w:World) (b:Nat):Nat->List Value->World
 | _,[]=>w
 | k,v :: r=>putL (w.setCell ⟨b,k,none⟩ v) b (k + 1) r
theorem putL_some {b:Nat} {T:TypeId}:∀ (vs:List Value) (w:World) (k:Nat) (cs:Array Value),w.heap[b]?=some (.cells cs T)->cs.size=k + vs.length->(putL w b k vs).heap[b]?=some (.cells (cs.toList.take k ++ vs).toArray T)
 | [],w,k,cs,h,hs=>by
  rw [putL,h,List.append_nil,List.take_of_length_le (by rw [Array.length_toList,hs];exact Nat.le_refl _)]
 | v :: r,w,k,cs,h,hs=>by
  rw [List.length_cons] at hs
  rw [putL,putL_some r _ (k + 1) _ (heap_set_same h k v) (by rw [Array.size_setIfInBounds];omega)]
  have e:(cs.setIfInBounds k v).toList.take (k + 1)=cs.toList.take k ++ [v]:=by
   rw [Array.toList_setIfInBounds,List.take_add_one,List.getElem?_set_self (by rw [Array.length_toList];omega),List.take_set_of_le (Nat.le_refl _)]
   rfl
  rw [e,List.append_assoc]
  rfl
theorem putL_same {b:Nat} {T:TypeId} {w:World} {cs:Array Value} (h:w.heap[b]?=some (.cells cs T)) (vs:List Value) (hs:cs.size=vs.length):(putL w b 0 vs).heap[b]?=some (.cells vs.toArray T):=by
 have:=putL_some vs w 0 cs h (by omega)
 rw [List.take_zero,List.nil_append] at this
 exact this
theorem putL_other {b c:Nat} (hn:c≠b):∀ (vs:List Value) (w:World) (k:Nat),(putL w b k vs).heap[c]?=w.heap[c]?
 | [],_,_=>rfl
 | v :: r,w,k=>by rw [putL,putL_other hn r];exact Below.heap_setCell _ _ _ _ hn
theorem putL_below {b B:Nat} {w0:World} (hB:B<=b):∀ (vs:List Value) (w:World) (k:Nat),Below B w0 w->Below B w0 (putL w b k vs)
 | [],_,_,h=>h
 | v :: r,w,k,h=>putL_below hB r _ (k + 1) (h.setCell hB _)
theorem parts_28 (w:World):Calls Tryz.prog 86 #[vI 28,vI 1] w fun e w'=>e=.returned (vI 0)/\w'=w:=by
 go_enter Tryz.func86,Tryz.ntmps86
 go_wp2
 go_ret
 exact ⟨rfl,rfl⟩
theorem parts_1 (w:World):Calls Tryz.prog 86 #[vI 1,vI 0] w fun e w'=>e=.returned (vI 0)/\w'=w:=by
 go_enter Tryz.func86,Tryz.ntmps86
 go_wp2
 go_ret
 exact ⟨rfl,rfl⟩
theorem alone_flwor (lb b off:Nat) (it:It) (nm:ByteArray) (n ax tk:Int) (tn:ByteArray) (aa:Option Addr) (ac:Nat) (cb co cn cc:Nat) (K:Nat->Int) (NN A:Nat->ByteArray) (w:World) (h:PhAt w b off 28 it nm n ax tk tn (.slice aa 1 ac) (vL cb co cn cc)) (hb:b<w.heap.size) (hc:cn<=cc) (hm:cc<=maxLen) (hcl:∀ i,i<cn->ClAt w cb (co + i * 15) (K i) (NN i) (A i)) (hcb:cb<w.heap.size) :
 Calls Tryz.prog 53 #[vP lb 0,vP b off] w fun e w'=>e=.returned (vI (clF cn K NN A))/\Below w.heap.size w w':=by
 have CC:Hid (∀ W,Below w.heap.size w W->Calls Tryz.prog 88 #[vL cb co cn cc] W fun e w'=>e=.returned (vI (clF cn K NN A))/\Below W.heap.size W w'):=fun W hW=>checkClauses_is cb co cn cc K NN A W hc hm (fun i hi=>(hcl i hi).below hW hcb) (Nat.lt_of_lt_of_le hcb hW.size)
 have CP:Hid (∀ W,Calls Tryz.prog 86 #[vI 28,vI 1] W fun e w'=>e=.returned (vI 0)/\w'=W):=parts_28
 obtain ⟨c0,c1,c2,c3,c4,c5,c6,c7,c8,c9,c10⟩:=h
 generalize clF cn K NN A=R at *
 clear hcl c1 c2 c3 c4 c5 c6 c7 c8
 go_enter Tryz.func53,Tryz.ntmps53
 go_upto_region 1 with fail
 go_quiet ((go_at_call 86;exact Calls.quiet_of_same (CP.out _)))
 obtain ⟨W1,hW1⟩:∃ W,W=w.drewN nq:=⟨_,rfl⟩
 have HB1:Hid (Below w.heap.size w W1):=by rw [hW1];exact ⟨rfl,rfl,rfl,Nat.le_refl _,fun _ _=>rfl⟩
 rw [<- hW1]
 have e0:W1.cell? ⟨b,off,none⟩=some (vI 28):=(HB1.out.cell (p:=⟨b,off,none⟩) hb).trans c0
 have e10:W1.cell? ⟨b,off + 10,none⟩=some (vL cb co cn cc):=(HB1.out.cell (p:=⟨b,off + 10,none⟩) hb).trans c10
 clear hW1 c0 c9 c10
 go_wp2_with (go_at_call 88;refine (CC.out W1 HB1.out).mono ?_;rintro e w2 ⟨rfl,hb2⟩;have HB2:Hid (Below w.heap.size w w2):=HB1.out.trans (hb2.mono HB1.out.size);clear hb2)
 go_ret
 exact ⟨rfl,HB2.out⟩
def noEx:Value:=.agg zA
theorem expr_bad (lb tb ob sb p b off:Nat) (R:Int) (w:World) (hR:¬ R=0) (hl:w.heap[lb]?=some (.cells #[.map (some tb),.map (some ob),.map (some sb),vI (p:Int),vI 0] 73))
 (ha:∀ W,Below w.heap.size w W->Calls Tryz.prog 53 #[vP lb 0,vP b off] W fun e w'=>e=.returned (vI R)/\Below W.heap.size W w') :
 Calls Tryz.prog 24 #[vP lb 0,vP b off] w fun e w'=>e=.returned noEx/\w'.heap[lb]?=some (.cells #[.map (some tb),.map (some ob),.map (some sb),vI (p:Int),vI R] 73)/\(∀ b,b<w.heap.size->b≠lb->w'.heap[b]?=w.heap[b]?)/\Below lb w w':=by
 have CA:=hidC ha
 have HL:=hidC hl
 obtain ⟨l0,l1,l2,l3,l4,l5,l6⟩:=bk5 hl
 have hR1:(R == 0)=false:=by simpa using hR
 clear ha hl l0 l1 l2 l3 hR
 unfold noEx
 go_enter Tryz.func24,Tryz.ntmps24
 go_wp2_with (go_at_call 53;refine (CA.out _ ?_).mono ?_;(· exact (Below.refl _ _).alloc (Nat.le_refl _) _);rintro e w1 ⟨rfl,hb1⟩;have HB1:Hid (Below w.heap.size w w1):=Below.trans ((Below.refl _ _).alloc (Nat.le_refl _) _) (hb1.mono (by simp));have HL1:=hidC (blC HB1.out l6 HL.out);have HZ1:=hidC ((hb1.block w.heap.size (by simp)).trans (aNew rfl));obtain ⟨_,_,_,_,m4,m5,m6⟩:=bk5 HL1.out;obtain ⟨z0,z1,z2,z3,z4,z5,z6,z7,z8,z9,z10,z11,z12⟩:=bk11 HZ1.out;have hz1:=HB1.out.size;have hne:lb≠w.heap.size:=(by omega);clear hb1)
 generalize hW2:World.setCell _ _ _=W2
 have hW3:W2=putL (w1.setCell ⟨lb,4,none⟩ (vI R)) w.heap.size 0 zL:=hW2.symm
 have HZ2:Hid (W2.heap[w.heap.size]?=some (.cells zA 29)):=by rw [hW3];exact putL_same (sOth HZ1.out (Ne.symm hne)) _ rfl
 have HL2:Hid (W2.heap[lb]?=some (.cells #[.map (some tb),.map (some ob),.map (some sb),vI (p:Int),vI R] 73)):=by rw [hW3];exact (putL_other hne _ _ _).trans (heap_set_same HL1.out 4 _)
 have HO2:Hid (∀ c,c<w.heap.size->c≠lb->W2.heap[c]?=w.heap[c]?):=by rw [hW3];exact fun c h1 h2=>(putL_other (by omega) _ _ _).trans ((Below.heap_setCell _ _ _ _ h2).trans (HB1.out.block c h1))
 have HB2:Hid (Below lb w W2):=by rw [hW3];exact putL_below (B:=lb) (Nat.le_of_lt l6) _ _ _ (Below.setCell (Below.mono HB1.out (Nat.le_of_lt l6)) (Nat.le_refl lb) _)
 clear hW2 hW3
 obtain ⟨y0,y1,y2,y3,y4,y5,y6,y7,y8,y9,y10,_,_⟩:=bk11 HZ2.out
 exact bodyPost_ret (v:=.agg zA) (by simp [results,Tryz.results24,go_sem,y0,y1,y2,y3,y4,y5,y6,y7,y8,y9,y10]) rfl ⟨rfl,HL2.out,HO2.out,HB2.out⟩
end Go.Proofs.YtmcmbdkpfcibkaaGreatDoor
