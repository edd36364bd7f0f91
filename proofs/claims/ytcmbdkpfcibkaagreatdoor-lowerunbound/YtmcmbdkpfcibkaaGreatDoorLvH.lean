import Derived.Test.YtmcmbdkpfcibkaaGreatDoorDvF
import Derived.Test.YtmcmbdkpfcibkaaGreatDoorPmClone
import Derived.Test.YtmcmbdkpfcibkaaGreatDoorRgIn
import Derived.Test.YtmcmbdkpfcibkaaGreatDoorPoNext
import Derived.Test.YtmcmbdkpfcibkaaGreatDoorLvC
import Derived.Test.YtmcmbdkpfcibkaaGreatDoorLxE
set_option linter.unusedVariables false
namespace Go.Proofs.YtmcmbdkpfcibkaaGreatDoor
set_option maxRecDepth 100000
open Go.RowKit
theorem md_cut {X:List UInt8} {K:List Tok} (h:MdK X K) (hl:X.length<=200):cutT X=K/\cutP X=0/\cutE X=0/\GoodT K/\K.length<=X.length:=by
 have c:=h.2 [] (.inl rfl) X [] 0 (CutTo.zero X) (by simp) (by have:=h.1.1;simp;omega)
 have d:=c.done (by omega) (by simp)
 simp only [List.nil_append] at d
 obtain ⟨d1,d2,d3⟩:=d
 refine ⟨d1,d2,d3,fun t ht=>⟨?_,by have:=h.1.2 t ht;omega⟩,h.1.1⟩
 have g:=(cut_spoken (q:=X) (by omega) d3).2.1
 rw [d1] at g
 exact g t ht
theorem ls_run {K:List Tok} {p:Ph} {d:Nat} (h:IsLs K p d) (h30:d<=30) (R:List Tok) (hf:folL (hd R)=true) (hl:(K ++ R).length<=200) (pb b c:Nat):RunT pb b c (K ++ R) 20 #[vP pb 0] ⟨0,0,0⟩ ⟨K.length,0,0⟩ p:=by
 have r:=h.run (K ++ R) 0 0 R pb b c ⟨hl,rfl⟩ hf (by omega)
 rw [Nat.zero_add] at r
 exact r
open Go.RowKit
theorem st_min0 {X:List Tok} {p:Ph} {d:Nat} (h:IsStep X p d):IsMin X p d:=by
 obtain ⟨p1,p2,p3,p4⟩:=headP_parts h.head
 refine ⟨h.ne,(headM_parts p1).1,fun T a o R pb b c hs hf ho=>?_⟩
 have hz:=hs.size h.ne
 have l1:a<=300:=by omega
 have l2:a + X.length<=200:=by omega
 have e:seeM T ⟨a,o,0⟩ 0=hd X:=see0.trans (hs.fst h.ne)
 have r0:=h.run T a o R pb b c hs (folA_S hf).1 ho
 have r1:RunS pb b c T ⟨a + X.length,o,0⟩ ⟨a + X.length,o,0⟩ p p:=steps_chain (pb:=pb) (b:=b) (c:=c) (p0:=p) (L:=[]) (d:=d) (fun e he=>absurd he (by simp)) (show Sp T (a + X.length) (jt []) R from hs.rest) l2 hf ho
 exact minus_none (st:=⟨a,o,0⟩) hs.len l1 (e.trans rfl) (headM_parts p1).2 (path_steps (st:=⟨a,o,0⟩) hs.len l1 (e.trans rfl) p3 p2 r0 r1)
theorem ls_sg0 {X:List Tok} {p:Ph} {d:Nat} (h:IsSg X p d):IsLs X p (d + 1):=by
 refine ⟨h.ne,h.head,fun T a o R pb b c hs hf ho=>?_⟩
 have hz:=hs.size h.ne
 have l1:a<=300:=by omega
 have l2:o<=100:=by omega
 have l3:o + 1<=200:=by omega
 have hs':Sp T a (X ++ jt []) R:=by simpa [jt] using hs
 have r:=sgs_chain (pb:=pb) (b:=b) (c:=c) (o:=o + 1) (L:=[]) h (fun e he=>absurd he (by simp)) hs' hf (by omega)
 rw [show (X ++ jt []).length=X.length by simp [jt]] at r
 exact list_one (st:=⟨a,o,0⟩) (s0:=⟨a,o + 1,0⟩) (s1:=⟨a + X.length,o + 1,0⟩) (A:=phC p []) hs.len l1 l2 ⟨by simp,l3⟩ (ent0 (by omega)) r
theorem sg_prim0 {X:List Tok} {p:Ph} {d:Nat} (h:IsPrim X p d):IsSg X p (d + 2):=sg_min (st_min0 (st_plain h))
structure ParT (T:List Tok) (p:Ph):Prop where
 good:GoodT T
 len:T.length<=200
 pos:0<T.length
 run:∀ pb b c,RunT pb b c T 20 #[vP pb 0] ⟨0,0,0⟩ ⟨T.length,0,0⟩ p
theorem par_of {X:List UInt8} {K:List Tok} {p:Ph} {d:Nat} (m:MdK X K) (hl:X.length<=200) (h:IsSg K p d) (h29:d<=29):ParT K p/\cutT X=K/\cutP X=0/\cutE X=0:=by
 obtain ⟨c1,c2,c3,c4,c5⟩:=md_cut m hl
 refine ⟨⟨c4,by omega,List.length_pos_iff.2 h.ne,fun pb b c=>?_⟩,c1,c2,c3⟩
 have r:=ls_run (ls_sg0 h) (by omega) [] (by decide +kernel) (by rw [List.append_nil];omega) pb b c
 rw [List.append_nil] at r
 exact r
open Go.RowKit Go.WideShapes Go.Shelf
def inL (N:ByteArray->Nat) (L:List ByteArray):ByteArray->Nat:=fun y=>N y + cntE L y
theorem txts_of {W:World} {b:Nat} (L:List ByteArray) (h:W.heap[b]?=some (.cells (L.map Value.string).toArray 9)) (hm:L.length<=maxLen):TxtsL W (vL b 0 L.length L.length) L :=
 ⟨b,0,L.length,rfl,Nat.le_refl _,hm,(gI h).1,fun i hi=>by
  rw [World.cell?,h]
  simp [hi]⟩
theorem enterL {w0 W:World} {lb tb ob sb:Nat} {N:ByteArray->Nat} {p:Nat} {L:List ByteArray} {v:Value} (h:XS w0 lb tb ob sb N p W) (hls:lb≠sb) (hv:TxtsL W v L) (hn:∀ x∈L,x.size<=maxLen) (hl:L.length<=1000) (hN:∀ y,N y<=100000) :
 Calls Tryz.prog 37 #[.map (some sb),v] W fun e w'=>e=.returned (.tuple #[])/\XS w0 lb tb ob sb (inL N L) p w'/\TurnedM W w' sb :=
 (enter_is sb N L v W h.s hv hn (fun y=>by have:=hN y;omega)).mono fun e w' ⟨k1,k2,k3⟩=>⟨k1,h.turned hls k2 k3,k3⟩
theorem leaveL {w0 W:World} {lb tb ob sb:Nat} {N:ByteArray->Nat} {p:Nat} {L:List ByteArray} {v:Value} (h:XS w0 lb tb ob sb (inL N L) p W) (hls:lb≠sb) (hv:TxtsL W v L) (hn:∀ x∈L,x.size<=maxLen) (hl:L.length<=1000) (hN:∀ y,N y<=100000) :
 Calls Tryz.prog 38 #[.map (some sb),v] W fun e w'=>e=.returned (.tuple #[])/\XS w0 lb tb ob sb N p w'/\TurnedM W w' sb :=
 (leave_is sb N L v W h.s hv hn (fun y=>by have:=hN y;omega)).mono fun e w' ⟨k1,k2,k3⟩=>⟨k1,h.turned hls k2 k3,k3⟩
theorem enterLN {w0 W:World} {lb tb ob sb:Nat} {N:ByteArray->Nat} {p:Nat} {L:List ByteArray} {v:Value} (h:XN w0 lb tb ob sb N p W) (hls:lb≠sb) (hv:TxtsL W v L) (hn:∀ x∈L,x.size<=maxLen) (hl:L.length<=1000) (hN:∀ y,N y<=100000) :
 Calls Tryz.prog 37 #[.map (some sb),v] W fun e w'=>e=.returned (.tuple #[])/\XN w0 lb tb ob sb (inL N L) p w'/\TurnedM W w' sb :=
 (enter_is sb N L v W h.s hv hn (fun y=>by have:=hN y;omega)).mono fun e w' ⟨k1,k2,k3⟩=>⟨k1,h.turned hls k2 k3,k3⟩
theorem leaveLN {w0 W:World} {lb tb ob sb:Nat} {N:ByteArray->Nat} {p:Nat} {L:List ByteArray} {v:Value} (h:XN w0 lb tb ob sb (inL N L) p W) (hls:lb≠sb) (hv:TxtsL W v L) (hn:∀ x∈L,x.size<=maxLen) (hl:L.length<=1000) (hN:∀ y,N y<=100000) :
 Calls Tryz.prog 38 #[.map (some sb),v] W fun e w'=>e=.returned (.tuple #[])/\XN w0 lb tb ob sb N p w'/\TurnedM W w' sb :=
 (leave_is sb N L v W h.s hv hn (fun y=>by have:=hN y;omega)).mono fun e w' ⟨k1,k2,k3⟩=>⟨k1,h.turned hls k2 k3,k3⟩
end Go.Proofs.YtmcmbdkpfcibkaaGreatDoor
