import Derived.Test.YtmcmbdkpfcibkaaGreatDoorPtSgl2
import Derived.Test.YtmcmbdkpfcibkaaGreatDoorPoNext
import Derived.Maps.AppendAt
import Derived.Sort.AtCall
import Derived.Test.YtmcmbdkpfcibkaaGreatDoorQoNodF
import Derived.Test.YtmcmbdkpfcibkaaGreatDoorQoNodT
import Derived.Test.YtmcmbdkpfcibkaaGreatDoorCkSt
import Derived.Test.YtmcmbdkpfcibkaaGreatDoorQoQue
import Derived.Laws.Concat
import Derived.Test.YtmcmbdkpfcibkaaGreatDoorRgIn
set_option linter.unusedVariables false
set_option maxHeartbeats 6400000
namespace Go.Proofs.YtmcmbdkpfcibkaaGreatDoor
set_option maxRecDepth 100000
open Go.RowKit
def Keeps (E:World->(Nat->Prop)->List Value->Prop):Prop:=∀ (w w':World) (S S':Nat->Prop) (u:List Value),(∀ b,S b->S' b)->(∀ b,S b->w'.heap[b]?=w.heap[b]?)->E w S u->E w' S' u
def LOwn (T:TypeId) (sz:Nat) (E:Nat->World->(Nat->Prop)->List Value->Prop) (w:World) (lo:Nat) (v:Value) (n:Nat):Prop :=
 ∃ L:Nat->List Value,w.ownsRow lo T sz v n ((List.range n).flatMap L)/\∀ i,i<n->(L i).length=sz/\E i w (fun b=>(lo<=b/\b<w.heap.size)/\v.ownBlock≠some b) (L i)
theorem LOwn.nil (T:TypeId) (sz:Nat) (E:Nat->World->(Nat->Prop)->List Value->Prop) (w:World) (lo:Nat):LOwn T sz E w lo (vN) 0:=⟨fun _=>[],World.ownsRow_nil _ _ _ _,fun i hi=>absurd hi (by omega)⟩
theorem LOwn.form {T:TypeId} {sz:Nat} {E:Nat->World->(Nat->Prop)->List Value->Prop} {w:World} {lo:Nat} {v:Value} {n:Nat} (h:LOwn T sz E w lo v n):∃ a c,v=.slice a n c:=by
 obtain ⟨L,h1,_⟩:=h
 exact own_shape h1
theorem LOwn.own {T:TypeId} {sz:Nat} {E:Nat->World->(Nat->Prop)->List Value->Prop} {w:World} {lo:Nat} {v:Value} {n:Nat} (h:LOwn T sz E w lo v n):∀ k,v.ownBlock=some k->lo<=k/\k<w.heap.size:=by
 obtain ⟨L,h1,_⟩:=h
 exact World.ownsRow.lt h1
theorem LOwn.step {T:TypeId} {sz:Nat} {E:Nat->World->(Nat->Prop)->List Value->Prop} (hE:∀ i,Keeps (E i)) {w w':World} {lo:Nat} {v:Value} {n:Nat} (h:LOwn T sz E w lo v n) (hs:w.heap.size<=w'.heap.size) (hb:∀ b,lo<=b->b<w.heap.size->w'.heap[b]?=w.heap[b]?):LOwn T sz E w' lo v n:=by
 obtain ⟨L,h1,h2⟩:=h
 refine ⟨L,⟨h1.1,?_⟩,fun i hi=>⟨(h2 i hi).1,hE i _ _ _ _ _ (fun b q=>⟨⟨q.1.1,Nat.lt_of_lt_of_le q.1.2 hs⟩,q.2⟩) (fun b q=>hb b q.1.1 q.1.2) (h2 i hi).2⟩⟩
 rcases h1.2 with q | ⟨g,cap,cur,q1,q2,q3,q4⟩
 · exact .inl q
 · refine .inr ⟨g,cap,cur,q1,q2,?_,q4⟩
   rw [hb g q2 (gI q3).1]
   exact q3
theorem LOwn.grow {T:TypeId} {sz:Nat} {E:Nat->World->(Nat->Prop)->List Value->Prop} (hE:∀ i,Keeps (E i)) {w w':World} {lo pb:Nat} {v:Value} {n:Nat} (h:LOwn T sz E w lo v n) (hg:GrowA pb w w') (hp:pb<lo):LOwn T sz E w' lo v n:=h.step hE hg.1 (fun b h1 h2=>hg.2.2.2.2 b h2 (by omega))
theorem LOwn.below {T:TypeId} {sz:Nat} {E:Nat->World->(Nat->Prop)->List Value->Prop} (hE:∀ i,Keeps (E i)) {w w':World} {lo:Nat} {v:Value} {n:Nat} (h:LOwn T sz E w lo v n) (hg:Below w.heap.size w w'):LOwn T sz E w' lo v n:=h.step hE hg.size (fun b h1 h2=>hg.block b h2)
theorem LOwn.push {T:TypeId} {sz:Nat} {E:Nat->World->(Nat->Prop)->List Value->Prop} (hE:∀ i,Keeps (E i)) {w w':World} {lo lo1:Nat} {v v':Value} {n:Nat} {L:Nat->List Value} {u:List Value}
 (h2:∀ i,i<n->(L i).length=sz/\E i w (fun b=>(lo<=b/\b<w.heap.size)/\v.ownBlock≠some b) (L i)) (hu:u.length=sz) (hEu:E n w (fun b=>lo1<=b/\b<w.heap.size) u) (hl:lo<=lo1) (hvl:∀ k,v.ownBlock=some k->k<lo1)
 (ho:w'.ownsRow lo T sz v' (n + 1) ((List.range n).flatMap L ++ u)) (hg:w.grownBy w' v.ownBlock) (hv:v'.ownBlock=v.ownBlock\/v'.ownBlock=some w.heap.size):LOwn T sz E w' lo v' (n + 1):=by
 refine ⟨fun i=>if i=n then u else L i,?_,fun i hi=>?_⟩
 · have e:(List.range (n + 1)).flatMap (fun i=>if i=n then u else L i)=(List.range n).flatMap L ++ u:=by
    rw [List.range_succ,List.flatMap_append]
    congr 1
    · rw [List.flatMap_def,List.flatMap_def]
      congr 1
      apply List.map_congr_left
      intro i hi
      have:=List.mem_range.1 hi
      rw [if_neg (by omega)]
    · simp
   rw [e]
   exact ho
 · have key:∀ b,b<w.heap.size->v.ownBlock≠some b->b<w'.heap.size/\v'.ownBlock≠some b/\w'.heap[b]?=w.heap[b]?:=fun b q1 q2=>by
    refine ⟨Nat.lt_of_lt_of_le q1 hg.size,?_,hg.block b q1 (fun e=>q2 e.symm)⟩
    rcases hv with e | e
    · rw [e];exact q2
    · rw [e];intro e2;have:=Option.some.inj e2;omega
   simp only
   by_cases e:i=n
   · rw [if_pos e,e]
     refine ⟨hu,hE n _ _ _ _ _ (fun b q=>?_) (fun b q=>(key b q.2 (fun e=>?_)).2.2) hEu⟩
     · have k:=key b q.2 (fun e=>by have:=hvl b e;omega)
       exact ⟨⟨by omega,k.1⟩,k.2.1⟩
     · have:=hvl b e;omega
   · rw [if_neg e]
     have hin:i<n:=by omega
     refine ⟨(h2 i hin).1,hE i _ _ _ _ _ (fun b q=>?_) (fun b q=>(key b q.1.2 q.2).2.2) (h2 i hin).2⟩
     have k:=key b q.1.2 q.2
     exact ⟨⟨q.1.1,k.1⟩,k.2.1⟩
theorem LOwn.one {T:TypeId} {sz:Nat} {E:Nat->World->(Nat->Prop)->List Value->Prop} (hE:∀ i,Keeps (E i)) {w:World} {lo lo1 g:Nat} {u:List Value} (hu:u.length=sz) (hEu:E 0 w (fun b=>lo1<=b/\b<w.heap.size) u) (hl:lo<=lo1) (hlg:lo1<=g) (hg:w.heap.size=g):LOwn T sz E (w.alloc (.cells u.toArray T)) lo (vL g 0 1 1) 1:=by
 subst hg
 refine ⟨fun _=>u,⟨by simp [List.range_one,hu],.inr ⟨w.heap.size,1,u.toArray,rfl,by omega,heap_alloc_new _ _,Nat.le_refl _,by decide,by simp [hu],?_⟩⟩,fun i hi=>?_⟩
 · simp only [List.range_one,List.flatMap_cons,List.flatMap_nil,List.append_nil,Nat.one_mul]
   exact List.take_of_length_le (by rw [<- hu];exact Nat.le_refl _)
 · obtain rfl:i=0:=by omega
   refine ⟨hu,hE 0 _ _ _ _ _ (fun b q=>⟨⟨by omega,by simp;omega⟩,?_⟩) (fun b q=>Below.heap_alloc _ _ _ q.2) hEu⟩
   simp only [Value.ownBlock]
   intro e
   have:=Option.some.inj e
   omega
theorem flat_at {L:Nat->List Value} {sz:Nat}:∀ {n:Nat},(∀ i,i<n->(L i).length=sz)->∀ i,i<n->∀ j (hj:j<(L i).length),((List.range n).flatMap L)[i * sz + j]?=some (L i)[j]:=by
 intro n
 induction n with
 | zero=>intro _ i hi;omega
 | succ n ih =>
  intro h i hi j hj
  have hlen:((List.range n).flatMap L).length=n * sz:=by
   clear ih hi hj
   have h':∀ i,i<n->(L i).length=sz:=fun i hi=>h i (by omega)
   clear h
   induction n with
   | zero=>simp
   | succ n ih2 =>
    rw [List.range_succ,List.flatMap_append,List.length_append,ih2 (fun i hi=>h' i (by omega))]
    simp [h' n (by omega),Nat.succ_mul]
  rw [List.range_succ,List.flatMap_append]
  by_cases e:i=n
  · subst e
    rw [List.getElem?_append_right (by omega),hlen,Nat.add_sub_cancel_left]
    simp [hj]
  · have hin:i<n:=by omega
    have hs:(L i).length=sz:=h i hi
    have h2:i * sz + j<n * sz:=by
     have h3:(i + 1) * sz<=n * sz:=Nat.mul_le_mul_right _ (by omega)
     rw [Nat.succ_mul] at h3
     omega
    rw [List.getElem?_append_left (by rw [hlen];exact h2)]
    exact ih (fun k hk=>h k (by omega)) i hin j hj
theorem LOwn.lies {T:TypeId} {sz:Nat} {E:Nat->World->(Nat->Prop)->List Value->Prop} {w:World} {lo:Nat} {v:Value} {n:Nat} (hE:∀ i,Keeps (E i)) (h:LOwn T sz E w lo v n):∃ a c,v=.slice a n c/\n<=c/\c<=maxLen/\(0<n->∃ g,a=some ⟨g,0,none⟩/\(lo<=g/\g<w.heap.size)/\∀ i,i<n->∃ u,u.length=sz/\cAt w g (i * sz) u/\E i w (fun b=>lo<=b/\b<w.heap.size) u):=by
 obtain ⟨L,h1,h2⟩:=h
 rcases h1.2 with ⟨q1,q2⟩ | ⟨g,cap,cur,q1,q2,q3,q4,q5,q6,q7⟩
 · subst q2
   exact ⟨none,0,q1,Nat.le_refl _,by decide,fun hn=>absurd hn (by omega)⟩
 · refine ⟨some ⟨g,0,none⟩,cap,q1,q4,q5,fun hn=>⟨g,rfl,⟨q2,(gI q3).1⟩,fun i hi=>⟨L i,(h2 i hi).1,fun j hj=>?_,hE i _ _ _ _ _ (fun b q=>q.1) (fun _ _=>rfl) (h2 i hi).2⟩⟩⟩
   have k:=flat_at (fun i hi=>(h2 i hi).1) i hi j hj
   rw [<- q7,List.getElem?_take] at k
   have hlt:i * sz + j<n * sz:=by
    have h3:(i + 1) * sz<=n * sz:=Nat.mul_le_mul_right _ (by omega)
    have h4:=(h2 i hi).1
    rw [Nat.succ_mul] at h3
    omega
   rw [if_pos hlt] at k
   simp only [Array.getElem?_toList] at k
   simp only [World.cell?,q3]
   exact k
def PhE (A:Nat->Ph) (i:Nat) (w:World) (S:Nat->Prop) (u:List Value):Prop:=(A i).V w S u
theorem PhE.keeps (A:Nat->Ph):∀ i,Keeps (PhE A i):=fun i w w' S S' u h1 h2 h3=>Ph.V.keep h1 h2 h3
theorem LOwn.phs {A:Nat->Ph} {w:World} {lo:Nat} {v:Value} {n:Nat} (h:LOwn 44 11 (PhE A) w lo v n):Phs w lo n A v:=by
 obtain ⟨a,c,h1,h2,h3,h4⟩:=h.lies (PhE.keeps A)
 refine ⟨a,c,h1,h2,h3,fun hn=>?_⟩
 obtain ⟨g,q1,q2,q3⟩:=h4 hn
 refine ⟨g,q1,q2,fun i hi=>?_⟩
 obtain ⟨u,r1,r2,r3⟩:=q3 i hi
 exact ⟨u,r2,r3⟩
theorem Ph.V.len {w:World} {S:Nat->Prop} {p:Ph} {v:List Value} (h:p.V w S v):v.length=11:=by
 obtain ⟨k0,k1,k2,k5,k6,k7,s3,s4,s8,a9,a10,l9,c9,l10,c10,rfl⟩:=h.form
 rfl
theorem Ph.V.ones {w:World} {S:Nat->Prop} {p:Ph} {v:List Value} (h:p.V w S v):∀ u∈v,u.oneCell'=true:=by
 obtain ⟨k0,k1,k2,k5,k6,k7,s3,s4,s8,a9,a10,l9,c9,l10,c10,rfl⟩:=h.form
 intro u hu
 simp at hu
 rcases hu with rfl | rfl | rfl | rfl | rfl | rfl | rfl | rfl | rfl | rfl | rfl <;> rfl
theorem infoPh:(Tryz.prog.info? 44).map (fun i=>(i.zero,i.size,i.bytes))=some (some (.agg (pA 0 0 0 ByteArray.empty ByteArray.empty 0 0 0 ByteArray.empty none 0 0 none 0 0)),11,144):=by kernel_rfl
theorem new_at {w:World} {g:Nat} {u:List Value} {T:TypeId} (hg:w.heap.size=g):∀ j x,u[j]?=some x->(w.alloc (.cells u.toArray T)).cell? ((⟨g,0,none⟩:Addr).add j)=some x:=by
 subst hg
 intro j x hx
 have e:(w.alloc (.cells u.toArray T)).heap[w.heap.size]?=some (.cells u.toArray T):=heap_alloc_new _ _
 by_cases h0:j=0
 · subst h0
   simp only [Addr.add,World.cell?,if_true]
   rw [e]
   simpa using hx
 · simp only [Addr.add,World.cell?,if_neg h0]
   rw [e]
   simpa using hx
open Go.RowKit
def lenV:Value->Nat
 | .slice _ n _=>n
 | _=>0
theorem PaS.same {w w':World} {pb b c:Nat} {T:List Tok} {st:Pst} (h:PaS w pb b c T st) (hz:w.heap.size<=w'.heap.size) (kp:w'.heap[pb]?=w.heap[pb]?) (kb:w'.heap[b]?=w.heap[b]?):PaS w' pb b c T st :=
 ⟨(World.cell?_of_block (a:=⟨pb,0,none⟩) kp).trans h.l,(World.cell?_of_block (a:=⟨pb,1,none⟩) kp).trans h.a,(World.cell?_of_block (a:=⟨pb,2,none⟩) kp).trans h.o,(World.cell?_of_block (a:=⟨pb,3,none⟩) kp).trans h.e,(World.frozen?_of_block (a:=⟨pb,1,none⟩) kp).trans h.fa,(World.frozen?_of_block (a:=⟨pb,2,none⟩) kp).trans h.fo,(World.frozen?_of_block (a:=⟨pb,3,none⟩) kp).trans h.fe,Nat.lt_of_lt_of_le h.pl hz,Nat.lt_of_lt_of_le h.bl hz,h.ne,fun i hi=>by
  obtain ⟨h1,h2,h3⟩:=h.ts i hi
  exact ⟨(World.cell?_of_block (a:=⟨b,_,none⟩) kb).trans h1,(World.cell?_of_block (a:=⟨b,_,none⟩) kb).trans h2,(World.cell?_of_block (a:=⟨b,_,none⟩) kb).trans h3⟩⟩
theorem RunT.useL {pb b c:Nat} {T:List Tok} {f:Nat} {args:Array Value} {st st':Pst} {p:Ph} (h:RunT pb b c T f args st st' p) {w W:World} (ht:RTab w pb) (hp:PaS W pb b c T st) (hg:GrowA pb w W) :
 Calls Tryz.prog f args W fun e w'=>∃ lo v,(w.heap.size<=lo/\pb<lo/\lo<=w'.heap.size/\lo=W.heap.size)/\Tre w' lo p v/\e=.returned (.agg v.toArray)/\PaS w' pb b c T st'/\GrowA pb W w' :=
 (h W hp (ht.grow hg)).mono fun e w' ⟨v,h1,h2,h3,h4⟩=>⟨W.heap.size,v,⟨hg.1,hp.pl,h4.1,rfl⟩,h1,h2,h3,h4⟩
theorem singles_is {pb b c:Nat} {T:List Tok} {st:Pst} {n:Nat} {A:Nat→Ph} {ST:Nat→Pst} (hT:T.length≤200) (hn:1≤n) (hn2:n≤1000) (hS:∀ k,k≤n→(ST k).at'≤299) (h0:RunT pb b c T 84 #[.pointer (some ⟨pb,0,none⟩)] st (ST 1) (A 0)) (h1:∀ k,1≤k→k<n→eqT (seeM T (ST k) 0) ⟨5,⟨#[44]⟩,0⟩=true) (hs:∀ k,1≤k→k<n→RunT pb b c T 84 #[.pointer (some ⟨pb,0,none⟩)] { ST k with at':=(ST k).at' + 1 } (ST (k + 1)) (A k)) (h2:eqT (seeM T (ST n) 0) ⟨5,⟨#[44]⟩,0⟩=false):RunL pb b c T 51 st (ST n) n A:=by
 intro w h htb
 have HTB:Hid (RTab w pb):=htb
 have H0:Hid (RunT pb b c T 84 #[.pointer (some ⟨pb,0,none⟩)] st (ST 1) (A 0)):=h0
 have H1:Hid (∀ k,1≤k→k<n→eqT (seeM T (ST k) 0) ⟨5,⟨#[44]⟩,0⟩=true):=h1
 have HSG:Hid (∀ k,1≤k→k<n→RunT pb b c T 84 #[.pointer (some ⟨pb,0,none⟩)] { ST k with at':=(ST k).at' + 1 } (ST (k + 1)) (A k)):=hs
 have H2:Hid (eqT (seeM T (ST n) 0) ⟨5,⟨#[44]⟩,0⟩=false):=h2
 have HSS:Hid (∀ k,k≤n→(ST k).at'≤299):=hS
 have HPW:Hid (pb<w.heap.size):=h.pl
 have HBW:Hid (b<w.heap.size):=h.bl
 have HP1:Hid (PaS w pb b c T st):=h
 have HG1:Hid (GrowA pb w w):=GrowA.refl _ _
 obtain ⟨i0,hi0,hz0,hz1,hz2⟩:=info_parts infoPh
 clear htb h0 h1 hs h2 hS h
 go_enter Tryz.func51,Tryz.ntmps51
 go_wp2_with (first
  | (go_at_call 84;refine (H0.out.useL HTB.out HP1.out HG1.out).mono ?_;rintro e w2 ⟨lo1,v,hlo,hv,rfl,hp,hg⟩;have HE1:=HidOf hv;have HO1:=HidOf hv.ones;have HN1:=HidOf hv.len;obtain ⟨k0_1,k1_1,k2_1,k5_1,k6_1,k7_1,s3_1,s4_1,s8_1,a9_1,a10_1,l9_1,c9_1,l10_1,c10_1,rfl⟩:=hv.form;have HLO1:=HidOf hlo;have HG2:Hid (GrowA pb w w2):=HG1.out.trans hg;have HP2:Hid (PaS w2 pb b c T (ST 1)):=hp;clear hv hlo hp hg HP1 HG1 H0))
 have HL2:Hid (LOwn 44 11 (PhE A) (w2.alloc (.cells #[.int .i64 k0_1,.int .i64 k1_1,.int .i64 k2_1,.string s3_1,.string s4_1,.int .i64 k5_1,.int .i64 k6_1,.int .i64 k7_1,.string s8_1,.slice a9_1 l9_1 c9_1,.slice a10_1 l10_1 c10_1] 44)) w.heap.size (.slice (some ⟨w2.heap.size,0,none⟩) 1 1) 1):=LOwn.one (u:=[.int .i64 k0_1,.int .i64 k1_1,.int .i64 k2_1,.string s3_1,.string s4_1,.int .i64 k5_1,.int .i64 k6_1,.int .i64 k7_1,.string s8_1,.slice a9_1 l9_1 c9_1,.slice a10_1 l10_1 c10_1]) (PhE.keeps A) HN1.out HE1.out HLO1.out.1 HLO1.out.2.2.1 rfl
 have HG3:Hid (GrowA pb w (w2.alloc (.cells #[.int .i64 k0_1,.int .i64 k1_1,.int .i64 k2_1,.string s3_1,.string s4_1,.int .i64 k5_1,.int .i64 k6_1,.int .i64 k7_1,.string s8_1,.slice a9_1 l9_1 c9_1,.slice a10_1 l10_1 c10_1] 44))):=HG2.out.alloc _
 have HP3:Hid (PaS (w2.alloc (.cells #[.int .i64 k0_1,.int .i64 k1_1,.int .i64 k2_1,.string s3_1,.string s4_1,.int .i64 k5_1,.int .i64 k6_1,.int .i64 k7_1,.string s8_1,.slice a9_1 l9_1 c9_1,.slice a10_1 l10_1 c10_1] 44)) pb b c T (ST 1)):=HP2.out.allocI _
 clear HE1 HO1 HN1 HLO1 HG2 HP2
 obtain ⟨v0,hv0⟩:∃ x,x=Value.slice (some ⟨w2.heap.size,0,none⟩) 1 1:=⟨_,rfl⟩
 obtain ⟨W3,hW3⟩:∃ W,W=w2.alloc (.cells #[.int .i64 k0_1,.int .i64 k1_1,.int .i64 k2_1,.string s3_1,.string s4_1,.int .i64 k5_1,.int .i64 k6_1,.int .i64 k7_1,.string s8_1,.slice a9_1 l9_1 c9_1,.slice a10_1 l10_1 c10_1] 44):=⟨_,rfl⟩
 rw [← hW3,← hv0] at HL2
 rw [← hW3] at HG3 HP3
 rw [← hW3,← hv0]
 clear hW3 hv0
 go_loopw [3] (fun lv wr=>∃ k,1≤k∧k≤n∧PaS wr pb b c T (ST k)∧GrowA pb w wr∧LOwn 44 11 (PhE A) wr w.heap.size lv k) (fun lv _=>n - lenV lv)
 case atStart=>exact ⟨1,Nat.le_refl _,hn,HP3.out,HG3.out,HL2.out⟩
 case round =>
  obtain ⟨k,hk1,hkn,hp,hg,hl⟩:=hrel
  have HPR:Hid (PaS wr pb b c T (ST k)):=hp
  have HGR:Hid (GrowA pb w wr):=hg
  obtain ⟨la,lc,rfl⟩:=hl.form
  have HLR:Hid (LOwn 44 11 (PhE A) wr w.heap.size (.slice la k lc) k):=hl
  have hat:(ST k).at'≤300:=by have:=HSS.out k hkn;omega
  clear hp hg hl HP3 HG3 HL2
  by_cases hlt:k<n
  · have HC:Hid (eqT (seeM T (ST k) 0) ⟨5,⟨#[44]⟩,0⟩=true):=H1.out k hk1 hlt
    have HS1:Hid (RunT pb b c T 84 #[.pointer (some ⟨pb,0,none⟩)] { ST k with at':=(ST k).at' + 1 } (ST (k + 1)) (A k)):=HSG.out k hk1 hlt
    go_wp2_with (first
     | (go_at_call 82;have HNX:=HPR;refine (mark_is _ _).mono ?_;rintro e w4 ⟨rfl,hb⟩;have HP4:Hid (PaS w4 pb b c T (ST k)):=HPR.out.below hb;have HG4:Hid (GrowA pb w w4):=HGR.out.below hb;have HL4:Hid (LOwn 44 11 (PhE A) w4 w.heap.size (.slice la k lc) k):=HLR.out.below (PhE.keeps A) hb;clear hb HNX HPR HGR HLR)
     | (go_at_call 85;refine (skip_yes HP4.out hT hat _ _ _ HC.out).mono ?_;rintro e w5 ⟨rfl,hp,hg⟩;have HP5:Hid (PaS w5 pb b c T { ST k with at':=(ST k).at' + 1 }):=hp;have HG5:Hid (GrowA pb w w5):=HG4.out.trans hg;have HL5:Hid (LOwn 44 11 (PhE A) w5 w.heap.size (.slice la k lc) k):=HL4.out.grow (PhE.keeps A) hg HPW.out;clear hp hg HP4 HG4 HL4)
     | (go_at_call 84;refine (HS1.out.useL HTB.out HP5.out HG5.out).mono ?_;rintro e w6 ⟨lo2,v,hlo,hv,rfl,hp,hg⟩;have HE2:=HidOf hv;have HO2:=HidOf hv.ones;have HN2:=HidOf hv.len;obtain ⟨k0_2,k1_2,k2_2,k5_2,k6_2,k7_2,s3_2,s4_2,s8_2,a9_2,a10_2,l9_2,c9_2,l10_2,c10_2,rfl⟩:=hv.form;have HOB:Hid (∀ z,(Value.slice la k lc).ownBlock=some z→z<lo2):=(fun z hz=>by rw [hlo.2.2.2];exact (HL5.out.own z hz).2);have HLO2:=HidOf hlo;have HG6:Hid (GrowA pb w w6):=HG5.out.trans hg;have HP6:Hid (PaS w6 pb b c T (ST (k + 1))):=hp;have HL6:Hid (LOwn 44 11 (PhE A) w6 w.heap.size (.slice la k lc) k):=HL5.out.grow (PhE.keeps A) hg HPW.out;clear hv hlo hp hg HP5 HG5 HL5)
     | (at_builtin;obtain ⟨L,ho,hE⟩:=HL6.out.below (PhE.keeps A) ((Below.refl _ _).alloc (Nat.le_refl _) (.cells #[.int .i64 k0_2,.int .i64 k1_2,.int .i64 k2_2,.string s3_2,.string s4_2,.int .i64 k5_2,.int .i64 k6_2,.int .i64 k7_2,.string s8_2,.slice a9_2 l9_2 c9_2,.slice a10_2 l10_2 c10_2] 44));refine wpList_append_own_at _ rfl (.tmp 10) (.tmp 13) 41 rfl w.heap.size 44 i0 _ 11 144 Tryz.underlying41 hi0 hz0 hz1 hz2 rfl (by decide) _ _ _ rfl ho ⟨w6.heap.size,0,none⟩ 1 1 [.int .i64 k0_2,.int .i64 k1_2,.int .i64 k2_2,.string s3_2,.string s4_2,.int .i64 k5_2,.int .i64 k6_2,.int .i64 k7_2,.string s8_2,.slice a9_2 l9_2 c9_2,.slice a10_2 l10_2 c10_2] rfl rfl (new_at rfl) HO2.out (by unfold maxLen;omega) (by omega) (by have:=HG6.out.1;simp;omega) ?_;intro v7 w7 hown7 hgrow7 _ hat7;have HL7:Hid (LOwn 44 11 (PhE A) w7 w.heap.size v7 (k + 1)):=LOwn.push (lo1:=lo2) (PhE.keeps A) hE HN2.out (Ph.V.keep (fun b q=>⟨q.1,by simp;omega⟩) (fun b q=>Below.heap_alloc _ _ _ q.2) HE2.out) HLO2.out.1 HOB.out hown7 hgrow7 hat7;have HX7:Hid (∀ z,z<w6.heap.size→z<w.heap.size→w7.heap[z]?=w6.heap[z]?):=(fun z h1 h2=>(hgrow7.block z (by simp;omega) (fun e=>by have:=(HL6.out.own z e.symm).1;omega)).trans (Below.heap_alloc _ _ _ h1));have HG7:Hid (GrowA pb w w7):=⟨Nat.le_trans HG6.out.1 (Nat.le_trans (by simp) hgrow7.size),hgrow7.os.trans HG6.out.2.1,hgrow7.tape.trans HG6.out.2.2.1,hgrow7.output.trans HG6.out.2.2.2.1,fun z h1 h2=>(HX7.out z (Nat.lt_of_lt_of_le h1 HG6.out.1) h1).trans (HG6.out.2.2.2.2 z h1 h2)⟩;have HP7:Hid (PaS w7 pb b c T (ST (k + 1))):=HP6.out.same (Nat.le_trans (by simp) hgrow7.size) (HX7.out pb HP6.out.pl HPW.out) (HX7.out b HP6.out.bl HBW.out);clear ho hE hown7 hgrow7 hat7 HL6 HG6 HP6 HX7))
    go_roundw
    case rel=>exact ⟨k + 1,by omega,by omega,HP7.out,HG7.out,HL7.out⟩
    case measure =>
     obtain ⟨a7,c7,rfl⟩:=HL7.out.form
     simp [lenV];omega
  · obtain rfl:k=n:=by omega
    go_wp2_with (first
     | (go_at_call 82;have HNX:=HPR;refine (mark_is _ _).mono ?_;rintro e w4 ⟨rfl,hb⟩;have HP4:Hid (PaS w4 pb b c T (ST k)):=HPR.out.below hb;have HG4:Hid (GrowA pb w w4):=HGR.out.below hb;have HL4:Hid (LOwn 44 11 (PhE A) w4 w.heap.size (.slice la k lc) k):=HLR.out.below (PhE.keeps A) hb;clear hb HNX HPR HGR HLR)
     | (go_at_call 85;refine (skip_no HP4.out hT hat _ _ _ H2.out).mono ?_;rintro e w5 ⟨rfl,hp,hg⟩;have HP5:Hid (PaS w5 pb b c T (ST k)):=hp;have HG5:Hid (GrowA pb w w5):=HG4.out.trans hg;have HL5:Hid (LOwn 44 11 (PhE A) w5 w.heap.size (.slice la k lc) k):=HL4.out.grow (PhE.keeps A) hg HPW.out;clear hp hg HP4 HG4 HL4))
    go_ret
    exact ⟨_,HL5.out.phs,rfl,HP5.out,HG5.out⟩
open Go.RowKit
theorem Phs.first {w:World} {lo:Nat} {A:Nat->Ph} {v:Value} (h:Phs w lo 1 A v):∃ g c,v=vL g 0 1 c/\1<=c/\c<=maxLen/\g<w.heap.size/\∃ u,cAt w g 0 u/\Tre w lo (A 0) u:=by
 obtain ⟨a,c,h1,h2,h3,h4⟩:=h
 obtain ⟨g,q1,q2,q3⟩:=h4 (by decide)
 obtain ⟨u,r1,r2⟩:=q3 0 (by decide)
 rw [Nat.zero_mul] at r1
 exact ⟨g,c,by rw [h1,q1],h2,h3,q2.2,u,r1,r2⟩
theorem cAt.eleven {w:World} {g o:Nat} {x0 x1 x2 x3 x4 x5 x6 x7 x8 x9 x10:Value} (h:cAt w g o [x0,x1,x2,x3,x4,x5,x6,x7,x8,x9,x10]):w.cell? ⟨g,o,none⟩=some x0/\w.cell? ⟨g,o + 1,none⟩=some x1/\w.cell? ⟨g,o + 2,none⟩=some x2/\w.cell? ⟨g,o + 3,none⟩=some x3/\w.cell? ⟨g,o + 4,none⟩=some x4/\w.cell? ⟨g,o + 5,none⟩=some x5/\w.cell? ⟨g,o + 6,none⟩=some x6/\w.cell? ⟨g,o + 7,none⟩=some x7/\w.cell? ⟨g,o + 8,none⟩=some x8/\w.cell? ⟨g,o + 9,none⟩=some x9/\w.cell? ⟨g,o + 10,none⟩=some x10 :=
 ⟨h 0 (by simp),h 1 (by simp),h 2 (by simp),h 3 (by simp),h 4 (by simp),h 5 (by simp),h 6 (by simp),h 7 (by simp),h 8 (by simp),h 9 (by simp),h 10 (by simp)⟩
theorem list_one {pb b c:Nat} {T:List Tok} {st:Pst} {s0 s1:Pst} {A:Nat->Ph} (hT:T.length<=200) (hat:st.at'<=300) (ho:st.opn<=100) (hop:1<=s1.opn/\s1.opn<=200) (he:enterM T st (singleB (seeM T st 0))=s0) (hlu:RunL pb b c T 51 s0 s1 1 A):RunT pb b c T 20 #[vP pb 0] st { s1 with opn:=s1.opn - 1 } (A 0):=by
 intro w h htb
 have HTB:Hid (RTab w pb):=htb
 clear htb
 have HLU:Hid (RunL pb b c T 51 s0 s1 1 A):=hlu
 clear hlu
 obtain ⟨beg,hbeg⟩:∃ x,x=singleB (seeM T st 0):=⟨_,rfl⟩
 have SB:Hid (∀ W,PaS W pb b c T st->Calls Tryz.prog 50 #[vP pb 0] W fun e w'=>e=.returned (.bool beg)/\Below W.heap.size W w'):=fun W h=>by rw [hbeg];exact singleBegins_any h hT hat
 rw [<- hbeg] at he
 clear hbeg
 have hpl:=h.pl
 have hbl:=h.bl
 have HPW:Hid (pb<w.heap.size):=hpl
 go_enter_defers Tryz.func20,Tryz.ntmps20
 go_upto_region 1 with fail
 obtain ⟨W1,hW1⟩:∃ W,W=w.alloc (.cells (pZA 0) 44):=⟨_,rfl⟩
 have HG1:Hid (GrowA pb w W1):=by rw [hW1];exact (GrowA.refl _ _).alloc _
 have HP1:Hid (PaS W1 pb b c T st):=by rw [hW1];exact h.allocI _
 have HR1:Hid (PhZ W1 w.heap.size):=by rw [hW1];exact PhB.new w _
 rw [<- hW1]
 obtain ⟨r,hr⟩:∃ r,r=w.heap.size:=⟨_,rfl⟩
 have HRW:Hid (w.heap.size<=r):=Nat.le_of_eq hr.symm
 have hrp:r≠pb:=by omega
 have hrb:r≠b:=by omega
 rw [<- hr] at HR1 ⊢
 clear hW1 hr h hpl hbl
 go_wp2_with (first
  | (go_at_call 50;(refine (SB.out _ HP1.out).mono ?_);rintro e w2 ⟨rfl,hb⟩;have HG2:=HidOf (HG1.out.below hb);have HP2:=HidOf (HP1.out.below hb);have HR2:=HidOf (HR1.out.below hb);clear hb HP1 HG1 HR1)
  | (go_at_call 49;(refine (penter_is HP2.out _ ho).mono ?_);rintro e w3 ⟨q,rfl,hl,hp,hg,hq⟩;have HG3:=HidOf (HG2.out.trans hg);have HP3:Hid (PaS w3 pb b c T s0):=(by rw [<- he];exact hp);have HR3:=HidOf (HR2.out.grow hg hrp);have HL3:Hid (Leave w3 pb q):=hl;have hrq:r≠q:=(by have k1:=HR2.out.lt;first | omega | (simp at hq;omega));clear hl hp hg hq HP2 HG2 HR2)
  | (go_at_call 51;(first | refine (HLU.out.use HTB.out HP3.out HG3.out (show r<_ from by have k:=HR3.out.lt;first | exact k | (simp;omega))).mono ?_ | refine (HLU.out.use HTB.out (HP3.out.allocI _) (HG3.out.alloc _) (show r<_ from by have k:=HR3.out.lt;first | exact k | (simp;omega))).mono ?_ | refine (HLU.out.use HTB.out ((HP3.out.allocI _).allocI _) ((HG3.out.alloc _).alloc _) (show r<_ from by have k:=HR3.out.lt;first | exact k | (simp;omega))).mono ?_);rintro e w4 ⟨lo1,v,hlo,hv,rfl,hp,hg⟩;obtain ⟨g,c1,rfl,hc1,hcm,hgl,u,hu,htr⟩:=hv.first;have hlo1:=hlo.1;have hlp1:=hlo.2.1;have hlz1:=hlo.2.2;have HG4:=HidOf (HG3.out.trans hg);have HP4:Hid (PaS w4 pb b c T s1):=hp;have HR4:=HidOf (HR3.out.grow hg hrp);have HL4:=HidOf (HL3.out.grow hg);obtain ⟨k0_1,k1_1,k2_1,k5_1,k6_1,k7_1,s3_1,s4_1,s8_1,a9_1,a10_1,l9_1,c9_1,l10_1,c10_1,rfl⟩:=htr.form;have HV1_4:Hid (Tre w4 lo1 (A 0) (pL k0_1 k1_1 k2_1 s3_1 s4_1 k5_1 k6_1 k7_1 s8_1 a9_1 l9_1 c9_1 a10_1 l10_1 c10_1)):=htr;obtain ⟨m0,m1,m2,m3,m4,m5,m6,m7,m8,m9,m10⟩:=hu.eleven;obtain ⟨⟨y0,y1,y2,y3,y4,y5,y6,y7,y8,y9,y10⟩,z0,z1,z2,z3,z4,z5,z6,z7,z8,z9,z10⟩:=HR4.out.cells;clear hu htr;clear hv hlo hp hg HP3 HG3 HR3 HL3))
 obtain ⟨Wd,hWd⟩:∃ W,W=(((((((((((w4.setCell ⟨r,0,none⟩ (vI k0_1)).setCell ⟨r,1,none⟩ (vI k1_1)).setCell ⟨r,2,none⟩ (vI k2_1)).setCell ⟨r,3,none⟩ (vS s3_1)).setCell ⟨r,4,none⟩ (vS s4_1)).setCell ⟨r,5,none⟩ (vI k5_1)).setCell ⟨r,6,none⟩ (vI k6_1)).setCell ⟨r,7,none⟩ (vI k7_1)).setCell ⟨r,8,none⟩ (vS s8_1)).setCell ⟨r,9,none⟩ (.slice a9_1 l9_1 c9_1)).setCell ⟨r,10,none⟩ (.slice a10_1 l10_1 c10_1)):=⟨_,rfl⟩
 have HD:Hid (PaS Wd pb b c T s1):=by
  refine HidOf ?_
  rw [hWd]
  (repeat (first | with_reducible refine PaS.setR ?_ hrp hrb _ _ | with_reducible refine PaS.allocI ?_ _ | exact HP4.out))
 have HE:Hid (GrowA pb w Wd):=by
  refine HidOf ?_
  rw [hWd]
  (repeat (first | with_reducible refine GrowA.setR ?_ HRW.out _ _ | with_reducible refine GrowA.alloc ?_ _ | exact HG4.out))
 have HQ:Hid (Leave Wd pb q):=by
  refine HidOf ?_
  rw [hWd]
  (repeat (first | with_reducible refine Leave.setR ?_ hrq _ _ | with_reducible refine Leave.allocI ?_ _ | exact HL4.out))
 have HZ:Hid (PhB Wd r (pA k0_1 k1_1 k2_1 s3_1 s4_1 k5_1 k6_1 k7_1 s8_1 a9_1 l9_1 c9_1 a10_1 l10_1 c10_1)):=by rw [hWd];exact PhB.put HR4.out
 have HT:Hid (Tre Wd w.heap.size (A 0) (pL k0_1 k1_1 k2_1 s3_1 s4_1 k5_1 k6_1 k7_1 s8_1 a9_1 l9_1 c9_1 a10_1 l10_1 c10_1)):=by
  refine HidOf ?_
  rw [hWd]
  (refine Tre.mono (lo:=lo1) ?_ (by have:=HRW.out;omega);(repeat (first | with_reducible refine Tre.setR ?_ hlo1 _ _ | with_reducible refine Tre.allocI ?_ _ | with_reducible exact HV1_4.out)))
 rw [<- hWd]
 clear hWd
 refine leaves_cons (f:=80) (args:=#[vP q 0]) (by simp) (by simp [go_sem]) ?_
 refine (pleave_is HD.out HQ.out hop .returning).mono ?_
 rintro e u' w99 ⟨rfl,rfl,hp,hg⟩
 obtain ⟨⟨u0,u1,u2,u3,u4,u5,u6,u7,u8,u9,u10⟩,_⟩:=(HZ.out.grow hg hrp).cells
 exact ⟨.agg (pA k0_1 k1_1 k2_1 s3_1 s4_1 k5_1 k6_1 k7_1 s8_1 a9_1 l9_1 c9_1 a10_1 l10_1 c10_1),by simp [results,Tryz.results20,go_sem,u0,u1,u2,u3,u4,u5,u6,u7,u8,u9,u10],⟨_,HT.out.grow hg HPW.out,rfl,hp,HE.out.trans hg⟩⟩
theorem list_more {pb b c:Nat} {T:List Tok} {st:Pst} {s0 s1:Pst} {n:Nat} {A:Nat->Ph} (hT:T.length<=200) (hat:st.at'<=300) (ho:st.opn<=100) (hop:1<=s1.opn/\s1.opn<=200) (he:enterM T st (singleB (seeM T st 0))=s0) (hn1:n≠1) (hlu:RunL pb b c T 51 s0 s1 n A):RunT pb b c T 20 #[vP pb 0] st { s1 with opn:=s1.opn - 1 } (phN 3 ⟨0,0,⟨#[]⟩⟩ ⟨#[]⟩ 0 0 0 ⟨#[]⟩ n A):=by
 intro w h htb
 have HTB:Hid (RTab w pb):=htb
 clear htb
 have HLU:Hid (RunL pb b c T 51 s0 s1 n A):=hlu
 clear hlu
 obtain ⟨beg,hbeg⟩:∃ x,x=singleB (seeM T st 0):=⟨_,rfl⟩
 have SB:Hid (∀ W,PaS W pb b c T st->Calls Tryz.prog 50 #[vP pb 0] W fun e w'=>e=.returned (.bool beg)/\Below W.heap.size W w'):=fun W h=>by rw [hbeg];exact singleBegins_any h hT hat
 rw [<- hbeg] at he
 clear hbeg
 have hn1':((n:Int) == 1)=false:=by rw [beq_eq_false_iff_ne];omega
 have hpl:=h.pl
 have hbl:=h.bl
 have HPW:Hid (pb<w.heap.size):=hpl
 go_enter_defers Tryz.func20,Tryz.ntmps20
 go_upto_region 1 with fail
 obtain ⟨W1,hW1⟩:∃ W,W=w.alloc (.cells (pZA 0) 44):=⟨_,rfl⟩
 have HG1:Hid (GrowA pb w W1):=by rw [hW1];exact (GrowA.refl _ _).alloc _
 have HP1:Hid (PaS W1 pb b c T st):=by rw [hW1];exact h.allocI _
 have HR1:Hid (PhZ W1 w.heap.size):=by rw [hW1];exact PhB.new w _
 rw [<- hW1]
 obtain ⟨r,hr⟩:∃ r,r=w.heap.size:=⟨_,rfl⟩
 have HRW:Hid (w.heap.size<=r):=Nat.le_of_eq hr.symm
 have hrp:r≠pb:=by omega
 have hrb:r≠b:=by omega
 rw [<- hr] at HR1 ⊢
 clear hW1 hr h hpl hbl
 go_wp2_with (first
  | (go_at_call 50;(refine (SB.out _ HP1.out).mono ?_);rintro e w2 ⟨rfl,hb⟩;have HG2:=HidOf (HG1.out.below hb);have HP2:=HidOf (HP1.out.below hb);have HR2:=HidOf (HR1.out.below hb);clear hb HP1 HG1 HR1)
  | (go_at_call 49;(refine (penter_is HP2.out _ ho).mono ?_);rintro e w3 ⟨q,rfl,hl,hp,hg,hq⟩;have HG3:=HidOf (HG2.out.trans hg);have HP3:Hid (PaS w3 pb b c T s0):=(by rw [<- he];exact hp);have HR3:=HidOf (HR2.out.grow hg hrp);have HL3:Hid (Leave w3 pb q):=hl;have hrq:r≠q:=(by have k1:=HR2.out.lt;first | omega | (simp at hq;omega));clear hl hp hg hq HP2 HG2 HR2)
  | (go_at_call 51;(first | refine (HLU.out.use HTB.out HP3.out HG3.out (show r<_ from by have k:=HR3.out.lt;first | exact k | (simp;omega))).mono ?_ | refine (HLU.out.use HTB.out (HP3.out.allocI _) (HG3.out.alloc _) (show r<_ from by have k:=HR3.out.lt;first | exact k | (simp;omega))).mono ?_ | refine (HLU.out.use HTB.out ((HP3.out.allocI _).allocI _) ((HG3.out.alloc _).alloc _) (show r<_ from by have k:=HR3.out.lt;first | exact k | (simp;omega))).mono ?_);rintro e w4 ⟨lo1,v,hlo,hv,rfl,hp,hg⟩;obtain ⟨a1,c1,rfl⟩:=hv.form;have hlo1:=hlo.1;have hlp1:=hlo.2.1;have hlz1:=hlo.2.2;have HG4:=HidOf (HG3.out.trans hg);have HP4:Hid (PaS w4 pb b c T s1):=hp;have HR4:=HidOf (HR3.out.grow hg hrp);have HL4:=HidOf (HL3.out.grow hg);have HV1_4:Hid (Phs w4 lo1 n A (.slice a1 n c1)):=hv;obtain ⟨⟨y0,y1,y2,y3,y4,y5,y6,y7,y8,y9,y10⟩,z0,z1,z2,z3,z4,z5,z6,z7,z8,z9,z10⟩:=HR4.out.cells;clear hv hlo hp hg HP3 HG3 HR3 HL3))
 obtain ⟨Wd,hWd⟩:∃ W,W=(((((((((((w4.setCell ⟨r,0,none⟩ (vI 3)).setCell ⟨r,1,none⟩ (vI 0)).setCell ⟨r,2,none⟩ (vI 0)).setCell ⟨r,3,none⟩ (vE)).setCell ⟨r,4,none⟩ (vE)).setCell ⟨r,5,none⟩ (vI 0)).setCell ⟨r,6,none⟩ (vI 0)).setCell ⟨r,7,none⟩ (vI 0)).setCell ⟨r,8,none⟩ (vE)).setCell ⟨r,9,none⟩ (.slice a1 n c1)).setCell ⟨r,10,none⟩ (vN)):=⟨_,rfl⟩
 have HD:Hid (PaS Wd pb b c T s1):=by
  refine HidOf ?_
  rw [hWd]
  (repeat (first | with_reducible refine PaS.setR ?_ hrp hrb _ _ | with_reducible refine PaS.allocI ?_ _ | exact HP4.out))
 have HE:Hid (GrowA pb w Wd):=by
  refine HidOf ?_
  rw [hWd]
  (repeat (first | with_reducible refine GrowA.setR ?_ HRW.out _ _ | with_reducible refine GrowA.alloc ?_ _ | exact HG4.out))
 have HQ:Hid (Leave Wd pb q):=by
  refine HidOf ?_
  rw [hWd]
  (repeat (first | with_reducible refine Leave.setR ?_ hrq _ _ | with_reducible refine Leave.allocI ?_ _ | exact HL4.out))
 have HZ:Hid (PhB Wd r (pA 3 0 0 ⟨#[]⟩ ⟨#[]⟩ 0 0 0 ⟨#[]⟩ a1 n c1 none 0 0)):=by rw [hWd];exact PhB.put HR4.out
 have HT:Hid (Tre Wd w.heap.size (phN 3 ⟨0,0,⟨#[]⟩⟩ ⟨#[]⟩ 0 0 0 ⟨#[]⟩ n A) (pL 3 0 0 ⟨#[]⟩ ⟨#[]⟩ 0 0 0 ⟨#[]⟩ a1 n c1 none 0 0)):=by
  refine HidOf ?_
  rw [hWd]
  (refine Tre.mono (lo:=lo1) ?_ (by have:=HRW.out;omega);refine Phs.tre (A:=A) (v:=.slice a1 n c1) ?_;(repeat (first | with_reducible refine Phs.setR ?_ hlo1 _ _ | with_reducible refine Phs.allocI ?_ _ | with_reducible exact HV1_4.out)))
 rw [<- hWd]
 clear hWd
 refine leaves_cons (f:=80) (args:=#[vP q 0]) (by simp) (by simp [go_sem]) ?_
 refine (pleave_is HD.out HQ.out hop .returning).mono ?_
 rintro e u' w99 ⟨rfl,rfl,hp,hg⟩
 obtain ⟨⟨u0,u1,u2,u3,u4,u5,u6,u7,u8,u9,u10⟩,_⟩:=(HZ.out.grow hg hrp).cells
 exact ⟨.agg (pA 3 0 0 ⟨#[]⟩ ⟨#[]⟩ 0 0 0 ⟨#[]⟩ a1 n c1 none 0 0),by simp [results,Tryz.results20,go_sem,u0,u1,u2,u3,u4,u5,u6,u7,u8,u9,u10],⟨_,HT.out.grow hg HPW.out,rfl,hp,HE.out.trans hg⟩⟩
open Go.RowKit
def putC (w:World) (b:Nat):Nat->List Value->World
 | _,[]=>w
 | k,v :: vs=>putC (w.setCell ⟨b,k,none⟩ v) b (k + 1) vs
theorem putC_other {b c:Nat} (hn:c≠b):∀ (vs:List Value) (w:World) (k:Nat),(putC w b k vs).heap[c]?=w.heap[c]?
 | [],_,_=>rfl
 | v :: vs,w,k=>(putC_other hn vs _ _).trans (Below.heap_setCell _ _ _ _ hn)
theorem putC_size {b:Nat}:∀ (vs:List Value) (w:World) (k:Nat),(putC w b k vs).heap.size=w.heap.size
 | [],_,_=>rfl
 | v :: vs,w,k=>(putC_size vs _ _).trans (by simp)
theorem putC_grow {pb b:Nat} {w0:World} (hb:w0.heap.size<=b):∀ (vs:List Value) (w:World) (k:Nat),GrowA pb w0 w->GrowA pb w0 (putC w b k vs)
 | [],_,_,h=>h
 | v :: vs,w,k,h=>putC_grow hb vs _ _ (h.setR hb k v)
theorem PaS.put {w:World} {pb b c x:Nat} {T:List Tok} {st:Pst} (h:PaS w pb b c T st) (hp:x≠pb) (hb:x≠b) (k:Nat) (vs:List Value):PaS (putC w x k vs) pb b c T st:=h.same (Nat.le_of_eq (putC_size _ _ _).symm) (putC_other (Ne.symm hp) _ _ _) (putC_other (Ne.symm hb) _ _ _)
theorem Tre.put {w:World} {lo x:Nat} {p:Ph} {v:List Value} (h:Tre w lo p v) (hx:x<lo) (k:Nat) (vs:List Value):Tre (putC w x k vs) lo p v:=Ph.V.keep (fun b q=>⟨q.1,by rw [putC_size];exact q.2⟩) (fun b q=>putC_other (by omega) _ _ _) h
def ClB (w:World) (r:Nat) (v:Array Value):Prop:=w.heap[r]?=some (.cells v 133)
theorem ClB.lt {w:World} {r:Nat} {v:Array Value} (h:ClB w r v):r<w.heap.size:=(gI h).1
theorem ClB.new (w:World) (v:Array Value):ClB (w.alloc (.cells v 133)) w.heap.size v:=heap_alloc_new _ _
theorem ClB.grow {w w':World} {pb r:Nat} {v:Array Value} (h:ClB w r v) (hg:GrowA pb w w') (hr:r≠pb):ClB w' r v:=(hg.2.2.2.2 r h.lt hr).trans h
theorem ClB.below {w w':World} {r:Nat} {v:Array Value} (h:ClB w r v) (hb:Below w.heap.size w w'):ClB w' r v:=(hb.block r h.lt).trans h
theorem ClB.allocI {w:World} {r:Nat} {v:Array Value} (h:ClB w r v) (o:Obj):ClB (w.alloc o) r v:=h.below ((Below.refl _ _).alloc (Nat.le_refl _) o)
theorem ClB.put {w:World} {r x:Nat} {v:Array Value} (h:ClB w r v) (hn:r≠x) (k:Nat) (vs:List Value):ClB (putC w x k vs) r v:=(putC_other hn _ _ _).trans h
theorem ClB.cells {w:World} {r:Nat} {x0 x1 x2 x3 x4 x5 x6 x7 x8 x9 x10 x11 x12 x13 x14:Value} (h:ClB w r #[x0,x1,x2,x3,x4,x5,x6,x7,x8,x9,x10,x11,x12,x13,x14]):(w.cell? ⟨r,0,none⟩=some x0/\w.cell? ⟨r,1,none⟩=some x1/\w.cell? ⟨r,2,none⟩=some x2/\w.cell? ⟨r,3,none⟩=some x3/\w.cell? ⟨r,4,none⟩=some x4/\w.cell? ⟨r,5,none⟩=some x5/\w.cell? ⟨r,6,none⟩=some x6/\w.cell? ⟨r,7,none⟩=some x7/\w.cell? ⟨r,8,none⟩=some x8/\w.cell? ⟨r,9,none⟩=some x9/\w.cell? ⟨r,10,none⟩=some x10/\w.cell? ⟨r,11,none⟩=some x11/\w.cell? ⟨r,12,none⟩=some x12/\w.cell? ⟨r,13,none⟩=some x13/\w.cell? ⟨r,14,none⟩=some x14)/\w.frozen? ⟨r,0,none⟩=false/\w.frozen? ⟨r,1,none⟩=false/\w.frozen? ⟨r,2,none⟩=false/\w.frozen? ⟨r,3,none⟩=false/\w.frozen? ⟨r,4,none⟩=false/\w.frozen? ⟨r,5,none⟩=false/\w.frozen? ⟨r,6,none⟩=false/\w.frozen? ⟨r,7,none⟩=false/\w.frozen? ⟨r,8,none⟩=false/\w.frozen? ⟨r,9,none⟩=false/\w.frozen? ⟨r,10,none⟩=false/\w.frozen? ⟨r,11,none⟩=false/\w.frozen? ⟨r,12,none⟩=false/\w.frozen? ⟨r,13,none⟩=false/\w.frozen? ⟨r,14,none⟩=false:=by
 unfold ClB at h
 refine ⟨⟨?_,?_,?_,?_,?_,?_,?_,?_,?_,?_,?_,?_,?_,?_,?_⟩,?_,?_,?_,?_,?_,?_,?_,?_,?_,?_,?_,?_,?_,?_,?_⟩ <;> simp [World.cell?,World.frozen?,h]
theorem ClB.expr {w:World} {r:Nat} {x0 x1 x2 x3 x4 x5 x6 x7 x8 x9 x10 x11 x12 x13 x14 v0 v1 v2 v3 v4 v5 v6 v7 v8 v9 v10:Value} (h:ClB w r #[x0,x1,x2,x3,x4,x5,x6,x7,x8,x9,x10,x11,x12,x13,x14]):ClB (putC w r 4 [v0,v1,v2,v3,v4,v5,v6,v7,v8,v9,v10]) r #[x0,x1,x2,x3,v0,v1,v2,v3,v4,v5,v6,v7,v8,v9,v10]:=by
 unfold ClB at h ⊢
 simp [putC,World.setCell,Array.getElem?_modify,h]
def RunC (pb b c:Nat) (T:List Tok) (f:Nat) (st st':Pst) (k:Int) (nm at':ByteArray) (dn:Bool) (p:Ph):Prop:=∀ (w:World),PaS w pb b c T st->RTab w pb->Calls Tryz.prog f #[vP pb 0] w fun e w'=>∃ u,Tre w' w.heap.size p u/\e=.returned (.agg ([vI k,vS nm,vS at',.bool dn] ++ u:List Value).toArray)/\PaS w' pb b c T st'/\GrowA pb w w'
theorem RunC.use {pb b c:Nat} {T:List Tok} {f:Nat} {st st':Pst} {k:Int} {nm at':ByteArray} {dn:Bool} {p:Ph} (h:RunC pb b c T f st st' k nm at' dn p) {w W:World} (ht:RTab w pb) (hp:PaS W pb b c T st) (hg:GrowA pb w W) :
 Calls Tryz.prog f #[vP pb 0] W fun e w'=>∃ (lo:Nat) (k0 k1 k2 k5 k6 k7:Int) (s3 s4 s8:ByteArray) (a9 a10:Option Addr) (l9 c9 l10 c10:Nat),(w.heap.size<=lo/\pb<lo/\lo<=w'.heap.size/\lo=W.heap.size)/\Tre w' lo p (pL k0 k1 k2 s3 s4 k5 k6 k7 s8 a9 l9 c9 a10 l10 c10)/\e=.returned (.agg (tA k nm at' dn k0 k1 k2 s3 s4 k5 k6 k7 s8 a9 l9 c9 a10 l10 c10))/\PaS w' pb b c T st'/\GrowA pb W w' :=
 (h W hp (ht.grow hg)).mono fun e w' ⟨v,h1,h2,h3,h4⟩=>by
  obtain ⟨k0,k1,k2,k5,k6,k7,s3,s4,s8,a9,a10,l9,c9,l10,c10,rfl⟩:=h1.form
  exact ⟨W.heap.size,k0,k1,k2,k5,k6,k7,s3,s4,s8,a9,a10,l9,c9,l10,c10,⟨hg.1,hp.pl,h4.1,rfl⟩,h1,h2,h3,h4⟩
theorem forIn_plain {pb b c:Nat} {T:List Tok} {st s2 s3:Pst} {us:ByteArray} {un:Int} {p:Ph} (hT:T.length<=200) (hat:st.at'<=300) (hu:seeM T st 0=⟨4,us,un⟩) (hs:us.size<=4000) (ha1:st.at' + 1<=300) (n1:eqT (seeM T { st with at':=st.at' + 1 } 0) ⟨1,⟨#[97,116]⟩,0⟩=false) (hw:wantM T { st with at':=st.at' + 1 } ⟨1,⟨#[105,110]⟩,0⟩=s2) (hlu:RunT pb b c T 84 #[vP pb 0] s2 s3 p):RunC pb b c T 161 st s3 1 us ⟨#[]⟩ false p:=by
 intro w h htb
 have HTB:Hid (RTab w pb):=htb
 have HLU:Hid (RunT pb b c T 84 #[vP pb 0] s2 s3 p):=hlu
 clear htb hlu
 have hpl:=h.pl
 have hbl:=h.bl
 go_enter Tryz.func161,Tryz.ntmps161
 go_upto_region 1 with fail
 obtain ⟨W1,hW1⟩:∃ W,W=w.alloc (.cells (tA 0 ⟨#[]⟩ ⟨#[]⟩ false 0 0 0 ⟨#[]⟩ ⟨#[]⟩ 0 0 0 ⟨#[]⟩ none 0 0 none 0 0) 133):=⟨_,rfl⟩
 have HG1:Hid (GrowA pb w W1):=by rw [hW1];exact (GrowA.refl _ _).alloc _
 have HP1:Hid (PaS W1 pb b c T st):=by rw [hW1];exact h.allocI _
 have HR1:Hid (ClB W1 w.heap.size (tA 0 ⟨#[]⟩ ⟨#[]⟩ false 0 0 0 ⟨#[]⟩ ⟨#[]⟩ 0 0 0 ⟨#[]⟩ none 0 0 none 0 0)):=by rw [hW1];exact ClB.new w _
 rw [<- hW1]
 obtain ⟨r,hr⟩:∃ r,r=w.heap.size:=⟨_,rfl⟩
 have HRW:Hid (w.heap.size<=r):=Nat.le_of_eq hr.symm
 have hrp:r≠pb:=by omega
 have hrb:r≠b:=by omega
 rw [<- hr] at HR1 ⊢
 clear hW1 hr h hpl hbl
 go_upto_region 2 with (first
  | (go_at_call 145;(refine (text_yes HP1.out hT hat hu hs).mono ?_);rintro e w2 ⟨rfl,hp,hg⟩;have HG2:=HidOf (HG1.out.trans hg);have HP2:Hid (PaS w2 pb b c T { st with at':=st.at' + 1 }):=hp;have HR2:=HidOf (HR1.out.grow hg hrp);clear hp hg HP1 HG1 HR1))
 obtain ⟨W3,hW3⟩:∃ W,W=w2.alloc (.cells (tA 1 us ⟨#[]⟩ false 0 0 0 ⟨#[]⟩ ⟨#[]⟩ 0 0 0 ⟨#[]⟩ none 0 0 none 0 0) 133):=⟨_,rfl⟩
 have HP3:Hid (PaS W3 pb b c T { st with at':=st.at' + 1 }):=by rw [hW3];exact HP2.out.allocI _
 have HG3:Hid (GrowA pb w W3):=by rw [hW3];exact HG2.out.alloc _
 have HR3:Hid (ClB W3 r (tA 0 ⟨#[]⟩ ⟨#[]⟩ false 0 0 0 ⟨#[]⟩ ⟨#[]⟩ 0 0 0 ⟨#[]⟩ none 0 0 none 0 0)):=by rw [hW3];exact HR2.out.allocI _
 have HX3:Hid (ClB W3 w2.heap.size (tA 1 us ⟨#[]⟩ false 0 0 0 ⟨#[]⟩ ⟨#[]⟩ 0 0 0 ⟨#[]⟩ none 0 0 none 0 0)):=by rw [hW3];exact ClB.new w2 _
 have hxp:w2.heap.size≠pb:=by have:=HP2.out.pl;omega
 have hxb:w2.heap.size≠b:=by have:=HP2.out.bl;omega
 have hxw:w.heap.size<=w2.heap.size:=HG2.out.1
 have hrx2:r<w2.heap.size:=HR2.out.lt
 have hrx:r≠w2.heap.size:=by omega
 rw [<- hW3]
 clear hW3 HP2 HG2 HR2
 go_upto_region 6 with (first
  | (go_at_call 119;have HNX:=HP3;refine (word_is _ _).mono ?_;rintro e w4 ⟨rfl,hb⟩;have HG4:=HidOf (HG3.out.below hb);have HP4:=HidOf (HP3.out.below hb);have HR4:=HidOf (HR3.out.below hb);have HX4:=HidOf (HX3.out.below hb);clear hb HNX HP3 HG3 HR3 HX3)
  | (go_at_call 85;(refine (skip_no HP4.out hT ha1 _ _ _ n1).mono ?_);rintro e w5 ⟨rfl,hp,hg⟩;have HG5:=HidOf (HG4.out.trans hg);have HP5:Hid (PaS w5 pb b c T { st with at':=st.at' + 1 }):=hp;have HR5:=HidOf (HR4.out.grow hg hrp);have HX5:=HidOf (HX4.out.grow hg hxp);clear hp hg HP4 HG4 HR4 HX4)
  | (go_at_call 119;have HNX:=HP5;refine (word_is _ _).mono ?_;rintro e w6 ⟨rfl,hb⟩;have HG6:=HidOf (HG5.out.below hb);have HP6:=HidOf (HP5.out.below hb);have HR6:=HidOf (HR5.out.below hb);have HX6:=HidOf (HX5.out.below hb);clear hb HNX HP5 HG5 HR5 HX5)
  | (go_at_call 144;(refine (want_eq HP6.out hT ha1 hw).mono ?_);rintro e w7 ⟨rfl,hp,hg⟩;have HG7:=HidOf (HG6.out.trans hg);have HP7:Hid (PaS w7 pb b c T s2):=hp;have HR7:=HidOf (HR6.out.grow hg hrp);have HX7:=HidOf (HX6.out.grow hg hxp);clear hp hg HP6 HG6 HR6 HX6)
  | (go_at_call 84;(first | refine (HLU.out.use HTB.out HP7.out HG7.out (show w2.heap.size<_ from by have k:=HX7.out.lt;first | exact k | (simp;omega))).mono ?_ | refine (HLU.out.use HTB.out (HP7.out.allocI _) (HG7.out.alloc _) (show w2.heap.size<_ from by have k:=HX7.out.lt;first | exact k | (simp;omega))).mono ?_ | refine (HLU.out.use HTB.out ((HP7.out.allocI _).allocI _) ((HG7.out.alloc _).alloc _) (show w2.heap.size<_ from by have k:=HX7.out.lt;first | exact k | (simp;omega))).mono ?_);rintro e w8 ⟨lo1,v,hlo,hv,rfl,hp,hg⟩;obtain ⟨k0_1,k1_1,k2_1,k5_1,k6_1,k7_1,s3_1,s4_1,s8_1,a9_1,a10_1,l9_1,c9_1,l10_1,c10_1,rfl⟩:=hv.form;have hlo1:=hlo.1;have hlp1:=hlo.2.1;have hlz1:=hlo.2.2;have HG8:=HidOf (HG7.out.trans hg);have HP8:Hid (PaS w8 pb b c T s3):=hp;have HR8:=HidOf (HR7.out.grow hg hrp);have HX8:=HidOf (HX7.out.grow hg hxp);have HV1_8:Hid (Tre w8 lo1 p (pL k0_1 k1_1 k2_1 s3_1 s4_1 k5_1 k6_1 k7_1 s8_1 a9_1 l9_1 c9_1 a10_1 l10_1 c10_1)):=hv;obtain ⟨⟨m0,m1,m2,m3,m4,m5,m6,m7,m8,m9,m10,m11,m12,m13,m14⟩,j0,j1,j2,j3,j4,j5,j6,j7,j8,j9,j10,j11,j12,j13,j14⟩:=HX8.out.cells;have hxz:=HX8.out.lt;clear hv hlo hp hg HP7 HG7 HR7 HX7))
 obtain ⟨W9,hW9⟩:∃ W,W=putC w8 w2.heap.size 4 (pL k0_1 k1_1 k2_1 s3_1 s4_1 k5_1 k6_1 k7_1 s8_1 a9_1 l9_1 c9_1 a10_1 l10_1 c10_1):=⟨_,rfl⟩
 have HP9:Hid (PaS W9 pb b c T s3):=by rw [hW9];exact HP8.out.put hxp hxb 4 _
 have HG9:Hid (GrowA pb w W9):=by rw [hW9];exact putC_grow hxw _ _ _ HG8.out
 have HR9:Hid (ClB W9 r (tA 0 ⟨#[]⟩ ⟨#[]⟩ false 0 0 0 ⟨#[]⟩ ⟨#[]⟩ 0 0 0 ⟨#[]⟩ none 0 0 none 0 0)):=by rw [hW9];exact HR8.out.put hrx 4 _
 have HX9:Hid (ClB W9 w2.heap.size (tA 1 us ⟨#[]⟩ false k0_1 k1_1 k2_1 s3_1 s4_1 k5_1 k6_1 k7_1 s8_1 a9_1 l9_1 c9_1 a10_1 l10_1 c10_1)):=by rw [hW9];exact HX8.out.expr
 have HV1_9:Hid (Tre W9 lo1 p (pL k0_1 k1_1 k2_1 s3_1 s4_1 k5_1 k6_1 k7_1 s8_1 a9_1 l9_1 c9_1 a10_1 l10_1 c10_1)):=by rw [hW9];exact HV1_8.out.put hlo1 4 _
 simp only [putC] at hW9
 rw [<- hW9]
 clear hW9 HP8 HG8 HR8 HX8 HV1_8 hxz m0 j0 m1 j1 m2 j2 m3 j3 m4 j4 m5 j5 m6 j6 m7 j7 m8 j8 m9 j9 m10 j10 m11 j11 m12 j12 m13 j13 m14 j14
 obtain ⟨⟨y0,y1,y2,y3,y4,y5,y6,y7,y8,y9,y10,y11,y12,y13,y14⟩,z0,z1,z2,z3,z4,z5,z6,z7,z8,z9,z10,z11,z12,z13,z14⟩:=HR9.out.cells
 obtain ⟨⟨m0,m1,m2,m3,m4,m5,m6,m7,m8,m9,m10,m11,m12,m13,m14⟩,j0,j1,j2,j3,j4,j5,j6,j7,j8,j9,j10,j11,j12,j13,j14⟩:=HX9.out.cells
 have hlr1:r<lo1:=by omega
 go_wp2
 refine bodyPost_ret (v:=.agg (tA 1 us ⟨#[]⟩ false k0_1 k1_1 k2_1 s3_1 s4_1 k5_1 k6_1 k7_1 s8_1 a9_1 l9_1 c9_1 a10_1 l10_1 c10_1)) (by simp [results,Tryz.results161,go_sem,y0,y1,y2,y3,y4,y5,y6,y7,y8,y9,y10,y11,y12,y13,y14]) rfl ⟨(pL k0_1 k1_1 k2_1 s3_1 s4_1 k5_1 k6_1 k7_1 s8_1 a9_1 l9_1 c9_1 a10_1 l10_1 c10_1),?_,rfl,?_,?_⟩
 · refine Tre.mono (lo:=lo1) ?_ (by have:=HRW.out;omega)
   (repeat (first | with_reducible refine Tre.setR ?_ hlr1 _ _ | with_reducible refine Tre.allocI ?_ _ | with_reducible exact HV1_9.out))
 · (repeat (first | with_reducible refine PaS.setR ?_ hrp hrb _ _ | with_reducible refine PaS.allocI ?_ _ | exact HP9.out))
 · (repeat (first | with_reducible refine GrowA.setR ?_ HRW.out _ _ | with_reducible refine GrowA.alloc ?_ _ | exact HG9.out))
open Go.RowKit
def ClE (CK:Nat->Int) (CN CA:Nat->ByteArray) (CD:Nat->Bool) (CE:Nat->Ph) (i:Nat) (w:World) (S:Nat->Prop) (u:List Value):Prop:=∃ x,u=[vI (CK i),vS (CN i),vS (CA i),.bool (CD i)] ++ x/\(CE i).V w S x
theorem ClE.keeps (CK:Nat->Int) (CN CA:Nat->ByteArray) (CD:Nat->Bool) (CE:Nat->Ph):∀ i,Keeps (ClE CK CN CA CD CE i):=fun i w w' S S' u h1 h2 h3=>by
 obtain ⟨x,q1,q2⟩:=h3
 exact ⟨x,q1,Ph.V.keep h1 h2 q2⟩
theorem infoCla:(Tryz.prog.info? 133).map (fun i=>(i.zero,i.size,i.bytes))=some (some (.agg (tA 0 ByteArray.empty ByteArray.empty false 0 0 0 ByteArray.empty ByteArray.empty 0 0 0 ByteArray.empty none 0 0 none 0 0)),15,192):=by kernel_rfl
def RunB (pb b c:Nat) (T:List Tok) (f:Nat) (st st':Pst) (n:Nat) (CK:Nat->Int) (CN CA:Nat->ByteArray) (CD:Nat->Bool) (CE:Nat->Ph):Prop:=∀ (w:World),PaS w pb b c T st->RTab w pb->Calls Tryz.prog f #[vP pb 0] w fun e w'=>∃ v,LOwn 133 15 (ClE CK CN CA CD CE) w' w.heap.size v n/\e=.returned v/\PaS w' pb b c T st'/\GrowA pb w w'
theorem bindings_is {pb b c:Nat} {T:List Tok} {n:Nat} {CK:Nat->Int} {CN CA:Nat->ByteArray} {CD:Nat->Bool} {CE:Nat->Ph} {ST:Nat->Pst} {FK:Nat->Bool} (hT:T.length<=200) (hn2:n<=1000) (hS:∀ k,k<=n->(ST k).at'<=299)
 (hf:∀ k,k<n->FK k=true->eqT (seeM T (ST k) 0) ⟨1,⟨#[102,111,114]⟩,0⟩=true/\RunC pb b c T 161 { ST k with at':=(ST k).at' + 1 } (ST (k + 1)) (CK k) (CN k) (CA k) (CD k) (CE k))
 (hl:∀ k,k<n->FK k=false->(eqT (seeM T (ST k) 0) ⟨1,⟨#[102,111,114]⟩,0⟩=false/\eqT (seeM T (ST k) 0) ⟨1,⟨#[108,101,116]⟩,0⟩=true)/\RunC pb b c T 162 { ST k with at':=(ST k).at' + 1 } (ST (k + 1)) (CK k) (CN k) (CA k) (CD k) (CE k))
 (h2:eqT (seeM T (ST n) 0) ⟨1,⟨#[102,111,114]⟩,0⟩=false/\eqT (seeM T (ST n) 0) ⟨1,⟨#[108,101,116]⟩,0⟩=false):RunB pb b c T 142 (ST 0) (ST n) n CK CN CA CD CE:=by
 intro w h htb
 have HTB:Hid (RTab w pb):=htb
 have HF:=HidOf hf
 have HLE:=HidOf hl
 have H2:=HidOf h2
 have HSS:=HidOf hS
 have HPW:Hid (pb<w.heap.size):=h.pl
 have HBW:Hid (b<w.heap.size):=h.bl
 have HP1:Hid (PaS w pb b c T (ST 0)):=h
 obtain ⟨i0,hi0,hz0,hz1,hz2⟩:=info_parts infoCla
 clear htb hf hl h2 hS h
 go_enter Tryz.func142,Tryz.ntmps142
 go_wp2
 go_loopw [3] (fun lv wr=>∃ k,k<=n/\PaS wr pb b c T (ST k)/\GrowA pb w wr/\LOwn 133 15 (ClE CK CN CA CD CE) wr w.heap.size lv k) (fun lv _=>n - lenV lv)
 case atStart=>exact ⟨0,Nat.zero_le _,HP1.out,GrowA.refl _ _,LOwn.nil _ _ _ _ _⟩
 case round =>
  obtain ⟨k,hkn,hp,hg,hlw⟩:=hrel
  have HP3:Hid (PaS wr pb b c T (ST k)):=hp
  have HG3:Hid (GrowA pb w wr):=hg
  obtain ⟨la,lc,rfl⟩:=hlw.form
  have HL3:Hid (LOwn 133 15 (ClE CK CN CA CD CE) wr w.heap.size (.slice la k lc) k):=hlw
  have hat:(ST k).at'<=300:=by have:=HSS.out k hkn;omega
  clear hp hg hlw HP1
  by_cases hlt:k<n
  · cases hfk:FK k
    · have HC:=HidOf (HLE.out k hlt hfk).1
      have HS1:=HidOf (HLE.out k hlt hfk).2
      go_wp2_with (first
       | (go_at_call 119;have HNX:=HP3;refine (word_is _ _).mono ?_;rintro e w4 ⟨rfl,hb⟩;have HP4:Hid (PaS w4 pb b c T (ST k)):=HP3.out.below hb;have HG4:Hid (GrowA pb w w4):=HG3.out.below hb;have HL4:Hid (LOwn 133 15 (ClE CK CN CA CD CE) w4 w.heap.size (.slice la k lc) k):=HL3.out.below (ClE.keeps CK CN CA CD CE) hb;clear hb HNX HP3 HG3 HL3)
       | (go_at_call 85;refine (skip_no HP4.out hT hat _ _ _ HC.out.1).mono ?_;rintro e w5 ⟨rfl,hp,hg⟩;have HP5:Hid (PaS w5 pb b c T (ST k)):=hp;have HG5:Hid (GrowA pb w w5):=HG4.out.trans hg;have HL5:Hid (LOwn 133 15 (ClE CK CN CA CD CE) w5 w.heap.size (.slice la k lc) k):=HL4.out.grow (ClE.keeps CK CN CA CD CE) hg HPW.out;clear hp hg HP4 HG4 HL4)
       | (go_at_call 119;have HNX:=HP5;refine (word_is _ _).mono ?_;rintro e w6 ⟨rfl,hb⟩;have HP6:Hid (PaS w6 pb b c T (ST k)):=HP5.out.below hb;have HG6:Hid (GrowA pb w w6):=HG5.out.below hb;have HL6:Hid (LOwn 133 15 (ClE CK CN CA CD CE) w6 w.heap.size (.slice la k lc) k):=HL5.out.below (ClE.keeps CK CN CA CD CE) hb;clear hb HNX HP5 HG5 HL5)
       | (go_at_call 85;refine (skip_yes HP6.out hT hat _ _ _ HC.out.2).mono ?_;rintro e w7 ⟨rfl,hp,hg⟩;have HP7:Hid (PaS w7 pb b c T { ST k with at':=(ST k).at' + 1 }):=hp;have HG7:Hid (GrowA pb w w7):=HG6.out.trans hg;have HL7:Hid (LOwn 133 15 (ClE CK CN CA CD CE) w7 w.heap.size (.slice la k lc) k):=HL6.out.grow (ClE.keeps CK CN CA CD CE) hg HPW.out;clear hp hg HP6 HG6 HL6)
       | (go_at_call 162;refine (HS1.out.use HTB.out HP7.out HG7.out).mono ?_;rintro e w8 ⟨lo2,k0_2,k1_2,k2_2,k5_2,k6_2,k7_2,s3_2,s4_2,s8_2,a9_2,a10_2,l9_2,c9_2,l10_2,c10_2,hlo,hv,rfl,hp,hg⟩;have HE2:=HidOf hv;have HOB:Hid (∀ z,(Value.slice la k lc).ownBlock=some z->z<lo2):=(fun z hz=>by rw [hlo.2.2.2];exact (HL7.out.own z hz).2);have HLO2:=HidOf hlo;have HG8:Hid (GrowA pb w w8):=HG7.out.trans hg;have HP8:Hid (PaS w8 pb b c T (ST (k + 1))):=hp;have HL8:Hid (LOwn 133 15 (ClE CK CN CA CD CE) w8 w.heap.size (.slice la k lc) k):=HL7.out.grow (ClE.keeps CK CN CA CD CE) hg HPW.out;clear hv hlo hp hg HP7 HG7 HL7)
       | (at_builtin;obtain ⟨L,ho,hE⟩:=HL8.out.below (ClE.keeps CK CN CA CD CE) ((Below.refl _ _).alloc (Nat.le_refl _) (.cells (tA (CK k) (CN k) (CA k) (CD k) k0_2 k1_2 k2_2 s3_2 s4_2 k5_2 k6_2 k7_2 s8_2 a9_2 l9_2 c9_2 a10_2 l10_2 c10_2) 133));refine wpList_append_own_at _ rfl (.tmp 18) (.tmp 21) 42 rfl w.heap.size 133 i0 _ 15 192 Tryz.underlying42 hi0 hz0 hz1 hz2 rfl (by decide) _ _ _ rfl ho ⟨w8.heap.size,0,none⟩ 1 1 ((tL (CK k) (CN k) (CA k) (CD k) k0_2 k1_2 k2_2 s3_2 s4_2 k5_2 k6_2 k7_2 s8_2 a9_2 l9_2 c9_2 a10_2 l10_2 c10_2):List Value) rfl rfl (new_at rfl) (by intro u hu;simp at hu;rcases hu with rfl | rfl | rfl | rfl | rfl | rfl | rfl | rfl | rfl | rfl | rfl | rfl | rfl | rfl | rfl <;> rfl) (by unfold maxLen;omega) (by omega) (by have:=HG8.out.1;simp;omega) ?_;intro v7 w9 hown7 hgrow7 _ hat7;have HL9:Hid (LOwn 133 15 (ClE CK CN CA CD CE) w9 w.heap.size v7 (k + 1)):=LOwn.push (lo1:=lo2) (ClE.keeps CK CN CA CD CE) hE rfl ⟨_,rfl,Ph.V.keep (fun b q=>⟨q.1,by simp;omega⟩) (fun b q=>Below.heap_alloc _ _ _ q.2) HE2.out⟩ HLO2.out.1 HOB.out hown7 hgrow7 hat7;have HX7:Hid (∀ z,z<w8.heap.size->z<w.heap.size->w9.heap[z]?=w8.heap[z]?):=(fun z h1 h2=>(hgrow7.block z (by simp;omega) (fun e=>by have:=(HL8.out.own z e.symm).1;omega)).trans (Below.heap_alloc _ _ _ h1));have HG9:Hid (GrowA pb w w9):=⟨Nat.le_trans HG8.out.1 (Nat.le_trans (by simp) hgrow7.size),hgrow7.os.trans HG8.out.2.1,hgrow7.tape.trans HG8.out.2.2.1,hgrow7.output.trans HG8.out.2.2.2.1,fun z h1 h2=>(HX7.out z (Nat.lt_of_lt_of_le h1 HG8.out.1) h1).trans (HG8.out.2.2.2.2 z h1 h2)⟩;have HP9:Hid (PaS w9 pb b c T (ST (k + 1))):=HP8.out.same (Nat.le_trans (by simp) hgrow7.size) (HX7.out pb HP8.out.pl HPW.out) (HX7.out b HP8.out.bl HBW.out);clear ho hE hown7 hgrow7 hat7 HL8 HG8 HP8 HX7))
      go_roundw
      case rel=>exact ⟨k + 1,by omega,HP9.out,HG9.out,HL9.out⟩
      case measure =>
       obtain ⟨a7,c7,rfl⟩:=HL9.out.form
       simp [lenV];omega
    · have HC:=HidOf (HF.out k hlt hfk)
      have HS1:=HidOf (HF.out k hlt hfk).2
      go_wp2_with (first
       | (go_at_call 119;have HNX:=HP3;refine (word_is _ _).mono ?_;rintro e w4 ⟨rfl,hb⟩;have HP4:Hid (PaS w4 pb b c T (ST k)):=HP3.out.below hb;have HG4:Hid (GrowA pb w w4):=HG3.out.below hb;have HL4:Hid (LOwn 133 15 (ClE CK CN CA CD CE) w4 w.heap.size (.slice la k lc) k):=HL3.out.below (ClE.keeps CK CN CA CD CE) hb;clear hb HNX HP3 HG3 HL3)
       | (go_at_call 85;refine (skip_yes HP4.out hT hat _ _ _ HC.out.1).mono ?_;rintro e w5 ⟨rfl,hp,hg⟩;have HP5:Hid (PaS w5 pb b c T { ST k with at':=(ST k).at' + 1 }):=hp;have HG5:Hid (GrowA pb w w5):=HG4.out.trans hg;have HL5:Hid (LOwn 133 15 (ClE CK CN CA CD CE) w5 w.heap.size (.slice la k lc) k):=HL4.out.grow (ClE.keeps CK CN CA CD CE) hg HPW.out;clear hp hg HP4 HG4 HL4)
       | (go_at_call 161;refine (HS1.out.use HTB.out HP5.out HG5.out).mono ?_;rintro e w6 ⟨lo2,k0_2,k1_2,k2_2,k5_2,k6_2,k7_2,s3_2,s4_2,s8_2,a9_2,a10_2,l9_2,c9_2,l10_2,c10_2,hlo,hv,rfl,hp,hg⟩;have HE2:=HidOf hv;have HOB:Hid (∀ z,(Value.slice la k lc).ownBlock=some z->z<lo2):=(fun z hz=>by rw [hlo.2.2.2];exact (HL5.out.own z hz).2);have HLO2:=HidOf hlo;have HG6:Hid (GrowA pb w w6):=HG5.out.trans hg;have HP6:Hid (PaS w6 pb b c T (ST (k + 1))):=hp;have HL6:Hid (LOwn 133 15 (ClE CK CN CA CD CE) w6 w.heap.size (.slice la k lc) k):=HL5.out.grow (ClE.keeps CK CN CA CD CE) hg HPW.out;clear hv hlo hp hg HP5 HG5 HL5)
       | (at_builtin;obtain ⟨L,ho,hE⟩:=HL6.out.below (ClE.keeps CK CN CA CD CE) ((Below.refl _ _).alloc (Nat.le_refl _) (.cells (tA (CK k) (CN k) (CA k) (CD k) k0_2 k1_2 k2_2 s3_2 s4_2 k5_2 k6_2 k7_2 s8_2 a9_2 l9_2 c9_2 a10_2 l10_2 c10_2) 133));refine wpList_append_own_at _ rfl (.tmp 9) (.tmp 12) 42 rfl w.heap.size 133 i0 _ 15 192 Tryz.underlying42 hi0 hz0 hz1 hz2 rfl (by decide) _ _ _ rfl ho ⟨w6.heap.size,0,none⟩ 1 1 ((tL (CK k) (CN k) (CA k) (CD k) k0_2 k1_2 k2_2 s3_2 s4_2 k5_2 k6_2 k7_2 s8_2 a9_2 l9_2 c9_2 a10_2 l10_2 c10_2):List Value) rfl rfl (new_at rfl) (by intro u hu;simp at hu;rcases hu with rfl | rfl | rfl | rfl | rfl | rfl | rfl | rfl | rfl | rfl | rfl | rfl | rfl | rfl | rfl <;> rfl) (by unfold maxLen;omega) (by omega) (by have:=HG6.out.1;simp;omega) ?_;intro v7 w7 hown7 hgrow7 _ hat7;have HL7:Hid (LOwn 133 15 (ClE CK CN CA CD CE) w7 w.heap.size v7 (k + 1)):=LOwn.push (lo1:=lo2) (ClE.keeps CK CN CA CD CE) hE rfl ⟨_,rfl,Ph.V.keep (fun b q=>⟨q.1,by simp;omega⟩) (fun b q=>Below.heap_alloc _ _ _ q.2) HE2.out⟩ HLO2.out.1 HOB.out hown7 hgrow7 hat7;have HX7:Hid (∀ z,z<w6.heap.size->z<w.heap.size->w7.heap[z]?=w6.heap[z]?):=(fun z h1 h2=>(hgrow7.block z (by simp;omega) (fun e=>by have:=(HL6.out.own z e.symm).1;omega)).trans (Below.heap_alloc _ _ _ h1));have HG7:Hid (GrowA pb w w7):=⟨Nat.le_trans HG6.out.1 (Nat.le_trans (by simp) hgrow7.size),hgrow7.os.trans HG6.out.2.1,hgrow7.tape.trans HG6.out.2.2.1,hgrow7.output.trans HG6.out.2.2.2.1,fun z h1 h2=>(HX7.out z (Nat.lt_of_lt_of_le h1 HG6.out.1) h1).trans (HG6.out.2.2.2.2 z h1 h2)⟩;have HP7:Hid (PaS w7 pb b c T (ST (k + 1))):=HP6.out.same (Nat.le_trans (by simp) hgrow7.size) (HX7.out pb HP6.out.pl HPW.out) (HX7.out b HP6.out.bl HBW.out);clear ho hE hown7 hgrow7 hat7 HL6 HG6 HP6 HX7))
      go_roundw
      case rel=>exact ⟨k + 1,by omega,HP7.out,HG7.out,HL7.out⟩
      case measure =>
       obtain ⟨a7,c7,rfl⟩:=HL7.out.form
       simp [lenV];omega
  · obtain rfl:k=n:=by omega
    go_wp2_with (first
     | (go_at_call 119;have HNX:=HP3;refine (word_is _ _).mono ?_;rintro e w4 ⟨rfl,hb⟩;have HP4:Hid (PaS w4 pb b c T (ST k)):=HP3.out.below hb;have HG4:Hid (GrowA pb w w4):=HG3.out.below hb;have HL4:Hid (LOwn 133 15 (ClE CK CN CA CD CE) w4 w.heap.size (.slice la k lc) k):=HL3.out.below (ClE.keeps CK CN CA CD CE) hb;clear hb HNX HP3 HG3 HL3)
     | (go_at_call 85;refine (skip_no HP4.out hT hat _ _ _ H2.out.1).mono ?_;rintro e w5 ⟨rfl,hp,hg⟩;have HP5:Hid (PaS w5 pb b c T (ST k)):=hp;have HG5:Hid (GrowA pb w w5):=HG4.out.trans hg;have HL5:Hid (LOwn 133 15 (ClE CK CN CA CD CE) w5 w.heap.size (.slice la k lc) k):=HL4.out.grow (ClE.keeps CK CN CA CD CE) hg HPW.out;clear hp hg HP4 HG4 HL4)
     | (go_at_call 119;have HNX:=HP5;refine (word_is _ _).mono ?_;rintro e w6 ⟨rfl,hb⟩;have HP6:Hid (PaS w6 pb b c T (ST k)):=HP5.out.below hb;have HG6:Hid (GrowA pb w w6):=HG5.out.below hb;have HL6:Hid (LOwn 133 15 (ClE CK CN CA CD CE) w6 w.heap.size (.slice la k lc) k):=HL5.out.below (ClE.keeps CK CN CA CD CE) hb;clear hb HNX HP5 HG5 HL5)
     | (go_at_call 85;refine (skip_no HP6.out hT hat _ _ _ H2.out.2).mono ?_;rintro e w7 ⟨rfl,hp,hg⟩;have HP7:Hid (PaS w7 pb b c T (ST k)):=hp;have HG7:Hid (GrowA pb w w7):=HG6.out.trans hg;have HL7:Hid (LOwn 133 15 (ClE CK CN CA CD CE) w7 w.heap.size (.slice la k lc) k):=HL6.out.grow (ClE.keeps CK CN CA CD CE) hg HPW.out;clear hp hg HP6 HG6 HL6))
    go_ret
    exact ⟨_,HL7.out,rfl,HP7.out,HG7.out⟩
open Go.RowKit
def GrowB (w0:World) (pb:Nat) (w:World):Prop:=GrowA pb w0 w
theorem GrowB.below {w0 w w':World} {pb:Nat} (h:GrowB w0 pb w) (hb:Below w.heap.size w w'):GrowB w0 pb w':=GrowA.below h hb
theorem GrowB.allocI {w0 w:World} {pb:Nat} (h:GrowB w0 pb w) (o:Obj):GrowB w0 pb (w.alloc o):=GrowA.alloc h o
theorem GrowB.grow {w0 w w':World} {pb:Nat} (h:GrowB w0 pb w) (hg:GrowA pb w w'):GrowB w0 pb w':=GrowA.trans h hg
theorem GrowB.setX {w0 w:World} {pb x:Nat} (h:GrowB w0 pb w) (hx:w0.heap.size<=x) (k:Nat) (v:Value):GrowB w0 pb (w.setCell ⟨x,k,none⟩ v):=GrowA.setR h hx k v
theorem LOwn.setR {T:TypeId} {sz:Nat} {E:Nat->World->(Nat->Prop)->List Value->Prop} (hE:∀ i,Keeps (E i)) {w:World} {lo r:Nat} {v:Value} {n:Nat} (h:LOwn T sz E w lo v n) (hr:r<lo) (k:Nat) (x:Value):LOwn T sz E (w.setCell ⟨r,k,none⟩ x) lo v n:=h.step hE (by simp) (fun b h1 h2=>Below.heap_setCell _ _ _ _ (by simp;omega))
theorem RunB.use {pb b c:Nat} {T:List Tok} {f:Nat} {st st':Pst} {n:Nat} {CK:Nat->Int} {CN CA:Nat->ByteArray} {CD:Nat->Bool} {CE:Nat->Ph} (h:RunB pb b c T f st st' n CK CN CA CD CE) {w W:World} {r0:Nat} (ht:RTab w pb) (hp:PaS W pb b c T st) (hg:GrowA pb w W) (hl:r0<W.heap.size) :
 Calls Tryz.prog f #[vP pb 0] W fun e w'=>∃ lo v,(r0<lo/\pb<lo/\lo<=w'.heap.size)/\LOwn 133 15 (ClE CK CN CA CD CE) w' lo v n/\e=.returned v/\PaS w' pb b c T st'/\GrowA pb W w' :=
 (h W hp (ht.grow hg)).mono fun e w' ⟨v,h1,h2,h3,h4⟩=>⟨W.heap.size,v,⟨hl,hp.pl,h4.1⟩,h1,h2,h3,h4⟩
theorem tre_flwor {w:World} {lo:Nat} {p:Ph} {va vc:Value} {n:Nat} {CK:Nat->Int} {CN CA:Nat->ByteArray} {CD:Nat->Bool} {CE:Nat->Ph} (hA:Phs w lo 1 (fun _=>p) va) (hC:LOwn 133 15 (ClE CK CN CA CD CE) w lo vc n):Tre w lo (.mk 28 ⟨0,0,⟨#[]⟩⟩ ⟨#[]⟩ 0 0 0 ⟨#[]⟩ 1 (fun _=>p) n CK CN CA CD CE) (phL 28 ⟨0,0,⟨#[]⟩⟩ ⟨#[]⟩ 0 0 0 ⟨#[]⟩ va vc):=by
 obtain ⟨a,c,h1,h2,h2',h3⟩:=hA
 subst h1
 obtain ⟨a',c',k1,k2,k3,k4⟩:=hC.lies (ClE.keeps CK CN CA CD CE)
 subst k1
 refine ⟨a,c,a',c',rfl,h2,k2,h2',k3,fun hn=>?_,fun hn=>?_⟩
 · obtain ⟨g,q1,q2,q3⟩:=h3 hn
   refine ⟨g,0,q1,q2,fun i hi=>?_⟩
   obtain ⟨u,r1,r2⟩:=q3 i hi
   rw [Nat.zero_add]
   exact ⟨u,r1,r2⟩
 · obtain ⟨g,q1,q2,q3⟩:=k4 hn
   refine ⟨g,0,q1,q2,fun i hi=>?_⟩
   obtain ⟨u,r0,r1,x,rfl,r2⟩:=q3 i hi
   rw [Nat.zero_add]
   exact ⟨x,r1,r2⟩
theorem flwor_plain {pb b c:Nat} {T:List Tok} {st s1 s2 s3:Pst} {p:Ph} {n:Nat} {CK:Nat->Int} {CN CA:Nat->ByteArray} {CD:Nat->Bool} {CE:Nat->Ph} (hT:T.length<=200) (hat:st.at'<=300) (hat1:s1.at'<=300) (hbi:RunB pb b c T 142 st s1 n CK CN CA CD CE) (nw:eqT (seeM T s1 0) ⟨1,⟨#[119,104,101,114,101]⟩,0⟩=false) (no:eqT (seeM T s1 0) ⟨1,⟨#[111,114,100,101,114]⟩,0⟩=false) (hw:wantM T s1 ⟨1,⟨#[114,101,116,117,114,110]⟩,0⟩=s2) (hlu:RunT pb b c T 84 #[vP pb 0] s2 s3 p):RunT pb b c T 120 #[vP pb 0] st s3 (.mk 28 ⟨0,0,⟨#[]⟩⟩ ⟨#[]⟩ 0 0 0 ⟨#[]⟩ 1 (fun _=>p) n CK CN CA CD CE):=by
 intro w h htb
 have HTB:Hid (RTab w pb):=htb
 have HLU:Hid (RunT pb b c T 84 #[vP pb 0] s2 s3 p):=hlu
 have HBI:Hid (RunB pb b c T 142 st s1 n CK CN CA CD CE):=hbi
 clear htb hlu hbi
 have hpl:=h.pl
 have hbl:=h.bl
 go_enter Tryz.func120,Tryz.ntmps120
 go_upto_region 1 with fail
 obtain ⟨W1,hW1⟩:∃ W,W=w.alloc (.cells (pZA 0) 44):=⟨_,rfl⟩
 have HG1:Hid (GrowA pb w W1):=by rw [hW1];exact (GrowA.refl _ _).alloc _
 have HP1:Hid (PaS W1 pb b c T st):=by rw [hW1];exact h.allocI _
 have HR1:Hid (PhZ W1 w.heap.size):=by rw [hW1];exact PhB.new w _
 rw [<- hW1]
 obtain ⟨r,hr⟩:∃ r,r=w.heap.size:=⟨_,rfl⟩
 have HRW:Hid (w.heap.size<=r):=Nat.le_of_eq hr.symm
 have hrp:r≠pb:=by omega
 have hrb:r≠b:=by omega
 rw [<- hr] at HR1 ⊢
 clear hW1 hr h hpl hbl
 go_upto_region 2 with (go_at_call 142;refine (HBI.out.use HTB.out HP1.out HG1.out (show r<_ from by have k:=HR1.out.lt;first | exact k | (simp;omega))).mono ?_;rintro e w2 ⟨lo0,v,hlo,hv,rfl,hp,hg⟩;obtain ⟨ac,cc,rfl⟩:=hv.form;have HC2:Hid (LOwn 133 15 (ClE CK CN CA CD CE) w2 lo0 (.slice ac n cc) n):=hv;have hl0:=hlo.1;have hp0:=hlo.2.1;have hz0:=hlo.2.2;have HG2:Hid (GrowA pb w w2):=HG1.out.trans hg;have HP2:Hid (PaS w2 pb b c T s1):=hp;have HR2:Hid (PhZ w2 r):=HR1.out.grow hg hrp;clear hv hlo hp hg HP1 HG1 HR1)
 obtain ⟨W3,hW3⟩:∃ W,W=w2.alloc (.cells (pA 28 0 0 ⟨#[]⟩ ⟨#[]⟩ 0 0 0 ⟨#[]⟩ none 0 0 ac n cc) 44):=⟨_,rfl⟩
 have HP3:Hid (PaS W3 pb b c T s1):=by rw [hW3];exact HP2.out.allocI _
 have HG3:Hid (GrowA pb w W3):=by rw [hW3];exact HG2.out.alloc _
 have HR3:Hid (PhZ W3 r):=by rw [hW3];exact HR2.out.allocI _
 have HX3:Hid (PhB W3 w2.heap.size (pA 28 0 0 ⟨#[]⟩ ⟨#[]⟩ 0 0 0 ⟨#[]⟩ none 0 0 ac n cc)):=by rw [hW3];exact PhB.new w2 _
 have HK3:Hid (GrowB w2 pb W3):=by rw [hW3];exact GrowA.alloc (GrowA.refl _ _) _
 have hxp:w2.heap.size≠pb:=by have:=HP2.out.pl;omega
 have hxb:w2.heap.size≠b:=by have:=HP2.out.bl;omega
 have hxw:w.heap.size<=w2.heap.size:=HG2.out.1
 have hrx2:r<w2.heap.size:=HR2.out.lt
 have hrx:r≠w2.heap.size:=by omega
 rw [<- hW3]
 clear hW3 HP2 HG2 HR2
 go_upto_region 8 with (first
  | (go_at_call 119;have HNX:=HP3;refine (word_is _ _).mono ?_;rintro e w4 ⟨rfl,hb⟩;have HG4:=HidOf (HG3.out.below hb);have HP4:=HidOf (HP3.out.below hb);have HR4:=HidOf (HR3.out.below hb);have HX4:=HidOf (HX3.out.below hb);have HK4:=HidOf (HK3.out.below hb);clear hb HNX HP3 HG3 HR3 HX3 HK3)
  | (go_at_call 85;(refine (skip_no HP4.out hT hat1 _ _ _ nw).mono ?_);rintro e w5 ⟨rfl,hp,hg⟩;have HG5:=HidOf (HG4.out.trans hg);have HP5:Hid (PaS w5 pb b c T s1):=hp;have HR5:=HidOf (HR4.out.grow hg hrp);have HX5:=HidOf (HX4.out.grow hg hxp);have HK5:=HidOf (HK4.out.grow hg);clear hp hg HP4 HG4 HR4 HX4 HK4)
  | (go_at_call 119;have HNX:=HP5;refine (word_is _ _).mono ?_;rintro e w6 ⟨rfl,hb⟩;have HG6:=HidOf (HG5.out.below hb);have HP6:=HidOf (HP5.out.below hb);have HR6:=HidOf (HR5.out.below hb);have HX6:=HidOf (HX5.out.below hb);have HK6:=HidOf (HK5.out.below hb);clear hb HNX HP5 HG5 HR5 HX5 HK5)
  | (go_at_call 85;(refine (skip_no HP6.out hT hat1 _ _ _ no).mono ?_);rintro e w7 ⟨rfl,hp,hg⟩;have HG7:=HidOf (HG6.out.trans hg);have HP7:Hid (PaS w7 pb b c T s1):=hp;have HR7:=HidOf (HR6.out.grow hg hrp);have HX7:=HidOf (HX6.out.grow hg hxp);have HK7:=HidOf (HK6.out.grow hg);clear hp hg HP6 HG6 HR6 HX6 HK6)
  | (go_at_call 119;have HNX:=HP7;refine (word_is _ _).mono ?_;rintro e w8 ⟨rfl,hb⟩;have HG8:=HidOf (HG7.out.below hb);have HP8:=HidOf (HP7.out.below hb);have HR8:=HidOf (HR7.out.below hb);have HX8:=HidOf (HX7.out.below hb);have HK8:=HidOf (HK7.out.below hb);clear hb HNX HP7 HG7 HR7 HX7 HK7)
  | (go_at_call 144;(refine (want_eq HP8.out hT hat1 hw).mono ?_);rintro e w9 ⟨rfl,hp,hg⟩;have HG9:=HidOf (HG8.out.trans hg);have HP9:Hid (PaS w9 pb b c T s2):=hp;have HR9:=HidOf (HR8.out.grow hg hrp);have HX9:=HidOf (HX8.out.grow hg hxp);have HK9:=HidOf (HK8.out.grow hg);clear hp hg HP8 HG8 HR8 HX8 HK8)
  | (go_at_call 84;(first | refine (HLU.out.use HTB.out HP9.out HG9.out (show w2.heap.size<_ from by have k:=HX9.out.lt;first | exact k | (simp;omega))).mono ?_ | refine (HLU.out.use HTB.out (HP9.out.allocI _) (HG9.out.alloc _) (show w2.heap.size<_ from by have k:=HX9.out.lt;first | exact k | (simp;omega))).mono ?_ | refine (HLU.out.use HTB.out ((HP9.out.allocI _).allocI _) ((HG9.out.alloc _).alloc _) (show w2.heap.size<_ from by have k:=HX9.out.lt;first | exact k | (simp;omega))).mono ?_);rintro e w10 ⟨lo1,v,hlo,hv,rfl,hp,hg⟩;obtain ⟨k0_1,k1_1,k2_1,k5_1,k6_1,k7_1,s3_1,s4_1,s8_1,a9_1,a10_1,l9_1,c9_1,l10_1,c10_1,rfl⟩:=hv.form;have hlo1:=hlo.1;have hlp1:=hlo.2.1;have hlz1:=hlo.2.2;have HG10:=HidOf (HG9.out.trans hg);have HP10:Hid (PaS w10 pb b c T s3):=hp;have HR10:=HidOf (HR9.out.grow hg hrp);have HX10:=HidOf (HX9.out.grow hg hxp);have HK10:=HidOf (HK9.out.grow hg);have HV1_10:Hid (Tre w10 lo1 p (pL k0_1 k1_1 k2_1 s3_1 s4_1 k5_1 k6_1 k7_1 s8_1 a9_1 l9_1 c9_1 a10_1 l10_1 c10_1)):=hv;obtain ⟨⟨m0,m1,m2,m3,m4,m5,m6,m7,m8,m9,m10⟩,j0,j1,j2,j3,j4,j5,j6,j7,j8,j9,j10⟩:=HX10.out.cells;have hxz:=HX10.out.lt;have hrz:=HR10.out.lt;clear hv hlo hp hg HP9 HG9 HR9 HX9 HK9))
 obtain ⟨W11,hW11⟩:∃ W,W=(w10.setCell ⟨w2.heap.size,9,none⟩ (vL w10.heap.size 0 1 1)).alloc (.cells (pA k0_1 k1_1 k2_1 s3_1 s4_1 k5_1 k6_1 k7_1 s8_1 a9_1 l9_1 c9_1 a10_1 l10_1 c10_1) 44):=⟨_,rfl⟩
 have HP11:Hid (PaS W11 pb b c T s3):=by rw [hW11];exact (HP10.out.setR hxp hxb 9 _).allocI _
 have HG11:Hid (GrowA pb w W11):=by rw [hW11];exact (HG10.out.setR hxw 9 _).alloc _
 have HR11:Hid (PhZ W11 r):=by rw [hW11];exact (HR10.out.setO hrx 9 _).allocI _
 have HX11:Hid (PhB W11 w2.heap.size (pA 28 0 0 ⟨#[]⟩ ⟨#[]⟩ 0 0 0 ⟨#[]⟩ (some ⟨w10.heap.size,0,none⟩) 1 1 ac n cc)):=by rw [hW11];exact (HX10.out.setAt 9 (vL w10.heap.size 0 1 1)).allocI _
 have HK11:Hid (GrowB w2 pb W11):=by rw [hW11];exact (HK10.out.setX (Nat.le_refl _) 9 _).allocI _
 have HA11:Hid (Phs W11 lo0 1 (fun _=>p) (vL w10.heap.size 0 1 1)):=by rw [hW11];exact (phs_at (by simp) (HV1_10.out.setR hlo1 9 _) hlz1 rfl).mono (by omega)
 have HC11:Hid (LOwn 133 15 (ClE CK CN CA CD CE) W11 lo0 (.slice ac n cc) n):=HC2.out.grow (ClE.keeps CK CN CA CD CE) HK11.out hp0
 rw [<- hW11]
 clear hW11 HP10 HG10 HR10 HX10 HV1_10 HK10 HC2 hxz hrz m0 j0 m1 j1 m2 j2 m3 j3 m4 j4 m5 j5 m6 j6 m7 j7 m8 j8 m9 j9 m10 j10
 obtain ⟨⟨y0,y1,y2,y3,y4,y5,y6,y7,y8,y9,y10⟩,z0,z1,z2,z3,z4,z5,z6,z7,z8,z9,z10⟩:=HR11.out.cells
 obtain ⟨⟨m0,m1,m2,m3,m4,m5,m6,m7,m8,m9,m10⟩,j0,j1,j2,j3,j4,j5,j6,j7,j8,j9,j10⟩:=HX11.out.cells
 go_wp2
 refine bodyPost_ret (v:=.agg (pA 28 0 0 ⟨#[]⟩ ⟨#[]⟩ 0 0 0 ⟨#[]⟩ (some ⟨w10.heap.size,0,none⟩) 1 1 ac n cc)) (by simp [results,Tryz.results120,go_sem,y0,y1,y2,y3,y4,y5,y6,y7,y8,y9,y10]) rfl ⟨(pL 28 0 0 ⟨#[]⟩ ⟨#[]⟩ 0 0 0 ⟨#[]⟩ (some ⟨w10.heap.size,0,none⟩) 1 1 ac n cc),?_,rfl,?_,?_⟩
 · refine Tre.mono (lo:=lo0) ?_ (by have:=HRW.out;omega)
   refine tre_flwor (va:=vL w10.heap.size 0 1 1) (vc:=.slice ac n cc) ?_ ?_
   · (repeat (first | with_reducible refine Phs.setR ?_ hl0 _ _ | with_reducible refine Phs.allocI ?_ _ | with_reducible exact HA11.out))
   · (repeat (first | with_reducible refine LOwn.setR (ClE.keeps CK CN CA CD CE) ?_ hl0 _ _ | with_reducible exact HC11.out))
 · (repeat (first | with_reducible refine PaS.setR ?_ hrp hrb _ _ | with_reducible refine PaS.allocI ?_ _ | exact HP11.out))
 · (repeat (first | with_reducible refine GrowA.setR ?_ HRW.out _ _ | with_reducible refine GrowA.alloc ?_ _ | exact HG11.out))
open Go.RowKit
theorem PaS.new {w:World} {b c:Nat} {T:List Tok} (hb:b<w.heap.size) (ht:ToksL w b T):PaS (w.alloc (.cells #[vL b 0 T.length c,vI 0,vI 0,vI 0] 70)) w.heap.size b c T ⟨0,0,0⟩ :=
 ⟨by simp,by simp,by simp,by simp,by simp,by simp,by simp,by simp,by simp;omega,by omega,ht.grow ((GrowA.refl (w.heap.size) w).alloc _) hb (by omega)⟩
theorem ToksL.below {w w':World} {b:Nat} {L:List Tok} (h:ToksL w b L) (hb:Below w.heap.size w w') (hlt:b<w.heap.size):ToksL w' b L:=fun k hk=>by
 obtain ⟨h1,h2,h3⟩:=h k hk
 exact ⟨(hb.cell (p:=⟨b,k * 3,none⟩) hlt).trans h1,(hb.cell (p:=⟨b,k * 3 + 1,none⟩) hlt).trans h2,(hb.cell (p:=⟨b,k * 3 + 2,none⟩) hlt).trans h3⟩
def Tab3 (w:World):Prop:=OpTab w/\KtTab w/\AxTab w
theorem Tab3.below {w w':World} (h:Tab3 w) (hb:Below w.heap.size w w'):Tab3 w':=⟨h.1.below hb,h.2.1.below hb,h.2.2.below hb⟩
theorem Tab3.rtab {w:World} {pb n:Nat} (h:Tab3 w) (hn:5<n/\9<n/\8<n) (hp:n<=pb):RTab w pb:=⟨h.1,h.2.1,h.2.2,by omega,by omega,by omega⟩
theorem Tab3.lt {w:World} (h:Tab3 w):5<w.heap.size/\9<w.heap.size/\8<w.heap.size:=by
 obtain ⟨⟨t1,f1,h1⟩,⟨t2,f2,h2⟩,⟨t3,f3,h3⟩⟩:=h
 exact ⟨(gI h1).1,(gI h2).1,(gI h3).1⟩
def GoodT (T:List Tok):Prop:=∀ t∈T,tokF t.kind t.s t.n=0/\t.s.size<=4000
theorem parse_good (T:List Tok) (p:Ph) (o:Nat) (b c:Nat) (hT:T.length<=200) (hG:GoodT T) (hrun:∀ pb b c,RunT pb b c T 20 #[vP pb 0] ⟨0,0,0⟩ ⟨T.length,o,0⟩ p) (w:World) (hb:b<w.heap.size) (ht:ToksL w b T) (hot:Tab3 w) (hTb:Tabs w) (hM:MarkTab w) (hg:0<w.heap.size) :
 Calls Tryz.prog 11 #[vL b 0 T.length c] w fun e w'=>∃ v,Tre w' w.heap.size p v/\e=.returned (.tuple #[.agg v.toArray,vI 0,vI 0])/\Below w.heap.size w w':=by
 have CK:Hid (∀ W kd s n,Below w.heap.size w W->tokF kd s n=0->s.size<=4000->Calls Tryz.prog 19 #[.agg #[vI kd,vS s,vI n]] W fun e w'=>e=.returned (vI 0)/\Below W.heap.size W w'):=fun W kd s n hW ht hs=>(checkToken_any kd n s W (by unfold maxLen;omega) (Utf8Tabs_below hTb hW) (hM.below hW hg) (Nat.lt_of_lt_of_le hg hW.size)).mono fun e w' ⟨k1,k2⟩=>⟨by rw [k1,ht],k2⟩
 have HTK:Hid (ToksL w b T):=ht
 have HOT:Hid (Tab3 w):=hot
 have HGD:Hid (∀ j (h:j<T.length),∃ kd s n,T[j]=⟨kd,s,n⟩/\tokF kd s n=0/\s.size<=4000):=fun j h=>⟨T[j].kind,T[j].s,T[j].n,rfl,(hG _ (List.getElem_mem h)).1,(hG _ (List.getElem_mem h)).2⟩
 have hol:=hot.lt
 have HRR:=HidOf hrun
 have hl200:¬ ((200:Int)<(T.length:Int)):=by omega
 clear ht hot hTb hM hg hrun hG
 go_enter Tryz.func11,Tryz.ntmps11
 go_wp2
 obtain ⟨W1,hW1⟩:∃ W,W=w.alloc (.cells (pZA 0) 44):=⟨_,rfl⟩
 have HB1:Hid (Below w.heap.size w W1):=by rw [hW1];exact (Below.refl _ _).alloc (Nat.le_refl _) _
 have HR1:Hid (PhZ W1 w.heap.size):=by rw [hW1];exact PhB.new w _
 rw [<- hW1]
 obtain ⟨r,hr⟩:∃ r,r=w.heap.size:=⟨_,rfl⟩
 have HRW:Hid (r=w.heap.size):=hr
 rw [<- hr] at HR1 ⊢
 clear hW1 hr
 go_loopw [16] (fun i wr=>∃ j:Nat,j<=T.length/\i=vI j/\Below W1.heap.size W1 wr) (fun i _=>T.length - (intOf i).toNat)
 case atStart=>exact ⟨0,Nat.zero_le _,rfl,Below.refl _ _⟩
 case round =>
  obtain ⟨j,hj,rfl,hbw⟩:=hrel
  have HBW:Hid (Below W1.heap.size W1 wr):=hbw
  have HBA:Hid (Below w.heap.size w wr):=HB1.out.trans (hbw.mono HB1.out.size)
  clear hbw
  by_cases hlt:j<T.length
  · obtain ⟨x0,x1,x2⟩:=(HTK.out.below HBA.out hb) j hlt
    obtain ⟨kd,s,n,e1,e2,e3⟩:=HGD.out j hlt
    rw [e1] at x0 x1 x2
    simp only at x0 x1 x2
    have hji:(j:Int)<(T.length:Int):=by omega
    have hbr:b<wr.heap.size:=Nat.lt_of_lt_of_le hb HBA.out.size
    have C3:Hid (∀ o,Calls Tryz.prog 19 #[.agg #[vI kd,vS s,vI n]] (wr.alloc o) fun e w'=>e=.returned (vI 0)/\Below W1.heap.size W1 w'):=fun o=>(CK.out (wr.alloc o) kd s n (HBA.out.alloc HBA.out.size o) e2 e3).mono fun e w' ⟨k1,k2⟩=>⟨k1,(HBW.out.alloc HBW.out.size o).trans (k2.mono (by have:=HBW.out.size;simp;omega))⟩
    clear e1 e2 e3
    go_wp2_with (first
     | (go_at_call 19;refine (C3.out _).mono ?_;rintro e w3 ⟨rfl,hb3⟩;have HB3:Hid (Below W1.heap.size W1 w3):=hb3;clear hb3))
    go_roundw
    case rel=>exact ⟨j + 1,by omega,by go_num,HB3.out⟩
    case measure=>simp [intOf];omega
  · have hji:¬ ((j:Int)<(T.length:Int)):=by omega
    go_upto_region 11 with fail
    obtain ⟨WP,hWP⟩:∃ W,W=wr.alloc (.cells #[vL b 0 T.length c,vI 0,vI 0,vI 0] 70):=⟨_,rfl⟩
    obtain ⟨pb,hpb⟩:∃ p,p=wr.heap.size:=⟨_,rfl⟩
    have hrp:r≠pb:=by have k1:=HRW.out;have k2:=(HR1.out.below HBW.out).lt;omega
    have hrl0:r<pb:=by rw [hpb];exact (HR1.out.below HBW.out).lt
    have hrb:r≠b:=by have k1:=HRW.out;omega
    have hwp:w.heap.size<=pb:=by rw [hpb];exact HBA.out.size
    have HP1:Hid (PaS WP pb b c T ⟨0,0,0⟩):=by rw [hWP,hpb];exact PaS.new (Nat.lt_of_lt_of_le hb HBA.out.size) (HTK.out.below HBA.out hb)
    have HO1:Hid (RTab WP pb):=by rw [hWP];exact ((HOT.out.below HBA.out).below ((Below.refl _ _).alloc (Nat.le_refl _) _)).rtab hol hwp
    have HR2:Hid (PhZ WP r):=by rw [hWP];exact (HR1.out.below HBW.out).allocI _
    have HBP:Hid (Below w.heap.size w WP):=by rw [hWP];exact HBA.out.alloc HBA.out.size _
    have hpz:pb<=WP.heap.size:=Nat.le_of_lt HP1.out.pl
    rw [<- hWP,<- hpb]
    clear hWP hpb HR1 HBW HBA
    have CL:Hid (Calls Tryz.prog 20 #[vP pb 0] WP fun e w'=>∃ v,Tre w' WP.heap.size p v/\e=.returned (.agg v.toArray)/\PaS w' pb b c T ⟨T.length,o,0⟩/\GrowA pb WP w'):=HRR.out pb b c WP HP1.out HO1.out
    go_wp2_with (first
     | (go_at_call 20;refine CL.out.mono ?_;rintro e w2 ⟨v,hv,rfl,hp,hg⟩;obtain ⟨k0_1,k1_1,k2_1,k5_1,k6_1,k7_1,s3_1,s4_1,s8_1,a9_1,a10_1,l9_1,c9_1,l10_1,c10_1,rfl⟩:=hv.form;have HV2:Hid (Tre w2 WP.heap.size p (pL k0_1 k1_1 k2_1 s3_1 s4_1 k5_1 k6_1 k7_1 s8_1 a9_1 l9_1 c9_1 a10_1 l10_1 c10_1)):=hv;have HB2:=HidOf (HBP.out.trans ((hg.low hpz).mono hwp));have hx1:=hp.a;have hx3:=hp.e;have hpl:=hp.pl;obtain ⟨⟨y0,y1,y2,y3,y4,y5,y6,y7,y8,y9,y10⟩,z0,z1,z2,z3,z4,z5,z6,z7,z8,z9,z10⟩:=(HR2.out.grow hg hrp).cells;have hrl:=(HR2.out.grow hg hrp).lt;clear hv hp hg))
    refine bodyPost_ret (v:=.tuple #[.agg (pA k0_1 k1_1 k2_1 s3_1 s4_1 k5_1 k6_1 k7_1 s8_1 a9_1 l9_1 c9_1 a10_1 l10_1 c10_1),vI 0,vI 0]) (by simp [results,Tryz.results11,go_sem,hrl,y0,y1,y2,y3,y4,y5,y6,y7,y8,y9,y10]) rfl ⟨(pL k0_1 k1_1 k2_1 s3_1 s4_1 k5_1 k6_1 k7_1 s8_1 a9_1 l9_1 c9_1 a10_1 l10_1 c10_1),?_,rfl,?_⟩
    · refine Tre.mono (lo:=WP.heap.size) ?_ (Nat.le_trans hwp hpz)
      (repeat (first | with_reducible refine Tre.allocI ?_ _ | with_reducible refine Tre.setR ?_ (Nat.lt_of_lt_of_le hrl0 hpz) _ _ | with_reducible exact HV2.out))
    · (first | (with_reducible refine Below.alloc ?_ (by have:=HB2.out.size;simp;omega) _) | skip)
      repeat with_reducible refine below_setA ?_ (Nat.le_of_eq HRW.out.symm) _ _
      with_reducible exact HB2.out
open Go.RowKit
def tkA (T:List Tok) (i:Nat):Tok:=T.getD i tok0
theorem see0 {T:List Tok} {a o k:Nat}:seeM T ⟨a,o,0⟩ k=tkA T (a + k):=by
 unfold seeM tkA
 split
 · rename_i h
   rcases h with h | h
   · exact absurd rfl h
   · rw [List.getD_eq_getElem?_getD,List.getElem?_eq_none h];rfl
 · rfl
theorem ent0 {T:List Tok} {a o:Nat} {g:Bool} (h:o<30):enterM T ⟨a,o,0⟩ g=⟨a,o + 1,0⟩:=by
 unfold enterM
 simp only
 rw [if_neg (by omega)]
theorem want0 {T:List Tok} {a o:Nat} {t:Tok} (h:eqT (tkA T a) t=true):wantM T ⟨a,o,0⟩ t=⟨a + 1,o,0⟩:=by
 unfold wantM skipM
 rw [show seeM T ⟨a,o,0⟩ 0=tkA T a from see0]
 rw [if_pos h]
 rfl
def Bs (T:List Tok) (o a z:Nat) (p:Ph):Prop:=∀ pb b c,RunT pb b c T 172 #[vP pb 0] ⟨a,o,0⟩ ⟨z,o,0⟩ p
def litN (n:Int):Ph:=ph0 1 ⟨2,n,⟨#[]⟩⟩ ⟨#[]⟩ 0 0 0 ⟨#[]⟩
open Go.RowKit
theorem eqT_kind {k k' n n':Int} {s s':ByteArray} (h:k≠k'):eqT ⟨k,s,n⟩ ⟨k',s',n'⟩=false:=by
 unfold eqT
 rw [decide_eq_false h];rfl
theorem eqT_self {u:Tok}:eqT u u=true:=by simp [eqT]
def goG (N:Nat->ByteArray) (V:Nat->Int) (e:Int) (s:ByteArray):Nat->Nat->Int
 | 0,_=>e
 | n + 1,k=>if ((N k).data.toList == s.data.toList)=true then V k else goG N V e s n (k + 1)
theorem goG_eq {N:Nat->ByteArray} {V:Nat->Int} {e:Int} {s:ByteArray}:∀ (n k:Nat),goF N V e s n k=goG N V e s n k
 | 0,_=>rfl
 | n + 1,k=>by simp only [goF,goG,ByteArray.toList_eq,goG_eq n (k + 1)]
def callG (s:ByteArray):Bool:=!(eqT ⟨1,s,0⟩ ⟨1,⟨#[101,108,101,109,101,110,116]⟩,0⟩) && (!(eqT ⟨1,s,0⟩ ⟨1,⟨#[97,116,116,114,105,98,117,116,101]⟩,0⟩) && (!(eqT ⟨1,s,0⟩ ⟨1,⟨#[116,101,120,116]⟩,0⟩) && (goG ktN (fun k=>(k:Int)) 0 s 4 0 == 0)))
def callN (s:ByteArray):Bool:=!(eqT ⟨1,s,0⟩ ⟨1,⟨#[101,108,101,109,101,110,116]⟩,0⟩) && (!(eqT ⟨1,s,0⟩ ⟨1,⟨#[97,116,116,114,105,98,117,116,101]⟩,0⟩) && (!(eqT ⟨1,s,0⟩ ⟨1,⟨#[116,101,120,116]⟩,0⟩) && (ktOf s == 0)))
theorem callG_eq (s:ByteArray):callN s=callG s:=by unfold callN callG ktOf;rw [goG_eq]
def forP (nm:ByteArray) (n:Int) (p:Ph):Ph:=.mk 28 ⟨0,0,⟨#[]⟩⟩ ⟨#[]⟩ 0 0 0 ⟨#[]⟩ 1 (fun _=>p) 1 (fun _=>1) (fun _=>nm) (fun _=>⟨#[]⟩) (fun _=>false) (fun _=>litN n)
open Go.RowKit
theorem NodOk.more {d:Int} {n m:Nat} (H:NodOk d n) (h:n<=m):NodOk d m:=fun k=>(H k).mono fun e w' ⟨s,k1,k2⟩=>⟨s,k1.more h,k2⟩
theorem TextOk.more {d:Int} {n m:Nat} (H:TextOk d n) (h:n<=m):TextOk d m:=fun k=>(H k).mono fun e w' ⟨s,k1,k2⟩=>⟨s,k1.more h,k2⟩
theorem NumOk.more {d:Int} {n m:Nat} (H:NumOk d n) (h:n<=m):NumOk d m:=fun k=>(H k).mono fun e w' ⟨s,k1,k2⟩=>⟨s,k1.more h,k2⟩
theorem TruOk.more {d:Int} {n m:Nat} (H:TruOk d n) (h:n<=m):TruOk d m:=fun k=>(H k).mono fun e w' ⟨s,k1,k2⟩=>⟨s,k1.more h,k2⟩
theorem QueOk.more {d:Int} {n m:Nat} (H:QueOk d n) (h:n<=m):QueOk d m:=fun k=>(H k).mono fun e w' ⟨s,k1,k2⟩=>⟨s,k1.more h,k2⟩
open Go.RowKit
def TQ (s:ByteArray) (n:Nat):Prop:=(∃ d:Int,d<=2/\Po .que false d s)/\True/\s.size<=n
theorem TQ.more {s:ByteArray} {n m:Nat} (h:TQ s n) (hn:n<=m):TQ s m:=⟨h.1,h.2.1,Nat.le_trans h.2.2 hn⟩
theorem GrowQ.from {pb:Nat} {w0 w w':World} (hb:Below pb w0 w) (h:GrowQ pb w w') (hp:pb<=w.heap.size):Below pb w0 w':=hb.trans (h.low hp)
theorem poet_new {w0 w:World} {v:Value} {n:Nat} {X:Nat->Rw} (hr:RawsIs w v n X) (hf:RawsFine n X):PoS w (w.alloc (.cells #[v,.bool false,vI 0] 52)) w.heap.size false :=
 ⟨rfl,⟨v,n,X,⟨by simp,by simp,by simp,by simp,by simp⟩,hr,hf⟩,(Below.refl _ _).alloc (Nat.le_refl _) _⟩
open Go.RowKit
theorem path_text (v:Value) (n:Nat) (X:Nat->Rw) (w:World) (hr:RawsIs w v n X) (hf:RawsFine n X) :
 Calls Tryz.prog 8 #[v] w fun e w'=>∃ s,(Po .nod false 1 s/\s.size<=110)/\e=.returned (vS s)/\Below w.heap.size w w':=by
 have C2:Hid (Calls Tryz.prog 16 #[vP w.heap.size 0,vI 1] (w.alloc (.cells #[v,.bool false,vI 0] 52)) fun e w'=>∃ s,Hid (Po .nod false 1 s/\s.size<=110)/\e=.returned (vS s)/\Below w.heap.size w w') :=
  (nodesF_is 1 6 (by decide) (by decide) (fun _=>query0_ok) (poet_new (w0:=w) hr hf)).mono fun e w' ⟨s,k1,k2,k3,k4⟩=>⟨s,⟨k1.1,k1.2.2⟩,k2,k4.lo⟩
 obtain ⟨a,cap,rfl,_,_,_⟩:=hr
 clear hf
 go_enter Tryz.func8,Tryz.ntmps8
 go_wp2_with (first
  | (go_at_call 16;refine C2.out.mono ?_;rintro e w1 ⟨s1,HT1,rfl,hb1⟩;have HB1:Hid (Below w.heap.size w w1):=hb1;clear hb1 C2;have hl:¬ ((200:Int)<(s1.size:Int)):=(by have:=HT1.out.2;omega)))
 go_ret
 exact ⟨s1,HT1.out,rfl,HB1.out⟩
open Go.RowKit
open Go.RowKit Go.WideShapes
theorem ToksOwn.lies {w:World} {base:Nat} {v:Value} {L:List Tok} (h:ToksOwn w base v L) (h0:0<L.length):∃ b c,v=vL b 0 L.length c/\b<w.heap.size/\ToksL w b L:=by
 obtain ⟨b,c,rfl,h1,h2,_⟩:=h.at 0 h0
 refine ⟨b,c,rfl,h1,fun k hk=>?_⟩
 obtain ⟨b',c',he,_,_,h3⟩:=h.at k hk
 simp only [Value.slice.injEq,Option.some.injEq,Addr.mk.injEq,true_and,and_true] at he
 obtain ⟨rfl,rfl⟩:=he
 exact h3
theorem ToksL.allocI {w:World} {b:Nat} {L:List Tok} (h:ToksL w b L) (hb:b<w.heap.size) (o:Obj):ToksL (w.alloc o) b L:=h.below ((Below.refl _ _).alloc (Nat.le_refl _) _) hb
end Go.Proofs.YtmcmbdkpfcibkaaGreatDoor
