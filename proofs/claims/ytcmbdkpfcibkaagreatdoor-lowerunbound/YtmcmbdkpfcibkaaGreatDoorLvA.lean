import Derived.Test.YtmcmbdkpfcibkaaGreatDoorLuJ
import Derived.Test.YtmcmbdkpfcibkaaGreatDoorLxE
import Derived.Test.YtmcmbdkpfcibkaaGreatDoorRgIn
set_option linter.unusedVariables false
namespace Go.Proofs.YtmcmbdkpfcibkaaGreatDoor
set_option maxRecDepth 100000
open Go.RowKit Go.WideShapes
structure Clo (w:World) (P:World->Prop):Prop where
 z:∀ W,P W->w.heap.size<=W.heap.size
 al:∀ W o,P W->P (W.alloc o)
 pu:∀ W r vs,w.heap.size<=r->P W->P (putL W r 0 vs)
 dr:∀ W,P W->P W.drew
theorem XS.clo {w:World} {lb tb ob sb:Nat} {N:ByteArray->Nat} {p:Nat} (hl:lb<w.heap.size) (hs:sb<w.heap.size):Clo w (XS w lb tb ob sb N p) :=
 ⟨fun W h=>h.z,fun W o h=>h.alloc o,fun W r vs hr h=>h.put hr hl hs vs,fun W h=>h.drew⟩
theorem XN.clo {w:World} {lb tb ob sb:Nat} {N:ByteArray->Nat} {p:Nat} (hl:lb<w.heap.size) (hs:sb<w.heap.size):Clo w (XN w lb tb ob sb N p) :=
 ⟨fun W h=>h.z,fun W o h=>h.alloc o,fun W r vs hr h=>h.put hr hl hs vs,fun W h=>h.drew⟩
abbrev VP:=World->(Nat->Prop)->Value->Prop
def Kept (V:VP):Prop:=∀ w w' S S' v,(∀ b,S b->S' b)->(∀ b,S b->w'.heap[b]?=w.heap[b]?)->V w S v->V w' S' v
def VX (X:Ex):VP:=fun w S v=>∃ u:List Value,v=.agg u.toArray/\X.W w S u
theorem VX.kept (X:Ex):Kept (VX X):=fun w w' S S' v h1 h2 ⟨u,e,hx⟩=>⟨u,e,hx.keep h1 h2⟩
def VL (n:Nat) (A:Nat->Ex):VP:=fun w S v=>∃ g,v=vL g 0 n n/\S g/\∀ i,i<n->∃ u,cAt w g (i * 11) u/\(A i).W w S u
theorem VL.kept (n:Nat) (A:Nat->Ex):Kept (VL n A):=fun w w' S S' v h1 h2 ⟨g,e,hg,hx⟩=>⟨g,e,h1 g hg,fun i hi=>by
 obtain ⟨u,r1,r2⟩:=hx i hi
 exact ⟨u,r1.keep (h2 g hg),r2.keep h1 h2⟩⟩
def VO (n:Nat) (A:Nat->Ex):VP:=fun w S v=>∃ a c,v=.slice a n c/\n<=c/\c<=maxLen/\(0<n->∃ g o,a=some ⟨g,o,none⟩/\S g/\∀ i,i<n->∃ u,cAt w g (o + i * 11) u/\(A i).W w S u)
theorem VO.kept (n:Nat) (A:Nat->Ex):Kept (VO n A):=fun w w' S S' v h1 h2 ⟨a,c,e,q1,q2,hx⟩=>⟨a,c,e,q1,q2,fun hn=>by
 obtain ⟨g,o,r0,hg,hx⟩:=hx hn
 refine ⟨g,o,r0,h1 g hg,fun i hi=>?_⟩
 obtain ⟨u,r1,r2⟩:=hx i hi
 exact ⟨u,r1.keep (h2 g hg),r2.keep h1 h2⟩⟩
def VT (n:Nat) (L:List Value):VP:=fun w S v=>∃ g,v=vL g 0 n n/\S g/\w.heap[g]?=some (.cells L.toArray 9)
theorem VT.kept (n:Nat) (L:List Value):Kept (VT n L):=fun w w' S S' v h1 h2 ⟨g,e,hg,hx⟩=>⟨g,e,h1 g hg,(h2 g hg).trans hx⟩
def VV (v0:Value):VP:=fun _ _ v=>v=v0
theorem VV.kept (v0:Value):Kept (VV v0):=fun _ _ _ _ _ _ _ h=>h
def VZ:VP:=fun _ _ _=>True
theorem VZ.kept:Kept VZ:=fun _ _ _ _ _ _ _ _=>trivial
def Qd (cs:List Nat) (k:Nat) (l:Array Bool):Prop:=k<=cs.length/\∀ j,j<cs.length->l.getD (cs.getD j 0) false=decide (j<k)
theorem Qd.start (cs:List Nat) (n:Nat):Qd cs 0 (Array.replicate n false):=by
 refine ⟨Nat.zero_le _,fun j hj=>?_⟩
 rw [Array.getD_eq_getD_getElem?,Array.getElem?_replicate]
 split <;> simp
theorem Qd.other {cs:List Nat} {k i:Nat} {l:Array Bool} (h:Qd cs k l) (hi:cs.all (· != i)=true):Qd cs k (l.setIfInBounds i true):=by
 refine ⟨h.1,fun j hj=>?_⟩
 have hm:cs.getD j 0∈cs:=by rw [List.getD_eq_getElem?_getD,List.getElem?_eq_getElem hj];exact List.getElem_mem _
 have hne:i≠cs.getD j 0:=fun e=>by
  have:=List.all_eq_true.1 hi _ hm
  rw [<- e] at this
  simp at this
 rw [set_other_get hne]
 exact h.2 j hj
theorem Qd.at_ {cs:List Nat} {k j:Nat} {l:Array Bool} (h:Qd cs k l) (hj:j<cs.length) (hn:l.getD (cs.getD j 0) false=false) (hp:j=0\/l.getD (cs.getD (j - 1) 0) false=true):k=j:=by
 have h1:=h.2 j hj
 rw [hn] at h1
 have h1':¬ j<k:=by simpa using h1.symm
 rcases hp with rfl | hp
 · omega
 · have h2:=h.2 (j - 1) (by omega)
   rw [hp] at h2
   have h2':j - 1<k:=by simpa using h2.symm
   omega
theorem Qd.next {cs:List Nat} {j n:Nat} {l:Array Bool} (h:Qd cs j l) (hj:j<cs.length) (hd:(List.range cs.length).all (fun i=>i == j || cs.getD i 0 != cs.getD j 0)=true) (hsz:l.size=n) (hlt:cs.getD j 0<n):Qd cs (j + 1) (l.setIfInBounds (cs.getD j 0) true):=by
 refine ⟨hj,fun i hi=>?_⟩
 by_cases e:i=j
 · subst e
   rw [set_this_get hsz hlt]
   simp
 · have hne:cs.getD j 0≠cs.getD i 0:=fun q=>by
    have:=List.all_eq_true.1 hd i (List.mem_range.2 hi)
    rw [<- q] at this
    simp [e] at this
   rw [set_other_get hne,h.2 i hi]
   rw [decide_eq_decide]
   omega
theorem Qd.done {cs:List Nat} {k n:Nat} (h:Qd cs k (Array.replicate n true)) (hc:cs.all (fun c=>decide (c<n))=true):k=cs.length:=by
 by_cases e:k<cs.length
 · have h1:=h.2 k e
   have hm:cs.getD k 0∈cs:=by rw [List.getD_eq_getElem?_getD,List.getElem?_eq_getElem e];exact List.getElem_mem _
   have h2:cs.getD k 0<n:=by simpa using List.all_eq_true.1 hc _ hm
   rw [Array.getD_eq_getD_getElem?,Array.getElem?_replicate,if_pos h2] at h1
   simp at h1
 · have:=h.1
   omega
structure GxP where
 w:World
 wr:World
 lb:Nat
 sb:Nat
 r0:Nat
 S0:Nat->Prop
 P:Nat->World->Prop
 cs:List Nat
 n:Nat
 ai:Nat
 si:Nat
 as_:Nat
 Z:Array Value
 T:TypeId
 VF:VP
 isI:List Bool
 sl:List Nat
 V:Nat->VP
def SX (g:GxP) (l:Array Bool) (t:Nat) (W:World):Nat->Prop:=fun b=>(g.S0 b\/(g.wr.heap.size<=b/\b<W.heap.size))/\(l.getD g.ai true=true->b≠t)
structure Gx (g:GxP) (t:Nat) (l:Array Bool) (a:Act) (W:World):Prop where
 q:∃ k,Qd g.cs k l/\g.P k W
 cl:∀ k,Clo g.w (g.P k)
 kp:∀ i,Kept (g.V i)
 kf:Kept g.VF
 hl:g.lb<g.w.heap.size/\g.sb<g.w.heap.size
 r:g.w.heap.size<=g.r0/\g.r0<g.wr.heap.size
 s0:∀ b,g.S0 b->b<g.wr.heap.size/\b≠g.lb/\b≠g.sb/\b≠g.r0
 zr:g.w.heap.size<=g.wr.heap.size
 z:g.wr.heap.size<=W.heap.size
 k:∀ c,c<g.wr.heap.size->c≠g.lb->c≠g.sb->(l.getD g.ai true=true->c≠t)->W.heap[c]?=g.wr.heap[c]?
 b1:l.getD g.ai false=true->a.tmps[g.as_]?=some (vP t 0)
 b:l.getD g.ai true=true->(g.wr.heap.size<=t\/(t=g.r0/\g.n<=g.ai))/\t<W.heap.size
 bz:l.getD g.ai true=true->l.getD g.si false=false->W.heap[t]?=some (.cells g.Z g.T)
 x:∀ i,i<g.n->g.isI.getD i false=true->l.getD i false=true->∃ v,a.tmps[g.sl.getD i 0]?=some v/\g.V i W (SX g l t W) v
 f:l.getD g.si false=true->l.getD g.ai true=true/\∃ u:List Value,W.heap[t]?=some (.cells u.toArray g.T)/\g.VF W (SX g l t W) (.agg u.toArray)
 t0:g.n<=g.ai->t=g.r0
def Gy (g:GxP) (l:Array Bool) (a:Act) (W:World):Prop:=∃ t,Gx g t l a W
theorem getD_def {l:Array Bool} {i:Nat} (h:i<l.size) (d:Bool):l.getD i d=l.getD i false:=by
 rw [Array.getD_eq_getD_getElem?,Array.getD_eq_getD_getElem?,Array.getElem?_eq_getElem h];rfl
theorem set_get_d {l:Array Bool} {i j:Nat} (h:i≠j) (d:Bool):(l.setIfInBounds i true).getD j d=l.getD j d:=by
 rw [Array.getD_eq_getD_getElem?,Array.getD_eq_getD_getElem?,Array.getElem?_setIfInBounds_ne h]
theorem getD_ofX {l:Array Bool} {i:Nat} (hl:l.getD i true=false):l.getD i false=false:=by
 rw [Array.getD_eq_getD_getElem?] at hl ⊢
 cases hx:l[i]? with
 | none=>rfl
 | some b=>rw [hx] at hl;exact hl
theorem rep_d {n j:Nat} (h:j<n) (d:Bool):(Array.replicate n false).getD j d=false:=by
 rw [Array.getD_eq_getD_getElem?,Array.getElem?_replicate,if_pos h];rfl
theorem rep_f (n j:Nat):(Array.replicate n false).getD j false=false:=by
 rw [Array.getD_eq_getD_getElem?,Array.getElem?_replicate];split <;> rfl
theorem rep_t {n j:Nat} (h:j<n) (d:Bool):(Array.replicate n true).getD j d=true:=by
 rw [Array.getD_eq_getD_getElem?,Array.getElem?_replicate,if_pos h];rfl
theorem Gx.startA {g:GxP} {a:Act} (h:g.P 0 g.wr) (cl:∀ k,Clo g.w (g.P k)) (kp:∀ i,Kept (g.V i)) (kf:Kept g.VF) (hl:g.lb<g.w.heap.size) (hs:g.sb<g.w.heap.size) (r1:g.w.heap.size<=g.r0) (r2:g.r0<g.wr.heap.size) (s0:∀ b,g.S0 b->b<g.wr.heap.size/\b≠g.lb/\b≠g.sb/\b≠g.r0) (hai:g.ai<g.n):Gy g (Array.replicate g.n false) a g.wr.drew:=by
 refine ⟨0,⟨0,Qd.start _ _,(cl 0).dr _ h⟩,cl,kp,kf,⟨hl,hs⟩,⟨r1,r2⟩,s0,(cl 0).z _ h,Nat.le_refl _,fun _ _ _ _ _=>rfl,?_,?_,?_,?_,?_,fun e=>absurd hai (by omega)⟩
 · intro e;rw [rep_f] at e;cases e
 · intro e;rw [rep_d hai] at e;cases e
 · intro e;rw [rep_d hai] at e;cases e
 · intro i _ _ e;rw [rep_f] at e;cases e
 · intro e;rw [rep_f] at e;cases e
theorem Gx.startB {g:GxP} {a:Act} (h:g.P 0 g.wr) (cl:∀ k,Clo g.w (g.P k)) (kp:∀ i,Kept (g.V i)) (kf:Kept g.VF) (hl:g.lb<g.w.heap.size) (hs:g.sb<g.w.heap.size) (r1:g.w.heap.size<=g.r0) (r2:g.r0<g.wr.heap.size) (s0:∀ b,g.S0 b->b<g.wr.heap.size/\b≠g.lb/\b≠g.sb/\b≠g.r0) (hz:g.wr.heap[g.r0]?=some (.cells g.Z g.T)) (hai:g.n<=g.ai):Gy g (Array.replicate g.n false) a g.wr.drew:=by
 refine ⟨g.r0,⟨0,Qd.start _ _,(cl 0).dr _ h⟩,cl,kp,kf,⟨hl,hs⟩,⟨r1,r2⟩,s0,(cl 0).z _ h,Nat.le_refl _,fun _ _ _ _ _=>rfl,?_,?_,?_,?_,?_,fun _=>rfl⟩
 · intro e;rw [rep_f] at e;cases e
 · exact fun _=>⟨.inr ⟨rfl,hai⟩,r2⟩
 · exact fun _ _=>hz
 · intro i _ _ e;rw [rep_f] at e;cases e
 · intro e;rw [rep_f] at e;cases e
def okP (g:GxP) (i s:Nat):Bool:=g.cs.all (· != i) && (g.ai != i && (g.si != i && (g.isI.getD i false == false && (g.as_ != s && (List.range g.n).all (fun j=>!(g.isI.getD j false) || g.sl.getD j 0 != s)))))
theorem okP_parts {g:GxP} {i s:Nat} (h:okP g i s=true):g.cs.all (· != i)=true/\i≠g.ai/\i≠g.si/\g.isI.getD i false=false/\s≠g.as_/\∀ j,j<g.n->g.isI.getD j false=true->s≠g.sl.getD j 0:=by
 unfold okP at h
 simp only [Bool.and_eq_true,bne_iff_ne,ne_eq,beq_iff_eq] at h
 obtain ⟨h1,h2,h3,h4,h5,h6⟩:=h
 refine ⟨h1,Ne.symm h2,Ne.symm h3,h4,Ne.symm h5,fun j hj hi e=>?_⟩
 have:=List.all_eq_true.1 h6 j (List.mem_range.2 hj)
 rw [hi,<- e] at this
 simp at this
def okI (g:GxP) (i:Nat):Bool:=(g.ai != i && (g.si != i && (g.isI.getD i false && (g.as_ != g.sl.getD i 0 && (List.range g.n).all (fun j=>j == i || (!(g.isI.getD j false) || g.sl.getD j 0 != g.sl.getD i 0))))))
theorem okI_parts {g:GxP} {i:Nat} (h:okI g i=true):i≠g.ai/\i≠g.si/\g.isI.getD i false=true/\g.sl.getD i 0≠g.as_/\∀ j,j<g.n->j≠i->g.isI.getD j false=true->g.sl.getD i 0≠g.sl.getD j 0:=by
 unfold okI at h
 simp only [Bool.and_eq_true,bne_iff_ne,ne_eq] at h
 obtain ⟨h2,h3,h4,h5,h6⟩:=h
 refine ⟨Ne.symm h2,Ne.symm h3,h4,Ne.symm h5,fun j hj hji hi e=>?_⟩
 have:=List.all_eq_true.1 h6 j (List.mem_range.2 hj)
 rw [hi,<- e] at this
 simp [hji] at this
theorem SX.set {g:GxP} {l:Array Bool} {t i:Nat} {W:World} (h:i≠g.ai):SX g (l.setIfInBounds i true) t W=SX g l t W:=by
 unfold SX
 rw [set_get_d h]
theorem Gx.pure {g:GxP} {t:Nat} {l:Array Bool} {a:Act} {W:World} (h:Gx g t l a W) {i s:Nat} {v:Value} (hok:okP g i s=true):Gy g (l.setIfInBounds i true) (a.put (some s) v) W:=by
 obtain ⟨h1,h2,h3,h4,h5,h6⟩:=okP_parts hok
 obtain ⟨k,q1,q2⟩:=h.q
 refine ⟨t,⟨k,q1.other h1,q2⟩,h.cl,h.kp,h.kf,h.hl,h.r,h.s0,h.zr,h.z,?_,?_,?_,?_,?_,?_,h.t0⟩
 · rw [set_get_d h2];exact h.k
 · rw [set_get_d h2,put_other h5];exact h.b1
 · rw [set_get_d h2];exact h.b
 · rw [set_get_d h2,set_get_d h3];exact h.bz
 · intro j hj hi e
   have hne:i≠j:=fun e'=>by subst e';rw [h4] at hi;cases hi
   rw [set_other_get hne] at e
   rw [put_other (h6 j hj hi),SX.set h2]
   exact h.x j hj hi e
 · rw [set_other_get h3,SX.set h2,set_get_d h2];exact h.f
theorem Gx.item {g:GxP} {t:Nat} {l:Array Bool} {a:Act} {W:World} (h:Gx g t l a W) {i:Nat} {v:Value} (hc:g.cs.all (· != i)=true) (hok:okI g i=true) (ht:g.sl.getD i 0<a.tmps.size) (hV:g.V i W (SX g l t W) v):Gy g (l.setIfInBounds i true) (a.put (some (g.sl.getD i 0)) v) W:=by
 obtain ⟨h2,h3,h4,h5,h6⟩:=okI_parts hok
 obtain ⟨k,q1,q2⟩:=h.q
 refine ⟨t,⟨k,q1.other hc,q2⟩,h.cl,h.kp,h.kf,h.hl,h.r,h.s0,h.zr,h.z,?_,?_,?_,?_,?_,?_,h.t0⟩
 · rw [set_get_d h2];exact h.k
 · rw [set_get_d h2,put_other h5];exact h.b1
 · rw [set_get_d h2];exact h.b
 · rw [set_get_d h2,set_get_d h3];exact h.bz
 · intro j hj hi e
   rw [SX.set h2]
   by_cases hji:j=i
   · subst hji
     exact ⟨v,put_this ht,hV⟩
   · rw [set_other_get (Ne.symm hji)] at e
     rw [put_other (h6 j hj hji hi)]
     exact h.x j hj hi e
 · rw [set_other_get h3,SX.set h2,set_get_d h2];exact h.f
theorem Gx.lt {g:GxP} {t:Nat} {l:Array Bool} {a:Act} {W:World} (h:Gx g t l a W) {b:Nat} (q:SX g l t W b):b<W.heap.size/\b≠g.lb/\b≠g.sb/\b≠g.r0:=by
 have hz:=h.z
 have hr:=h.r
 have hzr:=h.zr
 have hl:=h.hl
 rcases q.1 with q | q
 · have:=h.s0 b q
   exact ⟨by omega,this.2⟩
 · exact ⟨q.2,by omega,by omega,by omega⟩
theorem SX.grow {g:GxP} {l:Array Bool} {t:Nat} {W W':World} (hz:W.heap.size<=W'.heap.size) {b:Nat} (q:SX g l t W b):SX g l t W' b:=⟨q.1.imp id fun q=>⟨q.1,Nat.lt_of_lt_of_le q.2 hz⟩,q.2⟩
theorem Gx.below {g:GxP} {t:Nat} {l:Array Bool} {a:Act} {W:World} (h:Gx g t l a W) (o:Obj) {V:VP} (hk:Kept V) {v:Value} (hv:V W (SX g l t W) v):V (W.alloc o) (SX g l t (W.alloc o)) v :=
 hk _ _ _ _ _ (fun b q=>q.grow (by simp)) (fun b q=>Below.heap_alloc _ _ b (h.lt q).1) hv
theorem Gx.list {g:GxP} {t:Nat} {l:Array Bool} {a:Act} {W:World} (h:Gx g t l a W) {i:Nat} {v:Value} {o:Obj} (hc:g.cs.all (· != i)=true) (hok:okI g i=true) (ht:g.sl.getD i 0<a.tmps.size) (hV:g.V i (W.alloc o) (SX g l t (W.alloc o)) v):Gy g (l.setIfInBounds i true) (a.put (some (g.sl.getD i 0)) v) (W.alloc o):=by
 obtain ⟨h2,h3,h4,h5,h6⟩:=okI_parts hok
 obtain ⟨k,q1,q2⟩:=h.q
 have hz:=h.z
 have hn:W.heap.size<=(W.alloc o).heap.size:=by simp
 have ho:∀ b,b<W.heap.size->(W.alloc o).heap[b]?=W.heap[b]?:=fun b hb=>Below.heap_alloc _ _ b hb
 refine ⟨t,⟨k,q1.other hc,(h.cl k).al _ _ q2⟩,h.cl,h.kp,h.kf,h.hl,h.r,h.s0,h.zr,Nat.le_trans hz hn,?_,?_,?_,?_,?_,?_,h.t0⟩
 · rw [set_get_d h2];exact fun c q1 q2 q3 q4=>(ho c (by omega)).trans (h.k c q1 q2 q3 q4)
 · rw [set_get_d h2,put_other h5];exact h.b1
 · rw [set_get_d h2];exact fun e=>⟨(h.b e).1,Nat.lt_of_lt_of_le (h.b e).2 hn⟩
 · rw [set_get_d h2,set_get_d h3];exact fun e1 e2=>(ho t (h.b e1).2).trans (h.bz e1 e2)
 · intro j hj hi e
   rw [SX.set h2]
   by_cases hji:j=i
   · subst hji
     exact ⟨v,put_this ht,hV⟩
   · rw [set_other_get (Ne.symm hji)] at e
     rw [put_other (h6 j hj hji hi)]
     obtain ⟨v',e1,e2⟩:=h.x j hj hi e
     exact ⟨v',e1,h.below o (h.kp j) e2⟩
 · rw [set_other_get h3,SX.set h2,set_get_d h2]
   intro e
   obtain ⟨ha,u,f1,f2⟩:=h.f e
   exact ⟨ha,u,(ho t (h.b ha).2).trans f1,h.below o h.kf f2⟩
theorem Gx.after {g:GxP} {t:Nat} {l:Array Bool} {a:Act} {W W':World} (h:Gx g t l a W) (hk:∀ b,b<W.heap.size->b≠g.lb->b≠g.sb->W'.heap[b]?=W.heap[b]?) (hz:W.heap.size<=W'.heap.size) {V:VP} (hV:Kept V) {v:Value} (hv:V W (SX g l t W) v):V W' (SX g l t W') v:=by
 exact hV _ _ _ _ _ (fun b q=>q.grow hz) (fun b q=>hk b (h.lt q).1 (h.lt q).2.1 (h.lt q).2.2.1) hv
theorem Gx.call_ {g:GxP} {t:Nat} {l:Array Bool} {a:Act} {W W':World} (h:Gx g t l a W) (j:Nat) {v:Value} {s:Nat} (hj:j<g.cs.length) (hd:(List.range g.cs.length).all (fun i=>i == j || g.cs.getD i 0 != g.cs.getD j 0)=true) (hsz:l.size=g.n) (hlt:g.cs.getD j 0<g.n) (hq:Qd g.cs j l) (hP:g.P (j + 1) W') (hk:∀ b,b<W.heap.size->b≠g.lb->b≠g.sb->W'.heap[b]?=W.heap[b]?) (hz:W.heap.size<=W'.heap.size)
 (h2:g.cs.getD j 0≠g.ai) (h3:g.cs.getD j 0≠g.si) (h5:s≠g.as_) (h6:∀ i,i<g.n->i≠g.cs.getD j 0->g.isI.getD i false=true->s≠g.sl.getD i 0) (hv:g.isI.getD (g.cs.getD j 0) false=true->s=g.sl.getD (g.cs.getD j 0) 0/\s<a.tmps.size/\g.V (g.cs.getD j 0) W' (SX g l t W') v):Gy g (l.setIfInBounds (g.cs.getD j 0) true) (a.put (some s) v) W':=by
 have hl:=h.hl
 have hr:=h.r
 have hzr:=h.zr
 have hzz:=h.z
 have htl:∀ {x:Nat},(g.wr.heap.size<=x\/(x=g.r0/\g.n<=g.ai))->x≠g.lb/\x≠g.sb:=fun hx=>by omega
 refine ⟨t,⟨j + 1,hq.next hj hd hsz hlt,hP⟩,h.cl,h.kp,h.kf,h.hl,h.r,h.s0,h.zr,Nat.le_trans hzz hz,?_,?_,?_,?_,?_,?_,h.t0⟩
 · rw [set_get_d h2];exact fun c q1 q2 q3 q4=>(hk c (by omega) q2 q3).trans (h.k c q1 q2 q3 q4)
 · rw [set_get_d h2,put_other h5];exact h.b1
 · rw [set_get_d h2];exact fun e=>⟨(h.b e).1,Nat.lt_of_lt_of_le (h.b e).2 hz⟩
 · rw [set_get_d h2,set_get_d h3];exact fun e1 e2=>(hk t (h.b e1).2 (htl (h.b e1).1).1 (htl (h.b e1).1).2).trans (h.bz e1 e2)
 · intro i hi hI e
   rw [SX.set h2]
   by_cases hji:i=g.cs.getD j 0
   · subst hji
     obtain ⟨v1,v2,v3⟩:=hv hI
     exact ⟨v,by rw [<- v1];exact put_this v2,v3⟩
   · rw [set_other_get (Ne.symm hji)] at e
     rw [put_other (h6 i hi hji hI)]
     obtain ⟨v',e1,e2⟩:=h.x i hi hI e
     exact ⟨v',e1,h.after hk hz (h.kp i) e2⟩
 · rw [set_other_get h3,SX.set h2,set_get_d h2]
   intro e
   obtain ⟨ha,u,f1,f2⟩:=h.f e
   exact ⟨ha,u,(hk t (h.b ha).2 (htl (h.b ha).1).1 (htl (h.b ha).1).2).trans f1,h.after hk hz h.kf f2⟩
def okC (g:GxP) (j s:Nat):Bool:=decide (j<g.cs.length) && ((List.range g.cs.length).all (fun i=>i == j || g.cs.getD i 0 != g.cs.getD j 0) && (decide (g.cs.getD j 0<g.n) && (g.cs.getD j 0 != g.ai && (g.cs.getD j 0 != g.si && (s != g.as_ && ((List.range g.n).all (fun i=>i == g.cs.getD j 0 || (!(g.isI.getD i false) || s != g.sl.getD i 0)) && (!(g.isI.getD (g.cs.getD j 0) false) || s == g.sl.getD (g.cs.getD j 0) 0)))))))
theorem Gx.call {g:GxP} {t:Nat} {l:Array Bool} {a:Act} {W W':World} (h:Gx g t l a W) (j:Nat) {v:Value} {s i:Nat} (hi:g.cs.getD j 0=i) (hok:okC g j s=true) (hsz:l.size=g.n) (hq:Qd g.cs j l) (hP:g.P (j + 1) W') (hk:∀ b,b<W.heap.size->b≠g.lb->b≠g.sb->W'.heap[b]?=W.heap[b]?) (hz:W.heap.size<=W'.heap.size) (ht:s<a.tmps.size) (hv:g.isI.getD i false=true->g.V i W' (SX g l t W') v):Gy g (l.setIfInBounds i true) (a.put (some s) v) W':=by
 subst hi
 unfold okC at hok
 simp only [Bool.and_eq_true,bne_iff_ne,ne_eq,decide_eq_true_eq] at hok
 obtain ⟨h1,h2,h3,h4,h5,h6,h7,h8⟩:=hok
 refine h.call_ j h1 h2 hsz h3 hq hP hk hz h4 h5 h6 (fun i hi hne hI e=>?_) (fun hI=>?_)
 · have:=List.all_eq_true.1 h7 i (List.mem_range.2 hi)
   rw [hI,<- e] at this
   exact hne (by simpa using this)
 · rw [hI] at h8
   exact ⟨by simpa using h8,ht,hv hI⟩
theorem Gx.fresh {g:GxP} {t:Nat} {l:Array Bool} {a:Act} {W W':World} (h:Gx g t l a W) {X:Ex} {u:List Value} (hz:W.heap.size<=W'.heap.size) (hx:X.W W' (fun b=>W.heap.size<=b/\b<W'.heap.size) u):VX X W' (SX g l t W') (.agg u.toArray):=by
 have hr:=h.r
 have hzz:=h.z
 have hzr:=h.zr
 exact ⟨u,rfl,hx.keep (fun b q=>⟨.inr ⟨by omega,q.2⟩,fun e=>by have:=(h.b e).2;omega⟩) (fun _ _=>rfl)⟩
def okM (g:GxP):Bool:=decide (g.ai<g.n) && (g.cs.all (· != g.ai) && (g.ai != g.si && (g.isI.getD g.ai false == false && (List.range g.n).all (fun j=>!(g.isI.getD j false) || g.sl.getD j 0 != g.as_))))
theorem okM_parts {g:GxP} (h:okM g=true):g.ai<g.n/\g.cs.all (· != g.ai)=true/\g.ai≠g.si/\g.isI.getD g.ai false=false/\∀ j,j<g.n->g.isI.getD j false=true->g.as_≠g.sl.getD j 0:=by
 unfold okM at h
 simp only [Bool.and_eq_true,bne_iff_ne,ne_eq,beq_iff_eq,decide_eq_true_eq] at h
 obtain ⟨h1,h2,h3,h4,h5⟩:=h
 refine ⟨h1,h2,h3,h4,fun j hj hi e=>?_⟩
 have:=List.all_eq_true.1 h5 j (List.mem_range.2 hj)
 rw [hi,<- e] at this
 simp at this
def okS (g:GxP):Bool:=decide (g.si<g.n) && (g.cs.all (· != g.si) && (g.si != g.ai && g.isI.getD g.si false == false))
theorem Gx.alloc {g:GxP} {t:Nat} {l:Array Bool} {a:Act} {W:World} (h:Gx g t l a W) (hok:okM g=true) (hsz:l.size=g.n) (hn:l.getD g.ai false=false) (hs:l.getD g.si false=false) (ht:g.as_<a.tmps.size):Gy g (l.setIfInBounds g.ai true) (a.put (some g.as_) (vP W.heap.size 0)) (W.alloc (.cells g.Z g.T)):=by
 obtain ⟨h1,h2,h3,h4,h5⟩:=okM_parts hok
 obtain ⟨k,q1,q2⟩:=h.q
 have hz:=h.z
 have hr:=h.r
 have hnd:l.getD g.ai true=false:=(getD_def (by omega) true).trans hn
 have hn':W.heap.size<(W.alloc (.cells g.Z g.T)).heap.size:=by simp
 have ho:∀ b,b<W.heap.size->(W.alloc (.cells g.Z g.T)).heap[b]?=W.heap[b]?:=fun b hb=>Below.heap_alloc _ _ b hb
 have hkp:∀ {V:VP} {v:Value},Kept V->V W (SX g l t W) v->V (W.alloc (.cells g.Z g.T)) (SX g (l.setIfInBounds g.ai true) W.heap.size (W.alloc (.cells g.Z g.T))) v:=fun hV hv =>
  hV _ _ _ _ _ (fun b q=>⟨(q.grow (Nat.le_of_lt hn')).1,fun _=>by have:=(h.lt q).1;omega⟩) (fun b q=>ho b (h.lt q).1) hv
 have hset:(l.setIfInBounds g.ai true).getD g.ai false=true:=set_this_get hsz h1
 refine ⟨W.heap.size,⟨k,q1.other h2,(h.cl k).al _ _ q2⟩,h.cl,h.kp,h.kf,h.hl,h.r,h.s0,h.zr,by omega,?_,?_,?_,?_,?_,?_,fun e=>absurd h1 (by omega)⟩
 · exact fun c q1 q2 q3 _=>(ho c (by omega)).trans (h.k c q1 q2 q3 (fun e=>by rw [hnd] at e;cases e))
 · exact fun _=>put_this ht
 · exact fun _=>⟨.inl hz,hn'⟩
 · exact fun _ _=>heap_alloc_new _ _
 · intro j hj hi e
   have hne:g.ai≠j:=fun e'=>by subst e';rw [h4] at hi;cases hi
   rw [set_other_get hne] at e
   rw [put_other (h5 j hj hi)]
   obtain ⟨v',e1,e2⟩:=h.x j hj hi e
   exact ⟨v',e1,hkp (h.kp j) e2⟩
 · rw [set_other_get h3,hs];exact fun e=>absurd e (by decide)
theorem Gx.store {g:GxP} {t:Nat} {l:Array Bool} {a:Act} {W:World} (h:Gx g t l a W) (hok:okS g=true) (hsz:l.size=g.n) (ha:l.getD g.ai true=true) (hn:l.getD g.si false=false) {u:List Value} (hu:u.length=g.Z.size) (hV:g.VF W (SX g l t W) (.agg u.toArray)):Gy g (l.setIfInBounds g.si true) (a.put none undef) (putL W t 0 u):=by
 unfold okS at hok
 simp only [Bool.and_eq_true,bne_iff_ne,ne_eq,decide_eq_true_eq,beq_iff_eq] at hok
 obtain ⟨h1,h2,h3,h4⟩:=hok
 obtain ⟨k,q1,q2⟩:=h.q
 have hz:=h.z
 have hr:=h.r
 have hzr:=h.zr
 have hl:=h.hl
 obtain ⟨b1,b2⟩:=h.b ha
 have hzz:W.heap.size<=(putL W t 0 u).heap.size:=(putL_below (B:=0) (w0:=W) (Nat.zero_le _) _ _ _ (Below.refl _ _)).size
 have hkp:∀ {V:VP} {v:Value},Kept V->V W (SX g l t W) v->V (putL W t 0 u) (SX g (l.setIfInBounds g.si true) t (putL W t 0 u)) v:=fun hV hv=>by
  rw [SX.set h3]
  exact hV _ _ _ _ _ (fun b q=>q.grow hzz) (fun b q=>putL_other (q.2 ha) _ _ _) hv
 refine ⟨t,⟨k,q1.other h2,(h.cl k).pu _ _ _ (by omega) q2⟩,h.cl,h.kp,h.kf,h.hl,h.r,h.s0,h.zr,by omega,?_,?_,?_,?_,?_,?_,h.t0⟩
 · rw [set_get_d h3];exact fun c q1 q2 q3 q4=>(putL_other (q4 ha) _ _ _).trans (h.k c q1 q2 q3 q4)
 · rw [set_get_d h3];exact h.b1
 · exact fun _=>⟨b1,by omega⟩
 · exact fun _ e=>absurd ((set_this_get hsz h1).symm.trans e) (by decide)
 · intro j hj hi e
   have hne:g.si≠j:=fun e'=>by subst e';rw [h4] at hi;cases hi
   rw [set_other_get hne] at e
   obtain ⟨v',e1,e2⟩:=h.x j hj hi e
   exact ⟨v',e1,hkp (h.kp j) e2⟩
 · rw [set_get_d h3]
   exact fun _=>⟨ha,u,putL_same (h.bz ha hn) _ hu.symm,hkp h.kf hV⟩
theorem Gy.fin {g:GxP} {a:Act} {W:World} (hc:g.cs.all (fun c=>decide (c<g.n))=true) (h:Gy g (Array.replicate g.n true) a W):g.P g.cs.length W/\g.wr.heap.size<=W.heap.size/\∃ t,(g.ai<g.n->a.tmps[g.as_]?=some (vP t 0))/\(g.ai<g.n->g.wr.heap.size<=t)/\(g.n<=g.ai->t=g.r0)/\(∀ c,c<g.wr.heap.size->c≠g.lb->c≠g.sb->c≠t->W.heap[c]?=g.wr.heap[c]?)/\(g.si<g.n->∃ u:List Value,W.heap[t]?=some (.cells u.toArray g.T)/\g.VF W (fun b=>(g.S0 b\/(g.wr.heap.size<=b/\b<W.heap.size))/\b≠t) (.agg u.toArray))/\(g.n<=g.si->W.heap[t]?=some (.cells g.Z g.T))/\(∀ i,i<g.n->g.isI.getD i false=true->∃ v,a.tmps[g.sl.getD i 0]?=some v/\g.V i W (fun b=>(g.S0 b\/(g.wr.heap.size<=b/\b<W.heap.size))/\b≠t) v):=by
 obtain ⟨t,h⟩:=h
 obtain ⟨k,q1,q2⟩:=h.q
 obtain rfl:=q1.done hc
 have ha:(Array.replicate g.n true).getD g.ai true=true:=by
  rw [Array.getD_eq_getD_getElem?,Array.getElem?_replicate];split <;> rfl
 have hs:∀ b,SX g (Array.replicate g.n true) t W b->((g.S0 b\/(g.wr.heap.size<=b/\b<W.heap.size))/\b≠t):=fun b q=>⟨q.1,q.2 ha⟩
 refine ⟨q2,h.z,t,fun e=>h.b1 (rep_t e false),fun e=>by have:=(h.b ha).1;omega,h.t0,fun c q1 q2 q3 q4=>h.k c q1 q2 q3 (fun _=>q4),fun e=>?_,fun e=>h.bz ha (by rw [Array.getD_eq_getD_getElem?,Array.getElem?_replicate,if_neg (by omega)];rfl),fun i hi hI=>?_⟩
 · obtain ⟨_,u,f1,f2⟩:=h.f (rep_t e false)
   exact ⟨u,f1,h.kf _ _ _ _ _ hs (fun _ _=>rfl) f2⟩
 · obtain ⟨v,f1,f2⟩:=h.x i hi hI (rep_t hi false)
   exact ⟨v,f1,h.kp i _ _ _ _ _ hs (fun _ _=>rfl) f2⟩
theorem Gy.next {g:GxP} {a:Act} {W:World} (hc:g.cs.all (fun c=>decide (c<g.n))=true) (h:Gy g (Array.replicate g.n true) a W):g.P g.cs.length W/\g.wr.heap.size<=W.heap.size/\∃ (t:Nat) (S:Nat->Prop),(g.ai<g.n->a.tmps[g.as_]?=some (vP t 0))/\(g.ai<g.n->g.wr.heap.size<=t/\t<W.heap.size)/\(g.n<=g.ai->t=g.r0)/\(∀ c,c<g.wr.heap.size->c≠g.lb->c≠g.sb->c≠t->W.heap[c]?=g.wr.heap[c]?)/\(∀ b,S b->b<W.heap.size/\b≠g.lb/\b≠g.sb/\b≠g.r0/\b≠t/\(g.S0 b\/g.wr.heap.size<=b))/\(g.si<g.n->∃ u:List Value,W.heap[t]?=some (.cells u.toArray g.T)/\g.VF W S (.agg u.toArray))/\(g.n<=g.si->W.heap[t]?=some (.cells g.Z g.T))/\(∀ (X:Ex) (u:List Value),X.W g.wr g.S0 u->X.W W S u):=by
 have hf:=Gy.fin hc h
 obtain ⟨t0,hx⟩:=h
 have hl:=hx.hl
 have hr:=hx.r
 have hs0:=hx.s0
 have hzr:=hx.zr
 have hz:=hx.z
 obtain ⟨h1,h2,t,h3,h4,h5,h6,h7,h8,_⟩:=hf
 have ht:g.ai<g.n\/g.n<=g.ai:=by omega
 have htt:∀ b,(g.S0 b\/(g.wr.heap.size<=b/\b<W.heap.size))/\b≠t->b<W.heap.size/\b≠g.lb/\b≠g.sb/\b≠g.r0/\b≠t/\(g.S0 b\/g.wr.heap.size<=b):=fun b q=>by
  rcases q.1 with q1 | q1
  · have:=hs0 b q1
    exact ⟨by omega,this.2.1,this.2.2.1,this.2.2.2,q.2,.inl q1⟩
  · exact ⟨q1.2,by omega,by omega,by omega,q.2,.inr q1.1⟩
 have htW:g.ai<g.n->t<W.heap.size:=fun e=>by
  by_cases hs:g.si<g.n
  · obtain ⟨u,f1,_⟩:=h7 hs
    exact (gI f1).1
  · exact (gI (h8 (by omega))).1
 refine ⟨h1,h2,t,_,h3,fun e=>⟨h4 e,htW e⟩,h5,h6,htt,h7,h8,fun X u hv=>hv.keep (fun b q=>⟨.inl q,?_⟩) (fun b q=>h6 b (hs0 b q).1 (hs0 b q).2.1 (hs0 b q).2.2.1 ?_)⟩
 all_goals
  intro e
  have:=hs0 b q
  rcases ht with ht | ht
  · have:=h4 ht
    omega
  · have:=h5 ht
    omega
theorem Gx.same {g:GxP} {t:Nat} {l:Array Bool} {a:Act} {W:World} (h:Gx g t l a W) {c:Nat} (h1:c<g.wr.heap.size) (h2:c≠g.lb) (h3:c≠g.sb) (h4:c≠g.r0):W.heap[c]?=g.wr.heap[c]?:=h.k c h1 h2 h3 (fun e=>by have:=(h.b e).1;omega)
theorem Gx.old {g:GxP} {t:Nat} {l:Array Bool} {a:Act} {W:World} (h:Gx g t l a W) {X:Ex} {u:List Value} (hx:X.W g.wr g.S0 u):X.W W (SX g l t W) u :=
 hx.keep (fun b q=>⟨.inl q,fun e=>by have:=(h.b e).1;have:=h.s0 b q;omega⟩) (fun b q=>h.same (h.s0 b q).1 (h.s0 b q).2.1 (h.s0 b q).2.2.1 (h.s0 b q).2.2.2)
theorem Gx.joined {g:GxP} {t:Nat} {l:Array Bool} {a:Act} {W W':World} (h:Gx g t l a W) {V:VP} (hV:Kept V) (hz:W.heap.size<=W'.heap.size) {v:Value} (hx:V W' (fun b=>SX g l t W b\/(W.heap.size<=b/\b<W'.heap.size)) v):V W' (SX g l t W') v:=by
 have hzz:=h.z
 exact hV _ _ _ _ _ (fun b q=>by
  rcases q with q | q
  · exact q.grow hz
  · exact ⟨.inr ⟨by omega,q.2⟩,fun e=>by have:=(h.b e).2;omega⟩) (fun _ _=>rfl) hx
theorem Gx.lt3 {g:GxP} {t:Nat} {l:Array Bool} {a:Act} {W:World} (h:Gx g t l a W):∀ b,SX g l t W b->b<W.heap.size/\b≠g.lb/\b≠g.sb:=fun b q=>⟨(h.lt q).1,(h.lt q).2.1,(h.lt q).2.2.1⟩
end Go.Proofs.YtmcmbdkpfcibkaaGreatDoor
