import Derived.Test.YtmcmbdkpfcibkaaGreatDoorPoNext
import Derived.Laws.Concat
import Derived.Test.YtmcmbdkpfcibkaaGreatDoorRgIn
import Derived.Maps.OwnSet
import Derived.Maps.RangeRun
import Derived.WalkKit
import Derived.WalkSpells
import Derived.WalkLawsBesides
import Derived.Outline
import Derived.Lib.Builder
set_option linter.unusedVariables false
set_option maxHeartbeats 1600000
namespace Go.Proofs.YtmcmbdkpfcibkaaGreatDoor
set_option maxRecDepth 100000
open Go.RowKit
theorem sep_cell (w:World) (i:Nat) (hi:i<2):(w.alloc (.cells #[vS ⟨#[47]⟩,vS ⟨#[47,47]⟩] 9)).cell? ⟨w.heap.size,i,none⟩=some (vS ⟨(sepL.getD i []).toArray⟩):=by
 have e:i=0\/i=1:=by omega
 rcases e with rfl | rfl <;> simp [sepL]
theorem sepBox {pb jj:Nat} {z:ByteArray} {V w1:World} (hsc:∀ w:World,(w.alloc (.cells #[vS ⟨#[47]⟩,vS ⟨#[47,47]⟩] 9)).cell? ⟨w.heap.size,jj,none⟩=some (vS z)) (h:GrowQ pb (V.alloc (.cells #[vS ⟨#[47]⟩,vS ⟨#[47,47]⟩] 9)) w1) (hp:pb<V.heap.size):w1.cell? ⟨V.heap.size,jj,none⟩=some (vS z)/\V.heap.size<w1.heap.size/\pb<w1.heap.size:=by
 have hl:=h.1
 simp at hl
 exact ⟨(h.cell (by simp) (by omega)).trans (hsc V),by omega,by omega⟩
theorem sepBoxD {pb jj:Nat} {z:ByteArray} {V w1:World} (hsc:∀ w:World,(w.alloc (.cells #[vS ⟨#[47]⟩,vS ⟨#[47,47]⟩] 9)).cell? ⟨w.heap.size,jj,none⟩=some (vS z)) (h:GrowQ pb (V.alloc (.cells #[vS ⟨#[47]⟩,vS ⟨#[47,47]⟩] 9)).drew w1) (hp:pb<V.heap.size):w1.cell? ⟨V.heap.size,jj,none⟩=some (vS z)/\V.heap.size<w1.heap.size/\pb<w1.heap.size:=sepBox hsc h hp
theorem sepKept {pb jj g:Nat} {z:ByteArray} {V w1:World} (h:GrowQ pb V w1) (z0:V.cell? ⟨g,jj,none⟩=some (vS z)) (z1:g<V.heap.size) (z2:pb<g):w1.cell? ⟨g,jj,none⟩=some (vS z)/\g<w1.heap.size/\pb<w1.heap.size:=by
 have hl:=h.1
 exact ⟨(h.cell z1 (by omega)).trans z0,by omega,by omega⟩
theorem data_appQ (t u:ByteArray):(t ++ u).data.toList=t.data.toList ++ u.data.toList:=by
 rw [ByteArray.data_append,Array.toList_append]
theorem stepL_len {i:Nat} (hi:i<18):(stepL.getD i []).length<=30:=by
 have:∀ i:Fin 18,(stepL.getD i []).length<=30:=by decide
 exact this ⟨i,hi⟩
theorem sepL_len {i:Nat} (hi:i<2):(sepL.getD i []).length<=2:=by
 have:∀ i:Fin 2,(sepL.getD i []).length<=2:=by decide
 exact this ⟨i,hi⟩
theorem baseL_len {i:Nat} (hi:i<6):(baseL.getD i []).length<=10:=by
 have:∀ i:Fin 6,(baseL.getD i []).length<=10:=by decide
 exact this ⟨i,hi⟩
def PathS (s:ByteArray) (m n:Nat):Prop:=OkP s.data.toList m/\s.size<=n
theorem PathS.base {i:Nat} (hi:i<6):PathS ⟨(baseL.getD i []).toArray⟩ 6 10:=⟨okP_base hi,baseL_len hi⟩
theorem PathS.step {s:ByteArray} {m n i j:Nat} (h:PathS s m n) (hj:j<2) (hi:i<18):PathS (s ++ (⟨(sepL.getD j []).toArray⟩ ++ ⟨(stepL.getD i []).toArray⟩)) (m + 7) (n + 32):=by
 refine ⟨?_,?_⟩
 · rw [data_appQ,data_appQ]
   exact h.1.step hj hi
 · rw [ByteArray.size_append,ByteArray.size_append]
   have h1:(⟨(sepL.getD j []).toArray⟩:ByteArray).size<=2:=sepL_len hj
   have h2:(⟨(stepL.getD i []).toArray⟩:ByteArray).size<=30:=stepL_len hi
   have h3:=h.2
   omega
theorem PathS.more {s:ByteArray} {m n m' n':Nat} (h:PathS s m n) (hm:m<=m') (hn:n<=n'):PathS s m' n':=⟨fun c R hc=>(h.1 c R hc).more hm,Nat.le_trans h.2 hn⟩
theorem PoS.setD {w0 w:World} {pb:Nat} {d:Bool} (h:PoS w0 w pb d) (e:Bool):PoS w0 (w.setCell ⟨pb,1,none⟩ (.bool e)) pb e:=by
 obtain ⟨hz,⟨v,n,X,h1,h2,h3⟩,lo⟩:=h
 refine ⟨hz,⟨v,n,X,h1.setD e,h2,h3⟩,?_⟩
 exact lo.trans (((GrowQ.refl pb w).set 1 _).low (Nat.le_of_lt h1.2.2.2.2))
theorem ops_at0 (W:World):Sem.run Tryz.prog (Instr.index 90 (.agg #[vS ⟨#[32,117,110,105,111,110,32]⟩,vS ⟨#[32,105,110,116,101,114,115,101,99,116,32]⟩,vS ⟨#[32,101,120,99,101,112,116,32]⟩]) (vI 0)) W=.ok (vS ⟨#[32,117,110,105,111,110,32]⟩) W:=by
 simp [Instr.index,run_underlying Tryz.underlying90,asIntOf,go_sem]
theorem ops_at1 (W:World):Sem.run Tryz.prog (Instr.index 90 (.agg #[vS ⟨#[32,117,110,105,111,110,32]⟩,vS ⟨#[32,105,110,116,101,114,115,101,99,116,32]⟩,vS ⟨#[32,101,120,99,101,112,116,32]⟩]) (vI 1)) W=.ok (vS ⟨#[32,105,110,116,101,114,115,101,99,116,32]⟩) W:=by
 simp [Instr.index,run_underlying Tryz.underlying90,asIntOf,go_sem]
theorem ops_at2 (W:World):Sem.run Tryz.prog (Instr.index 90 (.agg #[vS ⟨#[32,117,110,105,111,110,32]⟩,vS ⟨#[32,105,110,116,101,114,115,101,99,116,32]⟩,vS ⟨#[32,101,120,99,101,112,116,32]⟩]) (vI 2)) W=.ok (vS ⟨#[32,101,120,99,101,112,116,32]⟩) W:=by
 simp [Instr.index,run_underlying Tryz.underlying90,asIntOf,go_sem]
open Go.RowKit Go.WideShapes
theorem strLaw:Go.Maps.Keyed Tryz.prog 9:=Go.Maps.string_keyed Tryz.underlying9
theorem str_key (x:ByteArray) (h:x.size≤maxLen):keyOf Tryz.prog 9 (.string x)=some (.string x.data.toList):=by
 simp [keyOf,Tryz.underlying9,mapKey]
 exact h
def VMap (w:World) (M:Nat) (V:ByteArray->Option Value):Prop :=
 ∃ es clock,w.heap[M]?=some (.map es clock) /\
  (∀ (i:Nat) (e:MapEntry),es[i]?=some e->∃ x,e.key=vS x/\x.size<=maxLen/\V x=some e.val/\e.born<clock) /\
  (∀ (i j:Nat) (e e':MapEntry),es[i]?=some e->es[j]?=some e'->i≠j->e.key≠e'.key/\e.born≠e'.born) /\
  (∀ x v,V x=some v->∃ (i:Nat) (e:MapEntry),es[i]?=some e/\e.key=vS x)
theorem VMap.made (w:World):VMap (w.alloc (.map #[] 0)) w.heap.size (fun _=>none) :=
 ⟨#[],0,heap_alloc_new w _,fun i e h=>by simp at h,fun i j e e' h=>by simp at h,fun x v h=>nomatch h⟩
theorem VMap.keep {w w':World} {M:Nat} {V:ByteArray->Option Value} (h:VMap w M V) (hM:w'.heap[M]?=w.heap[M]?):VMap w' M V:=by
 obtain ⟨es,clock,h1,h2⟩:=h
 exact ⟨es,clock,hM.trans h1,h2⟩
theorem VMap.lt {w:World} {M:Nat} {V:ByteArray->Option Value} (h:VMap w M V):M<w.heap.size:=by
 obtain ⟨es,clock,h1,_⟩:=h
 exact (gI h1).1
theorem VMap.congr {w:World} {M:Nat} {V V':ByteArray->Option Value} (h:VMap w M V) (e:∀ x,V x=V' x):VMap w M V':=by
 have:V=V':=funext e
 rw [<- this];exact h
theorem VMap.alloc {w:World} {M:Nat} {V:ByteArray->Option Value} (h:VMap w M V) (o:Obj):VMap (w.alloc o) M V:=h.keep (Below.heap_alloc w o M h.lt)
theorem vkeys {es:Array MapEntry} {clock:Nat} {V:ByteArray→Option Value} (h3:∀ (i:Nat) (e:MapEntry),es[i]?=some e→∃ x,e.key=.string x∧x.size≤maxLen∧V x=some e.val∧e.born<clock):∀ e∈es.toList,∃ l,keyOf Tryz.prog 9 e.key=some l:=by
 intro e he
 obtain ⟨i,hi⟩:=List.mem_iff_getElem?.1 he
 obtain ⟨x,k1,k2,_⟩:=h3 i e (by simpa using hi)
 rw [k1]
 exact ⟨_,str_key x k2⟩
theorem VMap.look {w:World} {M:Nat} {V:ByteArray→Option Value} (h:VMap w M V) {x:ByteArray} (hx:x.size≤maxLen) {t el:TypeId} {z:Value} (ht:Tryz.prog.underlying t=some (.map 9 el)) (hz:(zeroValue el).run Tryz.prog w=.ok z w) :
 (Instr.lookup t (.map (some M)) (.string x) false).run Tryz.prog w=.ok ((V x).getD z) w∧(Instr.lookup t (.map (some M)) (.string x) true).run Tryz.prog w=.ok (.tuple #[(V x).getD z,.bool (V x).isSome]) w:=by
 obtain ⟨es,clock,h1,h3,h4,h5⟩:=h
 have hk:=str_key x hx
 rcases strLaw.find w hk es.toList (vkeys h3) with ⟨f1,f2⟩ | ⟨j,e0,f1,f2,f3⟩
 · have hV:V x=none:=by
    cases hv:V x with
    | none=>rfl
    | some v =>
     obtain ⟨i,e,k1,k2⟩:=h5 x v hv
     exact absurd k2 (f2 e (List.mem_iff_getElem?.2 ⟨i,by simpa using k1⟩))
   constructor <;> simp [Instr.lookup,run_underlying ht,MapKept.run_getObj_map h1,strLaw.check w _ hk,f1,hz,Result.andThen,hV]
 · obtain ⟨y,k1,k2,k3,k4⟩:=h3 j e0 (by simpa using f2)
   have e:y=x:=by
    have:=k1.symm.trans f3
    simpa using this
   subst e
   constructor <;> simp [Instr.lookup,run_underlying ht,MapKept.run_getObj_map h1,strLaw.check w _ hk,f1,Result.andThen,k3]
def TurnedM (w w':World) (M:Nat):Prop:=w'.heap.size=w.heap.size/\(∀ c,c≠M->w'.heap[c]?=w.heap[c]?)/\w'.os=w.os/\w'.tape=w.tape/\w'.output=w.output
theorem turnedM_set {w:World} {M:Nat} {es:Array MapEntry} {clock:Nat} (h:w.heap[M]?=some (.map es clock)) (o:Obj):TurnedM w (ChangeMaps.setBlock w M o) M :=
 ⟨by simp [ChangeMaps.setBlock],fun c hc=>ChangeMaps.heap_setBlock_other h o hc,rfl,rfl,rfl⟩
theorem TurnedM.below {w w':World} {M B:Nat} (h:TurnedM w w' M) (hB:B<=M):Below B w w' :=
 ⟨by first | exact h.2.2.1 | exact h.1 | omega,by first | exact h.2.2.2.1 | (rw [h.1];exact Nat.le_refl _),by first | exact h.2.2.2.2 | exact fun b hb=>h.2.1 b (by omega),by first | (rw [h.1];exact Nat.le_refl _) | exact h.2.2.1,by first | exact fun b hb=>h.2.1 b (by omega) | exact h.2.2.2.2⟩
def putV (V:ByteArray->Option Value) (x:ByteArray) (v:Value):ByteArray->Option Value:=fun y=>if (y.toList == x.toList)=true then some v else V y
theorem putV_same (V:ByteArray->Option Value) (x:ByteArray) (v:Value):putV V x v x=some v:=by unfold putV;rw [if_pos (by simp)]
theorem putV_other (V:ByteArray->Option Value) {x y:ByteArray} (v:Value) (h:y≠x):putV V x v y=V y:=by unfold putV;rw [same_no h,if_neg (by simp)]
theorem VMap.put {w:World} {M:Nat} {V:ByteArray→Option Value} (h:VMap w M V) {x:ByteArray} (hx:x.size≤maxLen) (v:Value) {t el:TypeId} (ht:Tryz.prog.underlying t=some (.map 9 el)) :
 ∃ w',(Instr.mapUpdate t (.map (some M)) (.string x) v).run Tryz.prog w=.ok () w'∧VMap w' M (putV V x v)∧TurnedM w w' M:=by
 obtain ⟨es,clock,h1,h3,h4,h5⟩:=h
 have hk:=str_key x hx
 rcases strLaw.find w hk es.toList (vkeys h3) with ⟨f1,f2⟩ | ⟨j,e0,f1,f2,f3⟩
 · refine ⟨ChangeMaps.setBlock w M (.map (es.push { key:=.string x,val:=v,born:=clock }) (clock + 1)),?_,⟨_,_,ChangeMaps.heap_setBlock_same h1 _,?_,?_,?_⟩,turnedM_set h1 _⟩
   · simp [Instr.mapUpdate,run_underlying ht,MapKept.run_getObj_map h1,strLaw.check w _ hk,f1,MapKept.run_setObj_map _ h1,Result.andThen,ChangeMaps.setBlock]
   · intro i e he
     rw [Array.getElem?_push] at he
     split at he
     · cases he
       exact ⟨x,rfl,hx,putV_same _ _ _,Nat.lt_succ_self _⟩
     · obtain ⟨y,k1,k2,k3,k4⟩:=h3 i e he
       refine ⟨y,k1,k2,?_,by omega⟩
       rw [putV_other _ _ (fun e1=>f2 e (List.mem_iff_getElem?.2 ⟨i,by simpa using he⟩) (by rw [k1,e1]))]
       exact k3
   · intro i i' e e' he he' hne
     rw [Array.getElem?_push] at he he'
     split at he
     · split at he'
       · omega
       · cases he
         obtain ⟨y,k1,k2,k3,k4⟩:=h3 i' e' he'
         exact ⟨fun e1=>f2 e' (List.mem_iff_getElem?.2 ⟨i',by simpa using he'⟩) e1.symm,by simp only;omega⟩
     · split at he'
       · cases he'
         obtain ⟨y,k1,k2,k3,k4⟩:=h3 i e he
         exact ⟨fun e1=>f2 e (List.mem_iff_getElem?.2 ⟨i,by simpa using he⟩) e1,by simp only;omega⟩
       · exact h4 i i' e e' he he' hne
   · intro y u hy
     by_cases e:y=x
     · subst e
       exact ⟨es.size,{ key:=.string y,val:=v,born:=clock },by simp,rfl⟩
     · rw [putV_other _ _ e] at hy
       obtain ⟨i,e1,k1,k2⟩:=h5 y u hy
       exact ⟨i,e1,by rw [Array.getElem?_push,if_neg (by have:=(Array.getElem?_eq_some_iff.1 k1).1;omega)];exact k1,k2⟩
 · have f2':es[j]?=some e0:=by simpa using f2
   refine ⟨ChangeMaps.setBlock w M (.map (es.modify j fun e=>{ key:=.string x,val:=v,born:=e.born }) clock),?_,⟨_,_,ChangeMaps.heap_setBlock_same h1 _,?_,?_,?_⟩,turnedM_set h1 _⟩
   · simp [Instr.mapUpdate,run_underlying ht,MapKept.run_getObj_map h1,strLaw.check w _ hk,f1,f2',f3,strLaw.stays w hk,MapKept.run_setObj_map _ h1,Result.andThen,ChangeMaps.setBlock]
   · intro i e he
     rw [Array.getElem?_modify] at he
     by_cases hj:j=i
     · subst hj
       rw [if_pos rfl,f2'] at he
       simp at he
       subst he
       obtain ⟨y,k1,k2,k3,k4⟩:=h3 j e0 f2'
       have e1:y=x:=by
        have:=k1.symm.trans f3
        simpa using this
       subst e1
       exact ⟨y,rfl,k2,putV_same _ _ _,k4⟩
     · rw [if_neg hj] at he
       obtain ⟨y,k1,k2,k3,k4⟩:=h3 i e he
       refine ⟨y,k1,k2,?_,k4⟩
       rw [putV_other _ _ (fun e1=>(h4 j i e0 e f2' he hj).1 (by rw [f3,k1,e1]))]
       exact k3
   · intro i i' e e' he he' hne
     rw [Array.getElem?_modify] at he he'
     by_cases hj:j=i
     · subst hj
       rw [if_pos rfl,f2'] at he
       rw [if_neg hne] at he'
       simp at he
       subst he
       exact ⟨by rw [← f3];exact (h4 j i' e0 e' f2' he' hne).1,(h4 j i' e0 e' f2' he' hne).2⟩
     · rw [if_neg hj] at he
       by_cases hk':j=i'
       · subst hk'
         rw [if_pos rfl,f2'] at he'
         simp at he'
         subst he'
         exact ⟨by rw [← f3];exact (h4 i j e e0 he f2' hne).1,(h4 i j e e0 he f2' hne).2⟩
       · rw [if_neg hk'] at he'
         exact h4 i i' e e' he he' hne
   · intro y u hy
     by_cases e:y=x
     · subst e
       exact ⟨j,{ key:=.string y,val:=v,born:=e0.born },by rw [Array.getElem?_modify,if_pos rfl,f2'];rfl,rfl⟩
     · rw [putV_other _ _ e] at hy
       obtain ⟨i,e1,k1,k2⟩:=h5 y u hy
       have hj:j≠i:=by
        rintro rfl
        rw [f2'] at k1
        cases k1
        have:=k2.symm.trans f3
        exact e (by simpa using this)
       exact ⟨i,e1,by rw [Array.getElem?_modify,if_neg hj];exact k1,k2⟩
def VRng (w:World) (r M:Nat) (V:ByteArray->Option Value) (D:Value->Prop) (left:Nat):Prop :=
 ∃ es clock since seen c0,w.heap[M]?=some (.map es clock)/\w.heap[r]?=some (.mapIter (some M) since seen c0)/\(∀ x∈es.toList,x.born<since)/\since<=c0/\since<=clock/\(leftOf es seen).size=left /\
  (∀ e∈es.toList,∃ x,e.key=vS x/\V x=some e.val)/\(es.toList.map (·.born)).Nodup/\(∀ x v,V x=some v->∃ e∈es.toList,e.val=v)/\(∀ e∈es.toList,seen.contains e.born=true->D e.val)
theorem VRng.keep {w w':World} {r M:Nat} {V:ByteArray->Option Value} {D D':Value->Prop} {left:Nat} (h:VRng w r M V D left) (hM:w'.heap[M]?=w.heap[M]?) (hr:w'.heap[r]?=w.heap[r]?) (hD:∀ v,D v->D' v):VRng w' r M V D' left:=by
 obtain ⟨es,clock,since,seen,c0,h1,h2,h3,h4,h5,h6,h7,h8,h9,h10⟩:=h
 exact ⟨es,clock,since,seen,c0,hM.trans h1,hr.trans h2,h3,h4,h5,h6,h7,h8,h9,fun e he hs=>hD _ (h10 e he hs)⟩
theorem VRng.lt {w:World} {r M:Nat} {V:ByteArray->Option Value} {D:Value->Prop} {left:Nat} (h:VRng w r M V D left):M<w.heap.size/\r<w.heap.size/\r≠M:=by
 obtain ⟨es,clock,since,seen,c0,h1,h2,_⟩:=h
 refine ⟨(gI h1).1,(gI h2).1,fun e=>?_⟩
 rw [e,h1] at h2
 cases h2
theorem VMap.range {w:World} {M:Nat} {V:ByteArray->Option Value} (h:VMap w M V) {t el:TypeId} (ht:Tryz.prog.underlying t=some (.map 9 el)) (D:Value->Prop) :
 ∃ w' left,(Instr.range t (.map (some M))).run Tryz.prog w=.ok (vP w.heap.size 0) w'/\VRng w' w.heap.size M V D left/\w'.heap.size=w.heap.size + 1/\(∀ b,b<w.heap.size->w'.heap[b]?=w.heap[b]?)/\w'.os=w.os/\w'.tape=w.tape/\w'.output=w.output:=by
 have hlt:=h.lt
 obtain ⟨es,clock,h1,h3,h4,h5⟩:=h
 refine ⟨_,(leftOf es #[]).size,run_range_map w t 9 el M es clock ht h1,⟨es,clock,clock,#[],clock,(Below.heap_alloc w _ M hlt).trans h1,heap_alloc_new w _,fun e he=>?_,Nat.le_refl _,Nat.le_refl _,rfl,fun e he=>?_,?_,fun x v hv=>?_,fun e _ hs=>by simp at hs⟩,by simp,fun b hb=>Below.heap_alloc w _ b hb,rfl,rfl,rfl⟩
 · obtain ⟨i,hi⟩:=List.mem_iff_getElem?.1 he
   obtain ⟨x,k1,k2,k3,k4⟩:=h3 i e (by simpa using hi)
   exact k4
 · obtain ⟨i,hi⟩:=List.mem_iff_getElem?.1 he
   obtain ⟨x,k1,k2,k3,k4⟩:=h3 i e (by simpa using hi)
   exact ⟨x,k1,k3⟩
 · unfold List.Nodup
   rw [List.pairwise_map,List.pairwise_iff_getElem]
   intro i j hi hj hij
   have hi':i<es.size:=by simpa using hi
   have hj':j<es.size:=by simpa using hj
   have:=(h4 i j es[i] es[j] (Array.getElem?_eq_getElem hi') (Array.getElem?_eq_getElem hj') (by omega)).2
   simpa using this
 · obtain ⟨i,e,k1,k2⟩:=h5 x v hv
   obtain ⟨y,q1,q2,q3,q4⟩:=h3 i e k1
   have e1:y=x:=by
    have:=q1.symm.trans k2
    simpa using this
   subst e1
   rw [hv] at q3
   exact ⟨e,List.mem_iff_getElem?.2 ⟨i,by simpa using k1⟩,(Option.some.inj q3).symm⟩
theorem VRng.next {w:World} {r M:Nat} {V:ByteArray->Option Value} {D:Value->Prop} {left:Nat} (h:VRng w r M V D left) (ty:TypeId) :
 ((∀ x v,V x=some v->D v)/\(Instr.next (vP r 0) false ty).run Tryz.prog w=.ok (.tuple #[.bool false]) w) \/
 ∃ x v w1 left',V x=some v/\(Instr.next (vP r 0) false ty).run Tryz.prog w=.ok (.tuple #[.bool true,vS x,v]) w1/\(Instr.entry (vP r 0)).run Tryz.prog w1=.ok (.tuple #[vS x,v]) w1/\left'<left/\VRng w1 r M V (fun u=>D u\/u=v) left'/\TurnedM w w1 r:=by
 have hne:=h.lt.2.2
 obtain ⟨es,clock,since,seen,c0,h1,h2,h3,h4,h5,h6,h7,h8,h9,h10⟩:=h
 rcases run_next_at (P:=Tryz.prog) w ty r M since c0 seen es clock h2 h1 h3 h4 with ⟨h0,hrun⟩ | ⟨e,he,w1,hal,hrun⟩
 · refine .inl ⟨fun x v hv=>?_,hrun⟩
   obtain ⟨e,he,rfl⟩:=h9 x v hv
   exact h10 e he (all_seen es seen h0 e he)
 · obtain ⟨hem,hes⟩:=mem_left he
   obtain ⟨x,k1,k2⟩:=h7 e hem
   have hr1:w1.heap[r]?=some (.mapIter (some M) since seen c0):=by rcases hal with rfl | rfl <;> exact h2
   have hM1:w1.heap[M]?=some (.map es clock):=by rcases hal with rfl | rfl <;> exact h1
   have hlt:r<w1.heap.size:=(gI hr1).1
   have hset:(ChangeMaps.setBlock w1 r (.mapIter (some M) since (seen.push e.born) clock)).heap[r]?=some (.mapIter (some M) since (seen.push e.born) clock):=by
    simp [ChangeMaps.setBlock,hlt]
   have hoth:∀ c,c≠r->(ChangeMaps.setBlock w1 r (.mapIter (some M) since (seen.push e.born) clock)).heap[c]?=w1.heap[c]?:=fun c hc=>by
    simp [ChangeMaps.setBlock,Ne.symm hc]
   have hM2:=(hoth M (fun e=>hne e.symm)).trans hM1
   refine .inr ⟨x,e.val,_,_,k2,by rw [<- k1];exact hrun,?_,by rw [<- h6];exact left_shrinks es seen e he,⟨es,clock,since,seen.push e.born,clock,hM2,hset,h3,h5,h5,rfl,h7,h8,h9,fun e' he' hs=>?_⟩,?_⟩
   · rw [<- k1]
     exact run_entry_at _ r M since seen es clock e hset hM2 hem h8
   · rw [Array.contains_push] at hs
     simp only [Bool.or_eq_true,beq_iff_eq] at hs
     rcases hs with hs | hs
     · exact .inl (h10 e' he' hs)
     · exact .inr (by rw [born_inj h8 he' hem (by first | exact hs | exact hs.symm)])
   · rcases hal with rfl | rfl
     · exact ⟨by simp [ChangeMaps.setBlock],hoth,rfl,rfl,rfl⟩
     · exact ⟨by simp [ChangeMaps.setBlock],fun c hc=>(hoth c hc).trans rfl,rfl,rfl,rfl⟩
open Go.RowKit Go.WideShapes
theorem wpList_vput {ops:Array Oper} {rest:List Oper} {o:Oper} {a:Act} {w:World} {Q:Exit->Act->World->Prop} (hgd:o.guard=none) (m x y:Operand) (t el:TypeId) (hop:o.op=Op.mapUpdate t m x y) (ht:Tryz.prog.underlying t=some (.map 9 el))
 (M:Nat) (V:ByteArray->Option Value) (k:ByteArray) (v:Value) (hm:a.eval m=.map (some M)) (hx:a.eval x=vS k) (hy:a.eval y=v) (hk:k.size<=maxLen) (hV:VMap w M V)
 (h:∀ w',VMap w' M (putV V k v)->TurnedM w w' M->wpList Tryz.prog ops Q rest (a.put o.dst undef) w'):wpList Tryz.prog ops Q (o :: rest) a w :=
 wpList_plain hgd fun _ hK=>by
  obtain ⟨w',h1,h2,h3⟩:=hV.put hk v ht
  unfold Oper.wp
  simp [execOp,hop,hm,hx,hy,h1,Result.andThen]
  exact hK _ _ (h w' h2 h3)
theorem wpList_vins {ops:Array Oper} {rest:List Oper} {o:Oper} {a:Act} {w:World} {Q:Exit->Act->World->Prop} (hgd:o.guard=none) (m x y:Operand) (t el:TypeId) (hop:o.op=Op.insert t m x y) (ht:Tryz.prog.underlying t=some (.map 9 el))
 (M:Nat) (V:ByteArray->Option Value) (k:ByteArray) (v:Value) (hm:a.eval m=.map (some M)) (hx:a.eval x=vS k) (hy:a.eval y=v) (hk:k.size<=maxLen) (hV:VMap w M V)
 (h:∀ w',VMap w' M (putV V k v)->TurnedM w w' M->wpList Tryz.prog ops Q rest (a.put o.dst undef) w'):wpList Tryz.prog ops Q (o :: rest) a w :=
 wpList_plain hgd fun _ hK=>by
  obtain ⟨w',h1,h2,h3⟩:=hV.put hk v ht
  unfold Oper.wp
  simp [execOp,hop,hm,hx,hy,h1,Result.andThen]
  exact hK _ _ (h w' h2 h3)
theorem wpList_vlook {ops:Array Oper} {rest:List Oper} {o:Oper} {a:Act} {w:World} {Q:Exit->Act->World->Prop} (hgd:o.guard=none) (m x:Operand) (t el:TypeId) (z:Value) (hop:o.op=Op.lookup t m x false) (ht:Tryz.prog.underlying t=some (.map 9 el)) (hz:(zeroValue el).run Tryz.prog w=.ok z w)
 (M:Nat) (V:ByteArray->Option Value) (k:ByteArray) (hm:a.eval m=.map (some M)) (hx:a.eval x=vS k) (hk:k.size<=maxLen) (hV:VMap w M V)
 (h:wpList Tryz.prog ops Q rest (a.put o.dst ((V k).getD z)) w):wpList Tryz.prog ops Q (o :: rest) a w :=
 wpList_plain hgd fun _ hK=>by
  have h1:=(hV.look hk ht hz).1
  unfold Oper.wp
  simp [execOp,hop,hm,hx,h1,Result.andThen]
  exact hK _ _ h
def TxtsL (w:World) (v:Value) (L:List ByteArray):Prop :=
 ∃ b off cap,v=vL b off L.length cap/\L.length<=cap/\cap<=maxLen/\b<w.heap.size/\∀ i (h:i<L.length),w.cell? ⟨b,off + i,none⟩=some (vS L[i])
theorem txts_lit (w:World) (L:List ByteArray) (hL:L.length<=maxLen):TxtsL (w.alloc (.cells (L.map Value.string).toArray 9)) (vL w.heap.size 0 L.length L.length) L :=
 ⟨w.heap.size,0,L.length,rfl,Nat.le_refl _,hL,by simp,fun i h=>by rw [show (0 + i)=i by omega,Lib.cell_of_heap (heap_alloc_new w _) i];simp [h]⟩
theorem TxtsL.keep {w w':World} {v:Value} {L:List ByteArray} (h:TxtsL w v L) (hs:w.heap.size<=w'.heap.size) (hb:∀ n c b off,v=vL b off n c->w'.heap[b]?=w.heap[b]?):TxtsL w' v L:=by
 obtain ⟨b,off,cap,h1,h2,h3,h4,h5⟩:=h
 exact ⟨b,off,cap,h1,h2,h3,by omega,fun i hi=>by rw [<- h5 i hi];unfold World.cell?;rw [hb _ _ _ _ h1]⟩
def fV (x:ByteArray) (a:Int):Value:=.agg #[vS x,vI a]
def putLL (V:ByteArray->Option Value) (a:Int) (L:List ByteArray):ByteArray->Option Value:=L.foldl (fun V x=>putV V x (fV x a)) V
theorem putLL_take {V:ByteArray->Option Value} {a:Int} {L:List ByteArray} {k:Nat} (h:k<L.length):putLL V a (L.take (k + 1))=putV (putLL V a (L.take k)) L[k] (fV L[k] a):=by
 unfold putLL
 rw [List.take_succ_eq_append_getElem h,List.foldl_append]
 rfl
theorem add_is (M:Nat) (V:ByteArray->Option Value) (L:List ByteArray) (v:Value) (a:Int) (w:World) (hV:VMap w M V) (hv:TxtsL w v L) (hL:∀ x∈L,x.size<=maxLen) :
 Calls Tryz.prog 31 #[.map (some M),vI a,v] w fun e w'=>e=.returned (.tuple #[])/\VMap w' M (putLL V a L)/\TurnedM w w' M:=by
 obtain ⟨b,off,cap,rfl,hlc,hcm,hbw,hcells⟩:=hv
 have hbM:0<L.length->b≠M:=fun h0 e=>by
  obtain ⟨es,clock,h1,_⟩:=hV
  have:=hcells 0 h0
  subst e
  simp [World.cell?,h1] at this
 have HC:Hid (∀ i (h:i<L.length),w.cell? ⟨b,off + i,none⟩=some (vS L[i])):=hcells
 have HV:Hid (VMap w M V):=hV
 have HL:Hid (∀ x∈L,x.size<=maxLen):=hL
 unfold maxLen at hcm
 clear hcells hV hL
 go_enter Tryz.func31,Tryz.ntmps31
 go_wp2
 go_loopw [10] (fun i wr=>∃ k:Nat,k<=L.length/\i=vI k/\VMap wr M (putLL V a (L.take k))/\TurnedM w wr M) (fun i _=>L.length - (intOf i).toNat)
 case atStart=>exact ⟨0,Nat.zero_le _,rfl,HV.out,rfl,fun _ _=>rfl,rfl,rfl,rfl⟩
 case round =>
  obtain ⟨k,hk,rfl,hvm,htm⟩:=hrel
  by_cases hlt:k<L.length
  · have hii:(k:Int)<(L.length:Int):=by omega
    have hc:wr.cell? ⟨b,off + k,none⟩=some (vS L[k]):=by
     rw [<- HC.out k hlt];unfold World.cell?;rw [htm.2.1 b (hbM (by omega))]
    have hs:=HL.out L[k] (List.getElem_mem _)
    have HVM:Hid (VMap wr M (putLL V a (L.take k))):=hvm
    have HTM:Hid (TurnedM w wr M):=htm
    have HPL:Hid (putLL V a (L.take (k + 1))=putV (putLL V a (L.take k)) L[k] (fV L[k] a)):=putLL_take hlt
    generalize L[k]=x at *
    clear hvm htm
    go_wp2_with (refine wpList_vput rfl (.tmp 14) (.tmp 15) (.tmp 18) 55 81 rfl Tryz.underlying55 M _ x (fV x a) rfl rfl rfl hs HVM.out ?_;intro w1 hv1 ht1;have HV1:Hid (VMap w1 M (putV (putLL V a (L.take k)) x (fV x a))):=hv1;have HT1:Hid (TurnedM wr w1 M):=ht1;clear hv1 ht1)
    go_roundw
    case rel=>exact ⟨k + 1,by omega,by go_num,by rw [HPL.out];exact HV1.out,HT1.out.1.trans HTM.out.1,fun c hc=>(HT1.out.2.1 c hc).trans (HTM.out.2.1 c hc),HT1.out.2.2.1.trans HTM.out.2.2.1,HT1.out.2.2.2.1.trans HTM.out.2.2.2.1,HT1.out.2.2.2.2.trans HTM.out.2.2.2.2⟩
    case measure=>simp [intOf];omega
  · have e:k=L.length:=by omega
    subst e
    rw [List.take_length] at hvm
    have HVM:Hid (VMap wr M (putLL V a L)):=hvm
    have HTM:Hid (TurnedM w wr M):=htm
    clear hvm htm
    go_wp2
    go_end0
    exact ⟨rfl,HVM.out,HTM.out⟩
open Go.RowKit Go.WideShapes
def cL1:List ByteArray:=[⟨#[99,111,117,110,116]⟩,⟨#[101,109,112,116,121]⟩,⟨#[101,120,105,115,116,115]⟩,⟨#[110,111,116]⟩,⟨#[98,111,111,108,101,97,110]⟩,⟨#[115,117,109]⟩,⟨#[109,105,110]⟩,⟨#[109,97,120]⟩,⟨#[114,101,118,101,114,115,101]⟩,⟨#[115,116,114,105,110,103]⟩,⟨#[100,97,116,97]⟩,⟨#[105,110,116,101,103,101,114]⟩,⟨#[110,97,109,101]⟩]
def cL2:List ByteArray:=[⟨#[99,111,110,99,97,116]⟩,⟨#[99,111,110,116,97,105,110,115]⟩]
def cL3:List ByteArray:=[⟨#[115,117,98,115,116,114,105,110,103]⟩]
def callsV0:ByteArray->Option Value:=putV (putV (putV (fun _=>none) ⟨#[100,105,115,116,105,110,99,116,45,118,97,108,117,101,115]⟩ (fV ⟨#[100,105,115,116,105,110,99,116]⟩ 1)) ⟨#[115,116,114,105,110,103,45,108,101,110,103,116,104]⟩ (fV ⟨#[108,101,110,103,116,104]⟩ 1)) ⟨#[115,116,97,114,116,115,45,119,105,116,104]⟩ (fV ⟨#[115,116,97,114,116,115]⟩ 2)
def callsV:ByteArray->Option Value:=putLL (putLL (putLL callsV0 1 cL1) 2 cL2) 3 cL3
def oL1:List ByteArray:=[⟨#[43]⟩,⟨#[45]⟩,⟨#[42]⟩,⟨#[100,105,118]⟩,⟨#[109,111,100]⟩,⟨#[61]⟩,⟨#[33,61]⟩,⟨#[60]⟩,⟨#[60,61]⟩,⟨#[62]⟩,⟨#[62,61]⟩,⟨#[105,115]⟩,⟨#[60,60]⟩,⟨#[62,62]⟩]
def oL2:List ByteArray:=[⟨#[97,110,100]⟩,⟨#[111,114]⟩,⟨#[116,111]⟩,⟨#[117,110,105,111,110]⟩,⟨#[105,110,116,101,114,115,101,99,116]⟩,⟨#[101,120,99,101,112,116]⟩]
def opersV0:ByteArray->Option Value:=putV (fun _=>none) ⟨#[124]⟩ (fV ⟨#[117,110,105,111,110]⟩ 2)
def opersV:ByteArray->Option Value:=putLL (putLL opersV0 2 oL1) 2 oL2
theorem lits_small {L:List ByteArray} (h:L.all (fun x=>decide (x.size<=20))=true):∀ x∈L,x.size<=maxLen:=fun x hx=>by
 have:=of_decide_eq_true (List.all_eq_true.1 h x hx)
 unfold maxLen
 omega
theorem TurnedM.refl (w:World) (M:Nat):TurnedM w w M:=⟨rfl,fun _ _=>rfl,rfl,rfl,rfl⟩
theorem below_new {B:Nat} {w w':World} (h:Below B w w') (hB:B<=w.heap.size) (o:Obj):Below B w (w'.alloc o):=h.alloc (Nat.le_trans hB h.size) o
theorem calls_is (w:World):Calls Tryz.prog 22 #[] w fun e w'=>e=.returned (.map (some w.heap.size))/\VMap w' w.heap.size callsV/\Below w.heap.size w w':=by
 have HV0:Hid (VMap (w.alloc (.map #[] 0)) w.heap.size (fun _=>none)):=VMap.made w
 have HB0:Hid (Below w.heap.size w (w.alloc (.map #[] 0))):=(Below.refl _ _).alloc (Nat.le_refl _) _
 have HA:Hid (∀ (W:World) V L v a,VMap W w.heap.size V->TxtsL W v L->(∀ x∈L,x.size<=maxLen)->Calls Tryz.prog 31 #[.map (some w.heap.size),vI a,v] W fun e w'=>e=.returned (.tuple #[])/\VMap w' w.heap.size (putLL V a L)/\TurnedM W w' w.heap.size):=fun W V L v a h1 h2 h3=>add_is _ V L v a W h1 h2 h3
 have hmm:=@run_makeMap Tryz.prog
 go_enter Tryz.func22,Tryz.ntmps22
 go_wp2_with (first
  | (refine wpList_vins rfl _ _ (.tmp 3) 55 81 rfl Tryz.underlying55 w.heap.size _ _ _ rfl rfl rfl (by decide) HV0.out ?_;intro w1 hv1 ht1;have HV1:Hid (VMap w1 w.heap.size _):=hv1;have HB1:Hid (Below w.heap.size w w1):=HB0.out.trans (ht1.below (Nat.le_refl _));clear hv1 ht1 HV0 HB0)
  | (refine wpList_vins rfl _ _ (.tmp 4) 55 81 rfl Tryz.underlying55 w.heap.size _ _ _ rfl rfl rfl (by decide) HV1.out ?_;intro w2 hv2 ht2;have HV2:Hid (VMap w2 w.heap.size _):=hv2;have HB2:Hid (Below w.heap.size w w2):=HB1.out.trans (ht2.below (Nat.le_refl _));clear hv2 ht2 HV1 HB1)
  | (refine wpList_vins rfl _ _ (.tmp 5) 55 81 rfl Tryz.underlying55 w.heap.size _ _ _ rfl rfl rfl (by decide) HV2.out ?_;intro w3 hv3 ht3;have HV3:Hid (VMap w3 w.heap.size callsV0):=hv3;have HB3:Hid (Below w.heap.size w w3):=HB2.out.trans (ht3.below (Nat.le_refl _));have hz3:=HB3.out.size;clear hv3 ht3 HV2 HB2)
  | (go_at_call 31;refine (HA.out _ _ cL1 _ _ (HV3.out.alloc _) (txts_lit w3 cL1 (by decide)) (lits_small (by decide))).mono ?_;rintro e w4 ⟨rfl,hv4,ht4⟩;have HV4:Hid (VMap w4 w.heap.size (putLL callsV0 1 cL1)):=hv4;have HB4:Hid (Below w.heap.size w w4):=(below_new HB3.out (Nat.le_refl _) _).trans (ht4.below (Nat.le_refl _));clear hv4 ht4 HV3 HB3 hz3)
  | (go_at_call 31;refine (HA.out _ _ cL2 _ _ (HV4.out.alloc _) (txts_lit w4 cL2 (by decide)) (lits_small (by decide))).mono ?_;rintro e w5 ⟨rfl,hv5,ht5⟩;have HV5:Hid (VMap w5 w.heap.size (putLL (putLL callsV0 1 cL1) 2 cL2)):=hv5;have HB5:Hid (Below w.heap.size w w5):=(below_new HB4.out (Nat.le_refl _) _).trans (ht5.below (Nat.le_refl _));clear hv5 ht5 HV4 HB4)
  | (go_at_call 31;refine (HA.out _ _ cL3 _ _ (HV5.out.alloc _) (txts_lit w5 cL3 (by decide)) (lits_small (by decide))).mono ?_;rintro e w6 ⟨rfl,hv6,ht6⟩;have HV6:Hid (VMap w6 w.heap.size callsV):=hv6;have HB6:Hid (Below w.heap.size w w6):=(below_new HB5.out (Nat.le_refl _) _).trans (ht6.below (Nat.le_refl _));clear hv6 ht6 HV5 HB5))
 go_ret
 exact ⟨rfl,HV6.out,HB6.out⟩
theorem operators_is (w:World):Calls Tryz.prog 23 #[] w fun e w'=>e=.returned (.map (some w.heap.size))/\VMap w' w.heap.size opersV/\Below w.heap.size w w':=by
 have HV0:Hid (VMap (w.alloc (.map #[] 0)) w.heap.size (fun _=>none)):=VMap.made w
 have HB0:Hid (Below w.heap.size w (w.alloc (.map #[] 0))):=(Below.refl _ _).alloc (Nat.le_refl _) _
 have HA:Hid (∀ (W:World) V L v a,VMap W w.heap.size V->TxtsL W v L->(∀ x∈L,x.size<=maxLen)->Calls Tryz.prog 31 #[.map (some w.heap.size),vI a,v] W fun e w'=>e=.returned (.tuple #[])/\VMap w' w.heap.size (putLL V a L)/\TurnedM W w' w.heap.size):=fun W V L v a h1 h2 h3=>add_is _ V L v a W h1 h2 h3
 have hmm:=@run_makeMap Tryz.prog
 go_enter Tryz.func23,Tryz.ntmps23
 go_wp2_with (first
  | (refine wpList_vins rfl _ _ (.tmp 3) 55 81 rfl Tryz.underlying55 w.heap.size _ _ _ rfl rfl rfl (by decide) HV0.out ?_;intro w3 hv3 ht3;have HV3:Hid (VMap w3 w.heap.size opersV0):=hv3;have HB3:Hid (Below w.heap.size w w3):=HB0.out.trans (ht3.below (Nat.le_refl _));clear hv3 ht3 HV0 HB0)
  | (go_at_call 31;refine (HA.out _ _ oL1 _ _ (HV3.out.alloc _) (txts_lit w3 oL1 (by decide)) (lits_small (by decide))).mono ?_;rintro e w4 ⟨rfl,hv4,ht4⟩;have HV4:Hid (VMap w4 w.heap.size (putLL opersV0 2 oL1)):=hv4;have HB4:Hid (Below w.heap.size w w4):=(below_new HB3.out (Nat.le_refl _) _).trans (ht4.below (Nat.le_refl _));clear hv4 ht4 HV3 HB3)
  | (go_at_call 31;refine (HA.out _ _ oL2 _ _ (HV4.out.alloc _) (txts_lit w4 oL2 (by decide)) (lits_small (by decide))).mono ?_;rintro e w6 ⟨rfl,hv6,ht6⟩;have HV6:Hid (VMap w6 w.heap.size opersV):=hv6;have HB6:Hid (Below w.heap.size w w6):=(below_new HB4.out (Nat.le_refl _) _).trans (ht6.below (Nat.le_refl _));clear hv6 ht6 HV4 HB4))
 go_ret
 exact ⟨rfl,HV6.out,HB6.out⟩
open Go.RowKit
theorem inBounds_any (n:Int) (w:World) :
 Calls Tryz.prog 154 #[vI n] w fun e w'=>e=.returned (.bool (inB n (-1099511627776) 1099511627776))/\w'=w:=by
 go_enter Tryz.func154,Tryz.ntmps154
 go_wp2
 all_goals
  go_ret
  refine ⟨ret_bool ?_,rfl⟩
  simp_all [inB] <;> omega
theorem mayBe_any (k n:Int) (s:ByteArray) (w:World) (hs:s.size<=maxLen) (hT:Tabs w) :
 Calls Tryz.prog 136 #[.agg #[vI k,vI n,vS s]] w fun e w'=>e=.returned (.bool (mayI ⟨k,n,s⟩))/\Below w.heap.size w w':=by
 have CL:Hid (∀ o,Calls Tryz.prog 77 #[vS s] (w.alloc o) fun e w'=>e=.returned (vI (textF s))/\Below (w.alloc o).heap.size (w.alloc o) w') :=
  fun o=>checkText_any s _ hs (Utf8Tabs_below hT ((Below.refl _ _).alloc (Nat.le_refl _) _))
 have HK:Hid (mayI ⟨k,n,s⟩=if k=1 then decide (s.size=0/\0<=n/\n<100000) else if k=2 then decide (s.size=0/\-1099511627776<=n/\n<=1099511627776) else if k=3 then decide (n=0/\textF s=0) else if k=4 then decide (s.size=0/\(n=0\/n=1)) else false):=rfl
 generalize mayI ⟨k,n,s⟩=R at HK
 clear hT hs
 by_cases k3:k=3
 · subst k3
   have HF:Hid (R=decide (n=0/\textF s=0)):=HK.out
   clear HK
   generalize textF s=B at *
   by_cases hn:n=0
   · subst hn
     by_cases hb:B=0
     · subst hb
       have HR:Hid (R=true):=HF.out.trans (decide_eq_true ⟨rfl,rfl⟩)
       clear HF
       go_enter Tryz.func136,Tryz.ntmps136
       go_wp2_with (first | (go_at_call 77;refine (CL.out _).mono ?_;rintro e w2 ⟨rfl,hb⟩))
       go_ret
       exact ⟨ret_bool HR.out.symm,((Below.refl _ _).alloc (Nat.le_refl _) _).trans (hb.mono (by simp))⟩
     · have HR:Hid (R=false):=HF.out.trans (decide_eq_false (fun h=>hb h.2))
       have hb':(B == 0)=false:=by simpa using hb
       clear HF hb
       go_enter Tryz.func136,Tryz.ntmps136
       go_wp2_with (first | (go_at_call 77;refine (CL.out _).mono ?_;rintro e w2 ⟨rfl,hb⟩))
       go_ret
       exact ⟨ret_bool HR.out.symm,((Below.refl _ _).alloc (Nat.le_refl _) _).trans (hb.mono (by simp))⟩
   · have HR:Hid (R=false):=HF.out.trans (decide_eq_false (fun h=>hn h.1))
     have hn':(n == 0)=false:=by simpa using hn
     clear HF hn
     go_enter Tryz.func136,Tryz.ntmps136
     go_wp2
     go_ret
     exact ⟨ret_bool HR.out.symm,(Below.refl _ _).alloc (Nat.le_refl _) _⟩
 clear CL
 by_cases k1:k=1
 · subst k1
   have HF:Hid (R=decide (s.size=0/\0<=n/\n<100000)):=HK.out
   clear HK k3
   by_cases hz:s.size=0
   · have he:=isEmpty_yes hz
     have HR:Hid (R=decide (0<=n/\n<100000)):=HF.out.trans (decide_eq_decide.2 ⟨fun h=>h.2,fun h=>⟨hz,h⟩⟩)
     clear HF hz
     go_enter Tryz.func136,Tryz.ntmps136
     go_wp2
     all_goals
      go_ret
      refine ⟨ret_bool ?_,(Below.refl _ _).alloc (Nat.le_refl _) _⟩
      rw [HR.out,Bool.eq_iff_iff]
      simp <;> omega
   · have he:=isEmpty_no hz
     have HR:Hid (R=false):=HF.out.trans (decide_eq_false (fun h=>hz h.1))
     clear HF hz
     go_enter Tryz.func136,Tryz.ntmps136
     go_wp2
     go_ret
     exact ⟨ret_bool HR.out.symm,(Below.refl _ _).alloc (Nat.le_refl _) _⟩
 by_cases k2:k=2
 · subst k2
   have HF:Hid (R=decide (s.size=0/\-1099511627776<=n/\n<=1099511627776)):=HK.out
   clear HK k3 k1
   by_cases hz:s.size=0
   · have he:=isEmpty_yes hz
     have HR:Hid (R=inB n (-1099511627776) 1099511627776):=HF.out.trans (decide_eq_decide.2 ⟨fun h=>h.2,fun h=>⟨hz,h⟩⟩)
     clear HF hz
     go_enter Tryz.func136,Tryz.ntmps136
     go_wp2_with (first | (go_at_call 154;refine (inBounds_any _ _).mono ?_;rintro e w2 ⟨rfl,rfl⟩))
     go_ret
     exact ⟨ret_bool HR.out.symm,(Below.refl _ _).alloc (Nat.le_refl _) _⟩
   · have he:=isEmpty_no hz
     have HR:Hid (R=false):=HF.out.trans (decide_eq_false (fun h=>hz h.1))
     clear HF hz
     go_enter Tryz.func136,Tryz.ntmps136
     go_wp2
     go_ret
     exact ⟨ret_bool HR.out.symm,(Below.refl _ _).alloc (Nat.le_refl _) _⟩
 by_cases k4:k=4
 · subst k4
   have HF:Hid (R=decide (s.size=0/\(n=0\/n=1))):=HK.out
   clear HK k3 k1 k2
   by_cases hz:s.size=0
   · have he:=isEmpty_yes hz
     have HR:Hid (R=decide (n=0\/n=1)):=HF.out.trans (decide_eq_decide.2 ⟨fun h=>h.2,fun h=>⟨hz,h⟩⟩)
     clear HF hz
     by_cases h0:n=0
     · subst h0
       go_enter Tryz.func136,Tryz.ntmps136
       go_wp2
       go_ret
       exact ⟨ret_bool HR.out.symm,(Below.refl _ _).alloc (Nat.le_refl _) _⟩
     · have h0':(n == 0)=false:=by simpa using h0
       have HR':Hid (R=(n == 1)):=HR.out.trans (by rw [Bool.eq_iff_iff];simp [h0])
       clear h0 HR
       go_enter Tryz.func136,Tryz.ntmps136
       go_wp2
       all_goals
        go_ret
        refine ⟨ret_bool ?_,(Below.refl _ _).alloc (Nat.le_refl _) _⟩
        first | exact HR'.out.symm | (rw [HR'.out];simp_all)
   · have he:=isEmpty_no hz
     have HR:Hid (R=false):=HF.out.trans (decide_eq_false (fun h=>hz h.1))
     clear HF hz
     go_enter Tryz.func136,Tryz.ntmps136
     go_wp2
     go_ret
     exact ⟨ret_bool HR.out.symm,(Below.refl _ _).alloc (Nat.le_refl _) _⟩
 · have HR:Hid (R=false):=by
    have e:R=false:=by rw [HK.out,if_neg k1,if_neg k2,if_neg k3,if_neg k4]
    exact e
   have c1:(k == 1)=false:=by simpa using k1
   have c2:(k == 2)=false:=by simpa using k2
   have c3:(k == 3)=false:=by simpa using k3
   have c4:(k == 4)=false:=by simpa using k4
   clear HK k1 k2 k3 k4
   go_enter Tryz.func136,Tryz.ntmps136
   go_wp2
   go_ret
   exact ⟨ret_bool HR.out.symm,(Below.refl _ _).alloc (Nat.le_refl _) _⟩
open Go.RowKit
def itemF (x:It):Int:=if mayI x=true then 0 else 12
theorem checkItem_any (k n:Int) (s:ByteArray) (w:World) (hs:s.size<=maxLen) (hT:Tabs w) :
 Calls Tryz.prog 108 #[.agg #[vI k,vI n,vS s]] w fun e w'=>e=.returned (vI (itemF ⟨k,n,s⟩))/\Below w.heap.size w w':=by
 have CM:Hid (∀ o,Calls Tryz.prog 136 #[.agg #[vI k,vI n,vS s]] (w.alloc o) fun e w'=>e=.returned (.bool (mayI ⟨k,n,s⟩))/\Below (w.alloc o).heap.size (w.alloc o) w') :=
  fun o=>mayBe_any k n s _ hs (Utf8Tabs_below hT ((Below.refl _ _).alloc (Nat.le_refl _) _))
 have HF:Hid (itemF ⟨k,n,s⟩=if mayI ⟨k,n,s⟩=true then 0 else 12):=rfl
 generalize itemF ⟨k,n,s⟩=F at *
 generalize mayI ⟨k,n,s⟩=M at *
 clear hT hs
 cases M
 all_goals
  go_enter Tryz.func108,Tryz.ntmps108
  go_wp2_with (first | (go_at_call 136;refine (CM.out _).mono ?_;rintro e w2 ⟨rfl,hb⟩))
  go_ret
  exact ⟨ret_int (by rw [HF.out];rfl),((Below.refl _ _).alloc (Nat.le_refl _) _).trans (hb.mono (by simp))⟩
end Go.Proofs.YtmcmbdkpfcibkaaGreatDoor
