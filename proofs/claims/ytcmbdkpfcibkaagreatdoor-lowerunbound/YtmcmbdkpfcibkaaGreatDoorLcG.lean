import Derived.Test.YtmcmbdkpfcibkaaGreatDoorLxE
import Derived.Test.YtmcmbdkpfcibkaaGreatDoorRgIn
set_option linter.unusedVariables false
namespace Go.Proofs.YtmcmbdkpfcibkaaGreatDoor
set_option maxRecDepth 100000
open Go.RowKit Go.WideShapes Go.Shelf
attribute [local go_sem] Oper.semAt_some
def one (b:Bool):Nat:=if b then 1 else 0
theorem one_le (b:Bool):one b<=1:=by cases b <;> decide
theorem box1 {w:World} {b:Nat} {x:Value} {T:TypeId} (h:w.heap[b]?=some (.cells #[x] T)):w.cell? ⟨b,0,none⟩=some x:=by rw [Lib.cell_of_heap h];rfl
theorem bk12 {w:World} {b:Nat} {x0 x1 x2 x3 x4 x5 x6 x7 x8 x9 x10 x11:Value} {T:TypeId} (h:w.heap[b]?=some (.cells #[x0,x1,x2,x3,x4,x5,x6,x7,x8,x9,x10,x11] T)):w.cell? ⟨b,0,none⟩=some x0/\w.cell? ⟨b,1,none⟩=some x1/\w.cell? ⟨b,2,none⟩=some x2/\w.cell? ⟨b,3,none⟩=some x3/\w.cell? ⟨b,4,none⟩=some x4/\w.cell? ⟨b,5,none⟩=some x5/\w.cell? ⟨b,6,none⟩=some x6/\w.cell? ⟨b,7,none⟩=some x7/\w.cell? ⟨b,8,none⟩=some x8/\w.cell? ⟨b,9,none⟩=some x9/\w.cell? ⟨b,10,none⟩=some x10/\w.cell? ⟨b,11,none⟩=some x11 :=
 ⟨by rw [Lib.cell_of_heap h];rfl,by rw [Lib.cell_of_heap h];rfl,by rw [Lib.cell_of_heap h];rfl,by rw [Lib.cell_of_heap h];rfl,by rw [Lib.cell_of_heap h];rfl,by rw [Lib.cell_of_heap h];rfl,by rw [Lib.cell_of_heap h];rfl,by rw [Lib.cell_of_heap h];rfl,by rw [Lib.cell_of_heap h];rfl,by rw [Lib.cell_of_heap h];rfl,by rw [Lib.cell_of_heap h];rfl,by rw [Lib.cell_of_heap h];rfl⟩
theorem cells_kept {X Y:World} {row:Option Nat} {B b:Nat} {cs:Array Value} {T:TypeId} (h:X.heap[b]?=some (.cells cs T)) (hg:X.grownBy Y row) (hr:∀ r,row=some r->B<=r/\∃ o:Obj,X.heap[r]?=some o/\o.isCells=false):Y.heap[b]?=some (.cells cs T) :=
 (hg.block b (gI h).1 (fun e=>by obtain ⟨_,o,ho,hc⟩:=hr b e.symm;rw [h] at ho;cases ho;cases hc)).trans h
def AroI (lb:Nat) (m1 m2 m3:Value) (p:Nat) (cv:CV) (k2:Int) (i2:It) (nm2 at2:ByteArray) (g2 ax2 tk2:Int) (tn2:ByteArray) (aa2:Option Addr) (am2 ac2:Nat) (w W0:World) (pre:List Nat) (W:World):Prop :=
 ∃ (q:Nat) (Bd:Array Value),W.heap[lb]?=some (.cells #[m1,m2,m3,vI ((q:Nat):Int),vI 0] 73)/\W.heap[w.heap.size + 1]?=some (.cells Bd 29)/\W.heap[w.heap.size]?=some (.cells #[vP lb 0] 99)/\W.heap[w.heap.size + 2]?=some (.cells zA 29)/\(∀ c,c<w.heap.size->c≠lb->W.heap[c]?=w.heap[c]?)/\Below lb w W/\W0.heap.size<=W.heap.size /\
  ((pre=[]/\q=p/\Bd=(eA k2 i2.kind i2.n i2.s nm2 at2 g2 ax2 tk2 tn2 aa2 am2 ac2))\/(pre.length=1/\q=p + 3/\∃ n9 n4:Nat,Bd=(eA 7 0 0 ⟨#[]⟩ ⟨#[]⟩ ⟨#[]⟩ 0 0 0 ⟨#[]⟩ (some ⟨n9,0,none⟩) 3 3)/\W0.heap.size<=n9/\W.heap[n9]?=some (.cells #[vI 8,vI 0,vI 0,vE,vS ⟨#[98,111,111,108,101,97,110]⟩,vE,vI 0,vI 0,vI 0,vE,vL n4 0 1 1,vI (k2),vI (i2.kind),vI (i2.n),vS i2.s,vS nm2,vS at2,vI (g2),vI (ax2),vI (tk2),vS tn2,.slice aa2 am2 ac2,vI 3,vI 0,vI 0,vE,vE,vE,vI 0,vI 0,vI 0,vE,vN] 29)/\W0.heap.size<=n4/\W.heap[n4]?=some (.cells (eA cv.k cv.it.kind cv.it.n cv.it.s cv.nm cv.at_ cv.n cv.ax cv.tk cv.tn cv.aa cv.am cv.ac) 29)))
theorem AroI.own (lb:Nat) (m1 m2 m3:Value) (p:Nat) (cv:CV) (k2:Int) (i2:It) (nm2 at2:ByteArray) (g2 ax2 tk2:Int) (tn2:ByteArray) (aa2:Option Addr) (am2 ac2:Nat) (w W0:World) (hl:lb<w.heap.size) (hz:w.heap.size<=W0.heap.size):OwnFrom W0.heap.size (AroI lb m1 m2 m3 p cv k2 i2 nm2 at2 g2 ax2 tk2 tn2 aa2 am2 ac2 w W0):=by
 rintro pre X Y row ⟨q,Bd,h1,h2,h3,h4,h5,h6,h7,h8⟩ hg hr
 refine ⟨q,Bd,cells_kept h1 hg hr,cells_kept h2 hg hr,cells_kept h3 hg hr,cells_kept h4 hg hr,fun c hc hn=>(hg.block c (by omega) (fun e=>by have:=(hr c e.symm).1;omega)).trans (h5 c hc hn),h6.grown hg (by omega) (fun k e=>by have:=(hr k e).1;omega),Nat.le_trans h7 hg.size,?_⟩
 rcases h8 with h8 | ⟨e1,e2,n9,n4,e3,e4,e5,e6,e7⟩
 · exact .inl h8
 · exact .inr ⟨e1,e2,n9,n4,e3,e4,cells_kept e5 hg hr,e6,cells_kept e7 hg hr⟩
end Go.Proofs.YtmcmbdkpfcibkaaGreatDoor
