import Derived.Test.YtmcmbdkpfcibkaaGreatDoorRlItemC
set_option linter.unusedVariables false
namespace Go.Proofs.YtmcmbdkpfcibkaaGreatDoor
set_option maxRecDepth 100000
open Go.RowKit Go.WideShapes
def leftM (w:World) (M r:Nat):Nat:=match w.heap[M]?,w.heap[r]? with
 | some (.map es _),some (.mapIter _ _ seen _)=>(leftOf es seen).size
 | _,_=>0
theorem VRng.left {w:World} {r M:Nat} {V:ByteArray->Option Value} {D:Value->Prop} {left:Nat} (h:VRng w r M V D left):leftM w M r=left:=by
 obtain ⟨es,clock,since,seen,c0,h1,h2,_,_,_,h6,_⟩:=h
 unfold leftM
 rw [h1,h2]
 exact h6
def FnV (D:ByteArray->Bool):ByteArray->Option Value:=fun x=>if D x=true then some (fV x (argsN x)) else none
def fnsV:ByteArray->Option Value:=FnV fun x=>decide (0<argsN x)
end Go.Proofs.YtmcmbdkpfcibkaaGreatDoor
