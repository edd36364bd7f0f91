import Derived.Test.YtmcmbdkpfcibkaaGreatDoorRgIn
import Derived.Lib.ValidLaws
set_option linter.unusedVariables false
namespace Go.Proofs.YtmcmbdkpfcibkaaGreatDoor
set_option maxRecDepth 100000
open Go.RowKit
def Fol (c:UInt8):Prop:=c=32\/c=41\/c=44\/c=93\/c=47
def Pc (X:List UInt8):Prop:=∀ R,Eats X R X.length
def Mid (X:List UInt8):Prop:=∀ c R,Fol c->Eats X (c :: R) X.length
theorem Pc.mid {X:List UInt8} (h:Pc X):Mid X:=fun c R _=>h (c :: R)
theorem Pc.app {X Y:List UInt8} (h:Pc X) (h':Pc Y):Pc (X ++ Y):=fun R=>by
 rw [List.length_append]
 exact (h (Y ++ R)).append (h' R)
theorem Pc.on {X Y:List UInt8} (h:Pc X) (h':Mid Y):Mid (X ++ Y):=fun c R hc=>by
 rw [List.length_append]
 exact (h (Y ++ c :: R)).append (h' c R hc)
def Beg (X:List UInt8):Prop:=∃ c S,X=c :: S/\Fol c
theorem Mid.app {X Y:List UInt8} (h:Mid X) (hb:Beg Y) (h':Pc Y):Pc (X ++ Y):=fun R=>by
 obtain ⟨c,S,rfl,hc⟩:=hb
 rw [List.length_append]
 exact (h c (S ++ R) hc).append (h' R)
theorem Mid.on {X Y:List UInt8} (h:Mid X) (hb:Beg Y) (h':Mid Y):Mid (X ++ Y):=fun c R hc=>by
 obtain ⟨d,S,rfl,hd⟩:=hb
 rw [List.length_append]
 exact (h d (S ++ c :: R) hd).append (h' c R hc)
theorem Beg.app {X:List UInt8} (h:Beg X) (Y:List UInt8):Beg (X ++ Y):=by
 obtain ⟨c,S,rfl,hc⟩:=h
 exact ⟨c,S ++ Y,rfl,hc⟩
def numL:List (List UInt8):=[[48],[49],[50],[51],[52],[53],[54],[55],[56],[57],[49,48],[49,49],[49,50],[49,51],[49,52],[49,53],[49,54],[49,55],[49,56],[49,57]]
def Let (X:List UInt8):Prop:=∀ b∈X,97<=b.toNat/\b.toNat<=101
end Go.Proofs.YtmcmbdkpfcibkaaGreatDoor
