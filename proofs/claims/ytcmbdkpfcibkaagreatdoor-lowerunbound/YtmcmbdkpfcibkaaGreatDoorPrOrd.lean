import Derived.Test.YtmcmbdkpfcibkaaGreatDoorPrLet
set_option linter.unusedVariables false
namespace Go.Proofs.YtmcmbdkpfcibkaaGreatDoor
set_option maxRecDepth 100000
open Go.RowKit
def TreB (w:World) (lo hi:Nat) (p:Ph) (v:List Value):Prop:=p.V w (fun b=>lo<=b/\b<hi) v/\hi<=w.heap.size
theorem TreB.of {w w':World} {lo hi:Nat} {p:Ph} {v:List Value} (h:Tre w lo p v) (hh:w.heap.size=hi) (hs:hi<=w'.heap.size) (hk:∀ b,b<hi->w'.heap[b]?=w.heap[b]?):TreB w' lo hi p v:=⟨Ph.V.keep (fun b h1=>⟨h1.1,by rw [<- hh];exact h1.2⟩) (fun b h1=>hk b (by rw [<- hh];exact h1.2)) h,hs⟩
theorem TreB.grow {w w':World} {pb lo hi:Nat} {p:Ph} {v:List Value} (h:TreB w lo hi p v) (hg:GrowA pb w w') (hp:pb<lo):TreB w' lo hi p v :=
 ⟨Ph.V.keep (fun b hb=>hb) (fun b hb=>hg.2.2.2.2 b (Nat.lt_of_lt_of_le hb.2 h.2) (by omega)) h.1,Nat.le_trans h.2 hg.1⟩
theorem TreB.below {w w':World} {lo hi:Nat} {p:Ph} {v:List Value} (h:TreB w lo hi p v) (hb:Below w.heap.size w w'):TreB w' lo hi p v :=
 ⟨Ph.V.keep (fun b h1=>h1) (fun b h1=>hb.block b (Nat.lt_of_lt_of_le h1.2 h.2)) h.1,Nat.le_trans h.2 hb.size⟩
theorem TreB.allocI {w:World} {lo hi:Nat} {p:Ph} {v:List Value} (h:TreB w lo hi p v) (o:Obj):TreB (w.alloc o) lo hi p v:=h.below ((Below.refl _ _).alloc (Nat.le_refl _) o)
theorem TreB.setR {w:World} {lo hi r:Nat} {p:Ph} {v:List Value} (h:TreB w lo hi p v) (hr:r<lo) (t:Nat) (u:Value):TreB (w.setCell ⟨r,t,none⟩ u) lo hi p v :=
 ⟨Ph.V.keep (fun b h1=>h1) (fun b h1=>Below.heap_setCell _ _ _ _ (by simp;omega)) h.1,by simpa using h.2⟩
theorem TreB.tre {w:World} {lo hi:Nat} {p:Ph} {v:List Value} (h:TreB w lo hi p v):Tre w lo p v:=Ph.V.keep (fun b h1=>⟨h1.1,Nat.lt_of_lt_of_le h1.2 h.2⟩) (fun _ _=>rfl) h.1
end Go.Proofs.YtmcmbdkpfcibkaaGreatDoor
