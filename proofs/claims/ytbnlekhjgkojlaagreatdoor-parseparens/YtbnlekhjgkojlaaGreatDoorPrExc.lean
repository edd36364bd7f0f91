import Derived.Test.YtbnlekhjgkojlaaGreatDoorPrQua
import Derived.Test.YtbnlekhjgkojlaaGreatDoorPmClone
import Derived.Deep.AppendLies
import Derived.Deep.RegionLaw
set_option linter.unusedVariables false
namespace Go.Proofs.YtbnlekhjgkojlaaGreatDoor
set_option maxRecDepth 100000
open Go.RowKit
def exc (x : Nat) (E : Nat → World → (Nat → Prop) → List Value → Prop) : Nat → World → (Nat → Prop) → List Value → Prop := fun i w S u => E i w (fun b => S b ∧ b ≠ x) u
theorem exc.keeps {x : Nat} {E : Nat → World → (Nat → Prop) → List Value → Prop} (hE : ∀ i, Keeps (E i)) : ∀ i, Keeps (exc x E i) := fun i w w' S S' u h1 h2 h3 => hE i _ _ _ _ _ (fun b q => ⟨h1 b q.1, q.2⟩) (fun b q => h2 b q.1) h3
theorem LOwn.toExc {T : TypeId} {sz : Nat} {E : Nat → World → (Nat → Prop) → List Value → Prop} (hE : ∀ i, Keeps (E i)) {w : World} {lo x : Nat} {v : Value} {n : Nat} (h : LOwn T sz E w lo v n) (hx : w.heap.size ≤ x) : LOwn T sz (exc x E) w lo v n := by
 obtain ⟨L, h1, h2⟩ := h
 exact ⟨L, h1, fun i hi => ⟨(h2 i hi).1, hE i _ _ _ _ _ (fun b q => ⟨q, by have := q.1.2; omega⟩) (fun _ _ => rfl) (h2 i hi).2⟩⟩
theorem LOwn.unExc {T : TypeId} {sz : Nat} {E : Nat → World → (Nat → Prop) → List Value → Prop} (hE : ∀ i, Keeps (E i)) {w : World} {lo x : Nat} {v : Value} {n : Nat} (h : LOwn T sz (exc x E) w lo v n) : LOwn T sz E w lo v n := by
 obtain ⟨L, h1, h2⟩ := h
 exact ⟨L, h1, fun i hi => ⟨(h2 i hi).1, hE i _ _ _ _ _ (fun b q => q.1) (fun _ _ => rfl) (h2 i hi).2⟩⟩
theorem LOwn.setX {T : TypeId} {sz : Nat} {E : Nat → World → (Nat → Prop) → List Value → Prop} (hE : ∀ i, Keeps (E i)) {w : World} {lo x : Nat} {v : Value} {n : Nat} (h : LOwn T sz (exc x E) w lo v n) (hx : v.ownBlock ≠ some x) (k : Nat) (y : Value) : LOwn T sz (exc x E) (w.setCell ⟨x, k, none⟩ y) lo v n := by
 obtain ⟨L, h1, h2⟩ := h
 have hb : ∀ b, b ≠ x → (w.setCell ⟨x, k, none⟩ y).heap[b]? = w.heap[b]? := fun b q => Below.heap_setCell _ _ _ _ (by simpa using q)
 refine ⟨L, ⟨h1.1, ?_⟩, fun i hi => ⟨(h2 i hi).1, hE i _ _ _ _ _ (fun b q => ⟨⟨⟨q.1.1.1, by simpa using q.1.1.2⟩, q.1.2⟩, q.2⟩) (fun b q => hb b q.2) (h2 i hi).2⟩⟩
 rcases h1.2 with ⟨q1, q2⟩ | ⟨g, cap, cur, q1, q2, q3, q4, q5, q6, q7⟩
 · exact .inl ⟨q1, q2⟩
 · refine .inr ⟨g, cap, cur, q1, q2, ?_, q4, q5, q6, q7⟩
   rw [hb g (fun e => hx (by rw [q1, e]; rfl))]
   exact q3
theorem LOwn.pushX {T : TypeId} {sz : Nat} {E : Nat → World → (Nat → Prop) → List Value → Prop} (hE : ∀ i, Keeps (E i)) {w w' : World} {lo lo1 x g c : Nat} {v : Value} {n : Nat} {L : Nat → List Value} {u : List Value}
 (h2 : ∀ i, i < n → (L i).length = sz ∧ exc x E i w (fun b => (lo ≤ b ∧ b < w.heap.size) ∧ v.ownBlock ≠ some b) (L i)) (hu : u.length = sz) (hEu : E n w (fun b => lo1 ≤ b ∧ b < w.heap.size) u) (hl : lo ≤ lo1) (hx : x < lo1) (hvl : ∀ k, v.ownBlock = some k → k < lo1)
 (ho : w'.ownsRow lo T sz (.slice (some ⟨g, 0, none⟩) (n + 1) c) (n + 1) ((List.range n).flatMap L ++ u)) (hg : w.grownBy w' v.ownBlock) (hv : v.ownBlock = some g ∨ g = w.heap.size) : LOwn T sz (exc x E) w' lo (.slice (some ⟨g, 0, none⟩) (n + 1) c) (n + 1) :=
 LOwn.push (lo1 := lo1) (exc.keeps hE) h2 hu (hE n _ _ _ _ _ (fun b q => ⟨q, by have := q.1; omega⟩) (fun _ _ => rfl) hEu) hl hvl ho hg (by rcases hv with h | h; exact .inl h.symm; exact .inr (by rw [h]; rfl))
end Go.Proofs.YtbnlekhjgkojlaaGreatDoor
