/-
  CONTRACT of rel.Sort.
-/
import Derived.Test.YtlblomlblibbdaaDoorRlOrdC
import Derived.Test.YtlblomlblibbdaaDoorRlKept
set_option linter.unusedVariables false
namespace Go.Proofs.YtlblomlblibbdaaDoor
set_option maxRecDepth 100000
open Go.RowKit Go.WideShapes

/-- what Sort answers -/
def soF (C : Nat → ByteArray) (n : Nat) (R : Nat → Row) (m : Nat) (O : Nat → ByteArray) (ko : Nat) : Int :=
  if relF C n R m = 0 then (if foundB C n O ko = true then 0 else 9) else relF C n R m
/-- the rows in their order -/
def soR (R : Nat → Row) (P : Nat → Nat) (ko m i : Nat) : Row := R (ordA (fun i t => (R i).at_ (P t)) ko m i)
theorem ordA_ded (R : Nat → Row) (P : Nat → Nat) (ko m : Nat) : ordA (fun i t => (R i).at_ (dedP P ko t)) (keptN (firstB P) ko) m = ordA (fun i t => (R i).at_ (P t)) ko m := by
  funext i
  unfold ordA
  rw [ordL_ded]
/-- blocks from T + 1 on are as they were -/
def KeptFrom (T : Nat) (w wr : World) : Prop := ∀ b, T < b → b < w.heap.size → wr.heap[b]? = w.heap[b]?
theorem KeptFrom.trans {T : Nat} {a b c : World} (h : KeptFrom T a b) (hs : a.heap.size ≤ b.heap.size) (h' : KeptFrom T b c) : KeptFrom T a c := fun k h1 h2 => (h' k h1 (by omega)).trans (h k h1 h2)
theorem KeptFrom.of {T : Nat} {a b : World} (h : Below a.heap.size a b) : KeptFrom T a b := fun k _ h2 => h.block k h2
theorem KeptFrom.setCell {T : Nat} {a b : World} (h : KeptFrom T a b) {p : Addr} (hp : p.block ≤ T) (u : Value) : KeptFrom T a (b.setCell p u) := fun k h1 h2 => (Below.heap_setCell _ _ _ _ (by omega)).trans (h k h1 h2)
/-- the own block is ahead of T, or behind w -/
def OwnAt (T : Nat) (w : World) (v : Value) : Prop := ∀ k, v.ownBlock = some k → k < T ∨ w.heap.size ≤ k
theorem own_push {T : Nat} {w w1 w2 : World} {v v' : Value} (h : OwnAt T w v) (hs : w.heap.size ≤ w1.heap.size) (hk : v'.ownBlock = v.ownBlock ∨ v'.ownBlock = some w1.heap.size) : OwnAt T w v' := fun k e => by
  rcases hk with hk | hk
  · exact h k (by rw [← hk]; exact e)
  · rw [hk] at e
    simp only [Option.some.injEq] at e
    exact .inr (by omega)
theorem kept_grown {T : Nat} {w w1 w2 : World} {v : Value} (h : OwnAt T w v) (hg : w1.grownBy w2 v.ownBlock) (hs : w.heap.size ≤ w1.heap.size) (hk : KeptFrom T w w1) : KeptFrom T w w2 := fun k h1 h2 => by
  refine (hg.block k (by omega) (fun e => ?_)).trans (hk k h1 h2)
  have := h k e.symm
  omega
theorem ints_at {T : Nat} {w wr : World} {v : Value} {n i : Nat} {P : Nat → Nat} (h : IntsFrom w (T + 1) v n P) (hk : KeptFrom T w wr) (hs : w.heap.size ≤ wr.heap.size) (hi : i < n) : ∃ b off cap, v = .slice (some ⟨b, off, none⟩) n cap ∧ b < wr.heap.size ∧ wr.cell? ⟨b, off + i, none⟩ = some (.int .i64 (P i : Int)) := by
  obtain ⟨a, cap, rfl, h1, h2, h3⟩ := h
  obtain ⟨b, off, rfl, h4, h5, h6⟩ := h3 (by omega)
  exact ⟨b, off, cap, rfl, by omega, (World.cell?_of_block (a := ⟨b, off + i, none⟩) (hk b (by omega) h5)).trans (h6 i hi)⟩
end Go.Proofs.YtlblomlblibbdaaDoor
