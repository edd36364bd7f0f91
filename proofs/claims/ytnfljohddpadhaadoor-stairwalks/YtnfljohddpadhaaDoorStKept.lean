/-
  WHAT A CALL LEAVES AS IT WAS: all blocks but some; sets of places as maps.
-/
import Derived.Test.YtnfljohddpadhaaDoorStMap
import Derived.Test.YtnfljohddpadhaaDoorStPlain
set_option linter.unusedVariables false
namespace Go.Proofs.YtnfljohddpadhaaDoor
set_option maxRecDepth 100000
open Go.RowKit Go.WideShapes

/-- all blocks but those of X are as they were; there may be more -/
structure Kept (X : Nat → Prop) (w w' : World) : Prop where
  os : w'.os = w.os
  tape : w'.tape = w.tape
  output : w'.output = w.output
  size : w.heap.size ≤ w'.heap.size
  block : ∀ c, c < w.heap.size → ¬ X c → w'.heap[c]? = w.heap[c]?
theorem Kept.refl (X : Nat → Prop) (w : World) : Kept X w w := ⟨rfl, rfl, rfl, Nat.le_refl _, fun _ _ _ => rfl⟩
theorem Kept.trans {X : Nat → Prop} {a b c : World} (h : Kept X a b) (k : Kept X b c) : Kept X a c :=
  ⟨k.os.trans h.os, k.tape.trans h.tape, k.output.trans h.output, Nat.le_trans h.size k.size, fun i hi hx => (k.block i (Nat.lt_of_lt_of_le hi h.size) hx).trans (h.block i hi hx)⟩
theorem Kept.mono {X Y : Nat → Prop} {a b : World} (h : Kept X a b) (hXY : ∀ c, c < a.heap.size → X c → Y c) : Kept Y a b :=
  ⟨h.os, h.tape, h.output, h.size, fun i hi hx => h.block i hi (fun k => hx (hXY i hi k))⟩
/-- what was made since does not matter -/
theorem Kept.trans' {X Y : Nat → Prop} {a b c : World} (h : Kept X a b) (k : Kept Y b c) (hY : ∀ i, i < a.heap.size → Y i → X i) : Kept X a c :=
  ⟨k.os.trans h.os, k.tape.trans h.tape, k.output.trans h.output, Nat.le_trans h.size k.size, fun i hi hx => (k.block i (Nat.lt_of_lt_of_le hi h.size) (fun y => hx (hY i hi y))).trans (h.block i hi hx)⟩
theorem Kept.alloc {X : Nat → Prop} {a b : World} (h : Kept X a b) (o : Obj) : Kept X a (b.alloc o) :=
  h.trans ⟨rfl, rfl, rfl, by simp, fun c hc _ => Below.heap_alloc b o c hc⟩
theorem Kept.setCell {X : Nat → Prop} {a b : World} (h : Kept X a b) {g : Nat} (o : Nat) (v : Value) (hg : g < a.heap.size → X g) : Kept X a (b.setCell ⟨g, o, none⟩ v) :=
  ⟨h.os, h.tape, h.output, by simpa using h.size, fun c hc hx => (Below.heap_setCell _ _ _ _ (fun e => hx (by subst e; exact hg hc))).trans (h.block c hc hx)⟩
theorem Kept.of_below {X : Nat → Prop} {w w' : World} (h : Below w.heap.size w w') : Kept X w w' := ⟨h.os, h.tape, h.output, h.size, fun c hc _ => h.block c hc⟩
theorem Kept.of_turned {X : Nat → Prop} {w w' : World} {M : Nat} (h : TurnedM w w' M) (hM : X M) : Kept X w w' :=
  ⟨h.2.2.1, h.2.2.2.1, h.2.2.2.2, by rw [h.1]; exact Nat.le_refl _, fun c hc hx => h.2.1 c (fun e => hx (e ▸ hM))⟩
theorem Kept.below {X : Nat → Prop} {w w' : World} (h : Kept X w w') {B : Nat} (hB : B ≤ w.heap.size) (hX : ∀ c, X c → B ≤ c) : Below B w w' :=
  ⟨h.os, h.tape, h.output, h.size, fun c hc => h.block c (by omega) (fun x => by have := hX c x; omega)⟩
theorem cell_blk {w w' : World} {b o : Nat} (h : w'.heap[b]? = w.heap[b]?) : w'.cell? ⟨b, o, none⟩ = w.cell? ⟨b, o, none⟩ := by
  simp only [World.cell?, h]
theorem frozen_blk {w w' : World} {b o : Nat} (h : w'.heap[b]? = w.heap[b]?) : w'.frozen? ⟨b, o, none⟩ = w.frozen? ⟨b, o, none⟩ := by
  simp only [World.frozen?, h]
theorem NdsAt.blk {w w' : World} {b off n : Nat} {E : Nat → Nd} (h : NdsAt w b off n E) (hb : w'.heap[b]? = w.heap[b]?) : NdsAt w' b off n E := by
  intro i hi
  obtain ⟨h1, h2, h3, h4, h5, h6⟩ := h i hi
  exact ⟨(cell_blk hb).trans h1, (cell_blk hb).trans h2, (cell_blk hb).trans h3, (cell_blk hb).trans h4, (cell_blk hb).trans h5, (cell_blk hb).trans h6⟩
open Classical in
/-- a set of places, as a map holds it -/
noncomputable def setV (S : Nat → Prop) : Int → Option Value := fun x => if ∃ n : Nat, x = n ∧ S n then some (.agg #[]) else none
theorem setV_yes {S : Nat → Prop} {n : Nat} (h : S n) : setV S (n : Int) = some (.agg #[]) := by unfold setV; rw [if_pos ⟨n, rfl, h⟩]
theorem setV_no {S : Nat → Prop} {n : Nat} (h : ¬ S n) : setV S (n : Int) = none := by
  unfold setV
  rw [if_neg]
  rintro ⟨m, e, hm⟩
  obtain rfl : n = m := by omega
  exact h hm
theorem setV_in {S : Nat → Prop} {x : Int} {v : Value} (h : setV S x = some v) : ∃ n : Nat, x = n ∧ S n := by
  unfold setV at h
  split at h
  · assumption
  · cases h
theorem setV_put (S : Nat → Prop) (n : Nat) : putI (setV S) (n : Int) (.agg #[]) = setV (fun i => S i ∨ i = n) := by
  funext x
  unfold putI
  split
  · subst x; rw [setV_yes (.inr rfl)]
  · rename_i hx
    unfold setV
    by_cases h : ∃ m : Nat, x = m ∧ S m
    · rw [if_pos h, if_pos]
      obtain ⟨m, e, hm⟩ := h
      exact ⟨m, e, .inl hm⟩
    · rw [if_neg h, if_neg]
      rintro ⟨m, e, hm | hm⟩
      · exact h ⟨m, e, hm⟩
      · subst hm; exact hx e
/-- the places that were seen -/
def Seen (w : World) (M : Nat) (S : Nat → Prop) : Prop := IMap w M (setV S)
theorem Seen.congr {w : World} {M : Nat} {S S' : Nat → Prop} (h : Seen w M S) (e : ∀ i, S i ↔ S' i) : Seen w M S' := by
  have : S = S' := funext fun i => propext (e i)
  rw [← this]; exact h
theorem Seen.keep {w w' : World} {M : Nat} {S : Nat → Prop} (h : Seen w M S) (hM : w'.heap[M]? = w.heap[M]?) : Seen w' M S := IMap.keep h hM
theorem Seen.lt {w : World} {M : Nat} {S : Nat → Prop} (h : Seen w M S) : M < w.heap.size := IMap.lt h
end Go.Proofs.YtnfljohddpadhaaDoor
