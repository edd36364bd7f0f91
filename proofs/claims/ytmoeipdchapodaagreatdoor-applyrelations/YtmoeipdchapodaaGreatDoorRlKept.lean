/-
  PLAIN FACTS: the places that are kept, in their order; memory that is not turned from a place on.
-/
import Derived.Test.YtmoeipdchapodaaGreatDoorRlRoom
import Derived.Test.YtmoeipdchapodaaGreatDoorRlFound
import Derived.Deep.RegionLaw
set_option linter.unusedVariables false
namespace Go.Proofs.YtmoeipdchapodaaGreatDoor
set_option maxRecDepth 100000
open Go.RowKit Go.WideShapes

/-- the places that are kept, of those ahead of k -/
def keptL (K : Nat → Bool) (k : Nat) : List Nat := (List.range k).filter K
def keptN (K : Nat → Bool) (k : Nat) : Nat := (keptL K k).length
def keptAt (K : Nat → Bool) (m i : Nat) : Nat := (keptL K m).getD i 0
def keptR (K : Nat → Bool) (m : Nat) (R : Nat → Row) (i : Nat) : Row := R (keptAt K m i)
theorem keptL_yes {K : Nat → Bool} {k : Nat} (h : K k = true) : keptL K (k + 1) = keptL K k ++ [k] := by
  unfold keptL
  rw [List.range_succ, List.filter_append]
  simp [h]
theorem keptL_no {K : Nat → Bool} {k : Nat} (h : K k = false) : keptL K (k + 1) = keptL K k := by
  unfold keptL
  rw [List.range_succ, List.filter_append]
  simp [h]
theorem keptN_yes {K : Nat → Bool} {k : Nat} (h : K k = true) : keptN K (k + 1) = keptN K k + 1 := by unfold keptN; rw [keptL_yes h]; simp
theorem keptN_no {K : Nat → Bool} {k : Nat} (h : K k = false) : keptN K (k + 1) = keptN K k := by unfold keptN; rw [keptL_no h]
theorem keptN_le (K : Nat → Bool) (k : Nat) : keptN K k ≤ k := by
  have := List.length_filter_le K (List.range k)
  simpa [keptN, keptL] using this
theorem keptL_pre {K : Nat → Bool} (k d : Nat) : ∃ r, keptL K (k + d) = keptL K k ++ r := by
  induction d with
  | zero => exact ⟨[], by simp⟩
  | succ d ih =>
    obtain ⟨r, hr⟩ := ih
    cases h : K (k + d)
    · exact ⟨r, by rw [← Nat.add_assoc, keptL_no h, hr]⟩
    · exact ⟨r ++ [k + d], by rw [← Nat.add_assoc, keptL_yes h, hr, List.append_assoc]⟩
theorem keptAt_at {K : Nat → Bool} {k m : Nat} (hk : k < m) (h : K k = true) : keptAt K m (keptN K k) = k := by
  obtain ⟨r, hr⟩ := keptL_pre (K := K) (k + 1) (m - (k + 1))
  rw [show k + 1 + (m - (k + 1)) = m by omega] at hr
  unfold keptAt keptN
  rw [hr, keptL_yes h]
  simp
theorem keptR_at {K : Nat → Bool} {k m : Nat} (R : Nat → Row) (hk : k < m) (h : K k = true) : keptR K m R (keptN K k) = R k := by unfold keptR; rw [keptAt_at hk h]
theorem keptL_congr {K L : Nat → Bool} {m : Nat} (h : ∀ i, i < m → K i = L i) : keptL K m = keptL L m := by
  unfold keptL
  exact List.filter_congr (fun i hi => h i (List.mem_range.1 hi))

/-- a row of a relation that may be: as long as there are columns -/
theorem row_len {C : Nat → ByteArray} {n : Nat} {R : Nat → Row} {m : Nat} (h : relF C n R m = 0) : ∀ i, i < m → (R i).len = n := fun i hi => by
  have h := (relF_zero h).2.2 i hi
  unfold rowE at h
  by_cases e : (R i).len = n
  · exact e
  · rw [if_neg e] at h; exact absurd h (by decide)
theorem madeF_ok {C : Nat → ByteArray} {n : Nat} {R : Nat → Row} {m k : Nat} (h : relF C n R m = 0) (hk : k ≤ m) : madeF C n k = 0 := by
  obtain ⟨h1, h2, _⟩ := relF_zero h
  rw [madeF_rows h1, if_neg (by omega)]

/-- what lies from B on is as it was -/
def Upper (B : Nat) (W W' : World) : Prop := W.heap.size ≤ W'.heap.size ∧ ∀ b, B ≤ b → b < W.heap.size → W'.heap[b]? = W.heap[b]?
theorem Upper.of {B : Nat} {W W' : World} (h : Below W.heap.size W W') : Upper B W W' := ⟨h.size, fun b _ hb => h.block b hb⟩
theorem Upper.cell {B : Nat} {W W' : World} (h : Upper B W W') {p : Addr} (h1 : B ≤ p.block) (h2 : p.block < W.heap.size) : W'.cell? p = W.cell? p := World.cell?_of_block (h.2 _ h1 h2)
theorem Upper.frozen {B : Nat} {W W' : World} (h : Upper B W W') {p : Addr} (h1 : B ≤ p.block) (h2 : p.block < W.heap.size) : W'.frozen? p = W.frozen? p := World.frozen?_of_block (h.2 _ h1 h2)
theorem RowsTwo.upper {W W' : World} {B0 B T : Nat} {v : Value} {m : Nat} {R : Nat → Row} (h : RowsTwo W B T v m R) (hu : Upper B0 W W') (hB : B0 ≤ B) (hBT : B ≤ T) : RowsTwo W' B T v m R := h.keep hu.1 (fun b _ h2 h3 => hu.2 b (by omega) h3) hBT
theorem StrsKept.upper {W W' : World} {B0 B T : Nat} {g : Option Nat} {v : Value} {n : Nat} {C : Nat → ByteArray} (h : StrsKept W B T g v n C) (hu : Upper B0 W W') (hB : B0 ≤ B) : StrsKept W' B T g v n C := h.keep hu.1 (fun b h1 _ h3 hg => ⟨hu.2 b (by omega) h3, hg⟩)
end Go.Proofs.YtmoeipdchapodaaGreatDoor
