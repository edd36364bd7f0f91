/-
  LISTS OF PLACES, and room that is filled, item by item.
-/
import Derived.Test.YtlblomlblibbdaaDoorRlCol
import Derived.Test.YtlblomlblibbdaaDoorRlRoom
set_option linter.unusedVariables false
namespace Go.Proofs.YtlblomlblibbdaaDoor
set_option maxRecDepth 100000
open Go.RowKit Go.WideShapes

/-- the value is a list of n numbers -/
def IntsIs (w : World) (v : Value) (n : Nat) (P : Nat → Nat) : Prop :=
  ∃ a cap, v = .slice a n cap ∧ n ≤ cap ∧ cap ≤ maxLen ∧ (0 < n → ∃ b off, a = some ⟨b, off, none⟩ ∧ b < w.heap.size ∧ ∀ i, i < n → w.cell? ⟨b, off + i, none⟩ = some (.int .i64 (P i : Int)))
theorem IntsIs.below {w w' : World} {v : Value} {n : Nat} {P : Nat → Nat} (h : IntsIs w v n P) (hb : Below w.heap.size w w') : IntsIs w' v n P := by
  obtain ⟨a, cap, h1, h2, h3, h4⟩ := h
  refine ⟨a, cap, h1, h2, h3, fun h0 => ?_⟩
  obtain ⟨b, off, h5, h6, h7⟩ := h4 h0
  exact ⟨b, off, h5, Nat.lt_of_lt_of_le h6 hb.size, fun i hi => (hb.cell (p := ⟨b, off + i, none⟩) h6).trans (h7 i hi)⟩
theorem set_same {w : World} {a : Addr} {u v : Value} (h : w.cell? a = some u) : (w.setCell a v).cell? a = some v := by apply World.cell?_setCell_same; exact h
theorem set_other {w : World} {a b : Addr} {v : Value} (h : a ≠ b) : (w.setCell a v).cell? b = w.cell? b := by apply World.cell?_setCell_other; exact h
/-- room for k items -/
def Room (W : World) (g k : Nat) : Prop := ∀ o, o < k * 3 → (∃ v, W.cell? ⟨g, o, none⟩ = some v) ∧ W.frozen? ⟨g, o, none⟩ = false
theorem Room.setCell {W : World} {g k : Nat} (h : Room W g k) (a : Addr) (u : Value) : Room (W.setCell a u) g k := fun o ho => by
  obtain ⟨⟨v, hv⟩, hf⟩ := h o ho
  refine ⟨?_, by rw [World.frozen?_setCell]; exact hf⟩
  by_cases e : a = ⟨g, o, none⟩
  · subst e; exact ⟨u, set_same hv⟩
  · exact ⟨v, (set_other e).trans hv⟩
theorem Room.made (w : World) (Z : Array Value) (T : TypeId) (k : Nat) (hz : Z.size = k * 3) : Room (w.alloc (.cells Z T)) w.heap.size k := fun o ho => by
  have ho' : o < Z.size := by omega
  refine ⟨⟨Z[o], ?_⟩, ?_⟩
  · simp [ho']
  · simp
theorem its_set {W : World} {g j k : Nat} {X : Nat → It} (h : ItsAt W g 0 j X) (hr : Room W g k) (hj : j < k) :
    ItsAt (((W.setCell ⟨g, j * 3, none⟩ (.int .i64 (X j).kind)).setCell ⟨g, j * 3 + 1, none⟩ (.int .i64 (X j).n)).setCell ⟨g, j * 3 + 2, none⟩ (.string (X j).s)) g 0 (j + 1) X := by
  intro i hi
  by_cases e : i = j
  · subst e
    obtain ⟨⟨v0, h0⟩, _⟩ := hr (i * 3) (by omega)
    obtain ⟨⟨v1, h1⟩, _⟩ := (hr.setCell ⟨g, i * 3, none⟩ (.int .i64 (X i).kind)) (i * 3 + 1) (by omega)
    obtain ⟨⟨v2, h2⟩, _⟩ := ((hr.setCell ⟨g, i * 3, none⟩ (.int .i64 (X i).kind)).setCell ⟨g, i * 3 + 1, none⟩ (.int .i64 (X i).n)) (i * 3 + 2) (by omega)
    rw [Nat.zero_add]
    refine ⟨?_, ?_, set_same h2⟩
    · rw [set_other (by simp), set_other (by simp)]; exact set_same h0
    · rw [set_other (by simp)]; exact set_same h1
  · obtain ⟨h0, h1, h2⟩ := h i (by omega)
    refine ⟨?_, ?_, ?_⟩
    · rw [set_other (by simp <;> omega), set_other (by simp <;> omega), set_other (by simp <;> omega)]; exact h0
    · rw [set_other (by simp <;> omega), set_other (by simp <;> omega), set_other (by simp <;> omega)]; exact h1
    · rw [set_other (by simp <;> omega), set_other (by simp <;> omega), set_other (by simp <;> omega)]; exact h2
theorem make_items (k : Nat) (hk : k ≤ 4000000) : ∃ Z : Array Value, Z.size = k * 3 ∧ ∀ W : World, (Instr.makeSlice 32 (.int .i64 (k : Int)) (.int .i64 (k : Int))).run Tryd.prog W = .ok (.slice (some ⟨W.heap.size, 0, none⟩) k k) (W.alloc (.cells Z 38)) := by
  obtain ⟨i0, hi0, hz0, hz1, hz2⟩ := info_parts infoItem
  refine ⟨madeCells (Value.cells (.agg #[.int .i64 0, .int .i64 0, .string ⟨#[]⟩])) (k * i0.size), ?_, fun W => ?_⟩
  · rw [size_madeCells, hz1]
  · have h := run_make (P := Tryd.prog) W 32 38 i0 _ Tryd.underlying32 hi0 hz0 .i64 .i64 k k (by omega) (Int.le_refl _) (by rw [hz2]; omega) (by omega)
    simp only [Int.toNat_natCast] at h
    exact h
end Go.Proofs.YtlblomlblibbdaaDoor
