/-
  CONTRACT: a relation without rows, with room for some (rel.withRoom).
-/
import Derived.Test.YtjgihlmefaakkaaDoorRlBase
import Derived.Deep.RegionWith
import Derived.Laws.MakeOwn
set_option linter.unusedVariables false
namespace Go.Proofs.YtjgihlmefaakkaaDoor
set_option maxRecDepth 100000
open Go.RowKit Go.WideShapes

theorem below_mid {B : Nat} {a b c : World} (k : Below b.heap.size b c) (h : Below B a b) (hB : B ≤ b.heap.size) : Below B a c := h.trans (k.mono hB)
theorem rows_less {w : World} {base base' : Nat} {v : Value} {R : Nat → Row} (h : RowsOwn w base v 0 R) (hb : base' ≤ base) : RowsOwn w base' v 0 R := by
  obtain ⟨us, h1, _⟩ := h
  refine ⟨us, ⟨h1.1, ?_⟩, fun i hi => by omega⟩
  rcases h1.2 with h2 | ⟨g, cap, cur, q0, q1, q2⟩
  · exact .inl h2
  · exact .inr ⟨g, cap, cur, q0, by omega, q2⟩
theorem make_rows (r : Nat) (hr : r ≤ 4000000) : ∃ Z : Array Value, Z.size = r * 1 ∧ ∀ W : World, (Instr.makeSlice 23 (.int .i64 0) (.int .i64 (r : Int))).run Tryd.prog W = .ok (.slice (some ⟨W.heap.size, 0, none⟩) 0 r) (W.alloc (.cells Z 37)) := by
  obtain ⟨i0, hi0, hz0, hz1, hz2⟩ := info_parts infoItems
  refine ⟨madeCells (Value.cells (.slice none 0 0)) (r * i0.size), ?_, fun W => ?_⟩
  · rw [size_madeCells, hz1]
  · have h := run_make (P := Tryd.prog) W 23 37 i0 _ Tryd.underlying23 hi0 hz0 .i64 .i64 0 r (Int.le_refl _) (by omega) (by rw [hz2]; omega) (by omega)
    simp only [Int.toNat_zero, Int.toNat_natCast] at h
    exact h
theorem made_own {W : World} {r : Nat} {Z : Array Value} {base : Nat} (R : Nat → Row) (hz : Z.size = r * 1) (hr : r ≤ 4000000) (hb : base ≤ W.heap.size) : RowsOwn (W.alloc (.cells Z 37)) base (.slice (some ⟨W.heap.size, 0, none⟩) 0 r) 0 R :=
  ⟨[], World.ownsRow_made W Z r hb (by unfold maxLen; omega) hz, fun i hi => by omega⟩

end Go.Proofs.YtjgihlmefaakkaaDoor
