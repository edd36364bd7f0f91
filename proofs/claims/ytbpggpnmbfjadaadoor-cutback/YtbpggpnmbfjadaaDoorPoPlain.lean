/-
  THE POET'S PATHS, plainly: what is made is cut into tokens, and is short.
-/
import Derived.Test.YtbpggpnmbfjadaaDoorPoNext
import Derived.Laws.Concat
set_option linter.unusedVariables false
namespace Go.Proofs.YtbpggpnmbfjadaaDoor
set_option maxRecDepth 100000
open Go.RowKit

abbrev sepA : Obj := .cells #[.string ⟨#[47]⟩, .string ⟨#[47, 47]⟩] 9
theorem sep_cell (w : World) (i : Nat) (hi : i < 2) : (w.alloc (.cells #[.string ⟨#[47]⟩, .string ⟨#[47, 47]⟩] 9)).cell? ⟨w.heap.size, i, none⟩ = some (.string ⟨(sepL.getD i []).toArray⟩) := by
  have e : i = 0 ∨ i = 1 := by omega
  rcases e with rfl | rfl <;> simp [sepL]
theorem sepBox {pb jj : Nat} {z : ByteArray} {V w1 : World} (hsc : ∀ w : World, (w.alloc (.cells #[.string ⟨#[47]⟩, .string ⟨#[47, 47]⟩] 9)).cell? ⟨w.heap.size, jj, none⟩ = some (.string z)) (h : GrowQ pb (V.alloc (.cells #[.string ⟨#[47]⟩, .string ⟨#[47, 47]⟩] 9)) w1) (hp : pb < V.heap.size) : w1.cell? ⟨V.heap.size, jj, none⟩ = some (.string z) ∧ V.heap.size < w1.heap.size ∧ pb < w1.heap.size := by
  have hl := h.1
  simp at hl
  exact ⟨(h.cell (by simp) (by omega)).trans (hsc V), by omega, by omega⟩
theorem sepBoxD {pb jj : Nat} {z : ByteArray} {V w1 : World} (hsc : ∀ w : World, (w.alloc (.cells #[.string ⟨#[47]⟩, .string ⟨#[47, 47]⟩] 9)).cell? ⟨w.heap.size, jj, none⟩ = some (.string z)) (h : GrowQ pb (V.alloc (.cells #[.string ⟨#[47]⟩, .string ⟨#[47, 47]⟩] 9)).drew w1) (hp : pb < V.heap.size) : w1.cell? ⟨V.heap.size, jj, none⟩ = some (.string z) ∧ V.heap.size < w1.heap.size ∧ pb < w1.heap.size := sepBox hsc h hp
theorem sepKept {pb jj g : Nat} {z : ByteArray} {V w1 : World} (h : GrowQ pb V w1) (z0 : V.cell? ⟨g, jj, none⟩ = some (.string z)) (z1 : g < V.heap.size) (z2 : pb < g) : w1.cell? ⟨g, jj, none⟩ = some (.string z) ∧ g < w1.heap.size ∧ pb < w1.heap.size := by
  have hl := h.1
  exact ⟨(h.cell z1 (by omega)).trans z0, by omega, by omega⟩
theorem data_appQ (t u : ByteArray) : (t ++ u).data.toList = t.data.toList ++ u.data.toList := by
  rw [ByteArray.data_append, Array.toList_append]
theorem stepL_len {i : Nat} (hi : i < 18) : (stepL.getD i []).length ≤ 30 := by
  have : ∀ i : Fin 18, (stepL.getD i []).length ≤ 30 := by decide
  exact this ⟨i, hi⟩
theorem sepL_len {i : Nat} (hi : i < 2) : (sepL.getD i []).length ≤ 2 := by
  have : ∀ i : Fin 2, (sepL.getD i []).length ≤ 2 := by decide
  exact this ⟨i, hi⟩
theorem baseL_len {i : Nat} (hi : i < 6) : (baseL.getD i []).length ≤ 10 := by
  have : ∀ i : Fin 6, (baseL.getD i []).length ≤ 10 := by decide
  exact this ⟨i, hi⟩
theorem q0L_len {i : Nat} (hi : i < 5) : (q0L.getD i []).length ≤ 10 := by
  have : ∀ i : Fin 5, (q0L.getD i []).length ≤ 10 := by decide
  exact this ⟨i, hi⟩
theorem opL_len {i : Nat} (hi : i < 3) : (opL.getD i []).length ≤ 12 := by
  have : ∀ i : Fin 3, (opL.getD i []).length ≤ 12 := by decide
  exact this ⟨i, hi⟩
/-- a path as far as it is made -/
def PathS (s : ByteArray) (m n : Nat) : Prop := OkP s.data.toList m ∧ s.size ≤ n
theorem PathS.base {i : Nat} (hi : i < 6) : PathS ⟨(baseL.getD i []).toArray⟩ 6 10 := ⟨okP_base hi, baseL_len hi⟩
theorem PathS.step {s : ByteArray} {m n i j : Nat} (h : PathS s m n) (hj : j < 2) (hi : i < 18) : PathS (s ++ (⟨(sepL.getD j []).toArray⟩ ++ ⟨(stepL.getD i []).toArray⟩)) (m + 7) (n + 32) := by
  refine ⟨?_, ?_⟩
  · rw [data_appQ, data_appQ]
    exact h.1.step hj hi
  · rw [ByteArray.size_append, ByteArray.size_append]
    have h1 : (⟨(sepL.getD j []).toArray⟩ : ByteArray).size ≤ 2 := sepL_len hj
    have h2 : (⟨(stepL.getD i []).toArray⟩ : ByteArray).size ≤ 30 := stepL_len hi
    have h3 := h.2
    omega
theorem PathS.filter {s : ByteArray} {m n i : Nat} (h : PathS s m n) (hi : i < 5) : PathS (⟨#[40]⟩ ++ s ++ ⟨#[41, 91]⟩ ++ ⟨(q0L.getD i []).toArray⟩ ++ ⟨#[93]⟩) (m + 10) (n + 14) := by
  refine ⟨?_, ?_⟩
  · rw [data_appQ, data_appQ, data_appQ, data_appQ]
    exact h.1.filter hi
  · rw [ByteArray.size_append, ByteArray.size_append, ByteArray.size_append, ByteArray.size_append]
    have h1 : (⟨(q0L.getD i []).toArray⟩ : ByteArray).size ≤ 10 := q0L_len hi
    have h3 := h.2
    have e1 : (⟨#[40]⟩ : ByteArray).size = 1 := rfl
    have e2 : (⟨#[41, 91]⟩ : ByteArray).size = 2 := rfl
    have e3 : (⟨#[93]⟩ : ByteArray).size = 1 := rfl
    omega
theorem PathS.oper {s : ByteArray} {m n i : Nat} (h : PathS s m n) (hi : i < 3) : PathS (⟨#[40]⟩ ++ s ++ ⟨(opL.getD i []).toArray⟩ ++ ⟨#[47, 47, 42, 41]⟩) (m + 5) (n + 17) := by
  refine ⟨?_, ?_⟩
  · rw [data_appQ, data_appQ, data_appQ]
    exact h.1.oper hi
  · rw [ByteArray.size_append, ByteArray.size_append, ByteArray.size_append]
    have h1 : (⟨(opL.getD i []).toArray⟩ : ByteArray).size ≤ 12 := opL_len hi
    have h3 := h.2
    have e1 : (⟨#[40]⟩ : ByteArray).size = 1 := rfl
    have e2 : (⟨#[47, 47, 42, 41]⟩ : ByteArray).size = 4 := rfl
    omega
theorem PathS.more {s : ByteArray} {m n m' n' : Nat} (h : PathS s m n) (hm : m ≤ m') (hn : n ≤ n') : PathS s m' n' := ⟨fun c R hc => (h.1 c R hc).more hm, Nat.le_trans h.2 hn⟩
theorem PoS.setD {w0 w : World} {pb : Nat} {d : Bool} (h : PoS w0 w pb d) (e : Bool) : PoS w0 (w.setCell ⟨pb, 1, none⟩ (.bool e)) pb e := by
  obtain ⟨hz, ⟨v, n, X, h1, h2, h3⟩, lo⟩ := h
  refine ⟨hz, ⟨v, n, X, h1.setD e, h2, h3⟩, ?_⟩
  exact lo.trans (((GrowQ.refl pb w).set 1 _).low (Nat.le_of_lt h1.2.2.2.2))
theorem ops_at0 (W : World) : Sem.run Tryd.prog (Instr.index 65 (.agg #[.string ⟨#[32, 117, 110, 105, 111, 110, 32]⟩, .string ⟨#[32, 105, 110, 116, 101, 114, 115, 101, 99, 116, 32]⟩, .string ⟨#[32, 101, 120, 99, 101, 112, 116, 32]⟩]) (.int .i64 0)) W = .ok (.string ⟨#[32, 117, 110, 105, 111, 110, 32]⟩) W := by
  simp [Instr.index, run_underlying Tryd.underlying65, asIntOf, go_sem]
theorem ops_at1 (W : World) : Sem.run Tryd.prog (Instr.index 65 (.agg #[.string ⟨#[32, 117, 110, 105, 111, 110, 32]⟩, .string ⟨#[32, 105, 110, 116, 101, 114, 115, 101, 99, 116, 32]⟩, .string ⟨#[32, 101, 120, 99, 101, 112, 116, 32]⟩]) (.int .i64 1)) W = .ok (.string ⟨#[32, 105, 110, 116, 101, 114, 115, 101, 99, 116, 32]⟩) W := by
  simp [Instr.index, run_underlying Tryd.underlying65, asIntOf, go_sem]
theorem ops_at2 (W : World) : Sem.run Tryd.prog (Instr.index 65 (.agg #[.string ⟨#[32, 117, 110, 105, 111, 110, 32]⟩, .string ⟨#[32, 105, 110, 116, 101, 114, 115, 101, 99, 116, 32]⟩, .string ⟨#[32, 101, 120, 99, 101, 112, 116, 32]⟩]) (.int .i64 2)) W = .ok (.string ⟨#[32, 101, 120, 99, 101, 112, 116, 32]⟩) W := by
  simp [Instr.index, run_underlying Tryd.underlying65, asIntOf, go_sem]
/-- what the poet's nodes tells, one deep -/
def NodesOk : Prop := ∀ {w0 w : World} {pb : Nat}, PoS w0 w pb false → Calls Tryd.prog 20 #[.pointer (some ⟨pb, 0, none⟩), .int .i64 1] w fun e w' => ∃ s, PathS s 50 150 ∧ e = .returned (.string s) ∧ Below pb w w'
end Go.Proofs.YtbpggpnmbfjadaaDoor
