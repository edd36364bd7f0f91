/-
  LISTS THAT THE POET MAKES, in a drawn order: facts.
-/
import Derived.Test.YtbpggpnmbfjadaaDoorPoTq
set_option linter.unusedVariables false
namespace Go.Proofs.YtbpggpnmbfjadaaDoor
set_option maxRecDepth 100000
open Go.RowKit

theorem arrBox {pb ia : Nat} {z : ByteArray} {O : Obj} {V w1 : World} (hsc : ∀ w : World, (w.alloc O).cell? ⟨w.heap.size, ia, none⟩ = some (.string z)) (h : GrowQ pb (V.alloc O) w1) (hp : pb < V.heap.size) : w1.cell? ⟨V.heap.size, ia, none⟩ = some (.string z) ∧ V.heap.size < w1.heap.size ∧ pb < V.heap.size := by
  have hl := h.1
  simp at hl
  exact ⟨(h.cell (by simp) (by omega)).trans (hsc V), by omega, hp⟩
theorem arrBoxD {pb ia : Nat} {z : ByteArray} {O : Obj} {V w1 : World} (hsc : ∀ w : World, (w.alloc O).cell? ⟨w.heap.size, ia, none⟩ = some (.string z)) (h : GrowQ pb (V.alloc O).drew w1) (hp : pb < V.heap.size) : w1.cell? ⟨V.heap.size, ia, none⟩ = some (.string z) ∧ V.heap.size < w1.heap.size ∧ pb < V.heap.size := arrBox hsc h hp
theorem arrKept {pb ia g : Nat} {z : ByteArray} {V w1 : World} (h : GrowQ pb V w1) (z0 : V.cell? ⟨g, ia, none⟩ = some (.string z)) (z1 : g < V.heap.size) (z2 : pb < g) : w1.cell? ⟨g, ia, none⟩ = some (.string z) ∧ g < w1.heap.size ∧ pb < g := by
  have hl := h.1
  exact ⟨(h.cell z1 (by omega)).trans z0, by omega, z2⟩
theorem num_arr (i : Nat) (hi : i < 5) : ∃ z : ByteArray, z.size ≤ 20 ∧ (∀ (s u : ByteArray) (n : Nat), TextS s n → TextS u n → TextS (⟨#[40]⟩ ++ s ++ z ++ u ++ ⟨#[41]⟩) (n + n + 7)) ∧ ∀ w : World, (w.alloc (.cells #[.string ⟨#[32, 43, 32]⟩, .string ⟨#[32, 45, 32]⟩, .string ⟨#[32, 42, 32]⟩, .string ⟨#[32, 100, 105, 118, 32]⟩, .string ⟨#[32, 109, 111, 100, 32]⟩] 9)).cell? ⟨w.heap.size, i, none⟩ = some (.string z) := by
  have e : i = 0 ∨ i = 1 ∨ i = 2 ∨ i = 3 ∨ i = 4 := by omega
  rcases e with rfl | rfl | rfl | rfl | rfl
  · exact ⟨⟨#[32, 43, 32]⟩, by decide, fun s u n h h' => nu_op0 h h', fun w => by simp⟩
  · exact ⟨⟨#[32, 45, 32]⟩, by decide, fun s u n h h' => nu_op1 h h', fun w => by simp⟩
  · exact ⟨⟨#[32, 42, 32]⟩, by decide, fun s u n h h' => nu_op2 h h', fun w => by simp⟩
  · exact ⟨⟨#[32, 100, 105, 118, 32]⟩, by decide, fun s u n h h' => nu_op3 h h', fun w => by simp⟩
  · exact ⟨⟨#[32, 109, 111, 100, 32]⟩, by decide, fun s u n h h' => nu_op4 h h', fun w => by simp⟩
theorem tru_arr (i : Nat) (hi : i < 5) : ∃ z : ByteArray, z.size ≤ 20 ∧ (∀ (s u : ByteArray) (n : Nat), TextS s n → TextS u n → TextS (s ++ z ++ u) (n + n + 4)) ∧ ∀ w : World, (w.alloc (.cells #[.string ⟨#[32, 60, 32]⟩, .string ⟨#[32, 60, 61, 32]⟩, .string ⟨#[32, 62, 32]⟩, .string ⟨#[32, 62, 61, 32]⟩, .string ⟨#[32, 33, 61, 32]⟩] 9)).cell? ⟨w.heap.size, i, none⟩ = some (.string z) := by
  have e : i = 0 ∨ i = 1 ∨ i = 2 ∨ i = 3 ∨ i = 4 := by omega
  rcases e with rfl | rfl | rfl | rfl | rfl
  · exact ⟨⟨#[32, 60, 32]⟩, by decide, fun s u n h h' => (tr_op0 h h').more (by omega), fun w => by simp⟩
  · exact ⟨⟨#[32, 60, 61, 32]⟩, by decide, fun s u n h h' => (tr_op1 h h').more (by omega), fun w => by simp⟩
  · exact ⟨⟨#[32, 62, 32]⟩, by decide, fun s u n h h' => (tr_op2 h h').more (by omega), fun w => by simp⟩
  · exact ⟨⟨#[32, 62, 61, 32]⟩, by decide, fun s u n h h' => (tr_op3 h h').more (by omega), fun w => by simp⟩
  · exact ⟨⟨#[32, 33, 61, 32]⟩, by decide, fun s u n h h' => (tr_op4 h h').more (by omega), fun w => by simp⟩
theorem fn_arr (i : Nat) (hi : i < 3) : ∃ z : ByteArray, z.size ≤ 20 ∧ (∀ (s : ByteArray) (n i : Nat), TextS s n → i < 20 → TextS (z ++ ⟨#[40, 40]⟩ ++ s ++ ⟨#[44, 32, 49, 32, 116, 111, 32]⟩ ++ ⟨(Lib.decDigits i).toArray⟩ ++ ⟨#[41, 41]⟩) (n + 30)) ∧ ∀ w : World, (w.alloc (.cells #[.string ⟨#[114, 101, 118, 101, 114, 115, 101]⟩, .string ⟨#[100, 105, 115, 116, 105, 110, 99, 116, 45, 118, 97, 108, 117, 101, 115]⟩, .string ⟨#[100, 97, 116, 97]⟩] 9)).cell? ⟨w.heap.size, i, none⟩ = some (.string z) := by
  have e : i = 0 ∨ i = 1 ∨ i = 2 := by omega
  rcases e with rfl | rfl | rfl
  · exact ⟨⟨#[114, 101, 118, 101, 114, 115, 101]⟩, by decide, fun s n i h hi => (qu_fn0 h hi).more (by omega), fun w => by simp⟩
  · exact ⟨⟨#[100, 105, 115, 116, 105, 110, 99, 116, 45, 118, 97, 108, 117, 101, 115]⟩, by decide, fun s n i h hi => (qu_fn1 h hi).more (by omega), fun w => by simp⟩
  · exact ⟨⟨#[100, 97, 116, 97]⟩, by decide, fun s n i h hi => (qu_fn2 h hi).more (by omega), fun w => by simp⟩
theorem ord_arr (i : Nat) (hi : i < 2) : ∃ z : ByteArray, z.size ≤ 20 ∧ (∀ (s : ByteArray) (n : Nat), TextS s n → TextS (⟨#[40, 102, 111, 114, 32, 36, 118, 32, 97, 116, 32, 36, 105, 32, 105, 110, 32]⟩ ++ s ++ ⟨#[32, 119, 104, 101, 114, 101, 32, 36, 105, 32, 60, 32, 51, 32, 111, 114, 100, 101, 114, 32, 98, 121, 32, 36, 105]⟩ ++ z ++ ⟨#[32, 114, 101, 116, 117, 114, 110, 32, 40, 36, 105, 44, 32, 36, 118, 41, 41]⟩) (n + 80)) ∧ ∀ w : World, (w.alloc (.cells #[.string ⟨#[]⟩, .string ⟨#[32, 100, 101, 115, 99, 101, 110, 100, 105, 110, 103]⟩] 9)).cell? ⟨w.heap.size, i, none⟩ = some (.string z) := by
  have e : i = 0 ∨ i = 1 := by omega
  rcases e with rfl | rfl
  · exact ⟨⟨#[]⟩, by decide, fun s n h => (qu_ord0 h).more (by omega), fun w => by simp⟩
  · exact ⟨⟨#[32, 100, 101, 115, 99, 101, 110, 100, 105, 110, 103]⟩, by decide, fun s n h => (qu_ord1 h).more (by omega), fun w => by simp⟩
end Go.Proofs.YtbpggpnmbfjadaaDoor
