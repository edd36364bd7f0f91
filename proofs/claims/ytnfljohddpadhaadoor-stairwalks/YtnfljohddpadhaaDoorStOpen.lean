/-
  NUMBERS AND TESTS THAT COME IN, opened.
-/
import Derived.Test.YtnfljohddpadhaaDoorStTop
import Derived.Deep.Strs
import Derived.Deep.Slices
import Derived.ProofKit
import Derived.WalkKit
import Derived.SizedLaws
set_option linter.unusedVariables false
namespace Go.Proofs.YtnfljohddpadhaaDoor
set_option maxRecDepth 100000
open Go.RowKit Go.ChangeShapes Go.WideShapes Go.Deep

/-- a list of numbers that comes in -/
theorem open_nums {H : Type} {enc : TypeId × Value → H} {W : World} {fuel : Nat} {v : Value} {x : DataW H × List MemPlace} (h : DataW.trod enc Tryd.prog W 0 (fun _ => true) true fuel 23 [v] = some x) :
    ∃ (n : Nat) (Z : Nat → Int), NumsIs W v n Z ∧ (0 < n → ∃ els sp, x.1 = .slice els sp ∧ n ≤ els.length + sp.length) ∧ (∀ c, v = .slice none 0 c → c = 0) := by
  rcases open_slice1 Tryd.underlying23 cells3 h with ⟨h1, _⟩ | ⟨a, len, cap, m, n, V, D, Pl, h1, hb, hl, hm, hmm, rfl, hx⟩
  · simp only [List.cons.injEq, and_true] at h1
    exact ⟨0, fun _ => 0, ⟨none, 0, h1, Nat.le_refl _, Nat.zero_le _, fun h => by omega⟩, fun h => by omega, fun c hc => by rw [h1] at hc; simp at hc; exact hc.symm⟩
  simp only [if_true] at hmm
  subst hmm
  simp only [List.cons.injEq, and_true] at h1
  subst h1
  haveI : Inhabited Int := ⟨0⟩
  obtain ⟨Z, hZ⟩ := choose_lt (α := Int) (n := m) (p := fun i (k : Int) => W.cell? (a.add i) = some (.int .i64 k)) (fun i hi => by
    obtain ⟨h1, h2⟩ := hx i hi
    obtain ⟨k, e, _, _⟩ := DataW.trod_int Tryd.underlying3 h2
    simp only [List.cons.injEq, and_true] at e
    exact ⟨k, e ▸ h1⟩)
  refine ⟨len, Z, ⟨some a, m, rfl, hl, hm, fun h0 => ?_⟩, fun h0 => ⟨_, _, rfl, by simp⟩, fun c hc => by simp at hc⟩
  obtain ⟨b, off, spot⟩ := a
  have h00 := hZ 0 (by omega)
  have hspot : spot = none := by simpa [Addr.add] using World.cell?_spot h00
  subst hspot
  refine ⟨b, off, rfl, by simpa [Addr.add] using block_lt h00, fun i hi => ?_⟩
  have := hZ i (by omega)
  rwa [add_plain] at this
theorem cellsTest : Tryd.prog.cellsOf 25 = 2 := by kernel_rfl
theorem open_test {H : Type} {enc : TypeId × Value → H} {W : World} {n : Nat} {cs : List Value} {x : DataW H × List MemPlace} (h : DataW.trod enc Tryd.prog W 0 (fun _ => true) true n 25 cs = some x) :
    ∃ (k : Int) (s : ByteArray), cs = [.int .i64 k, .string s] ∧ s.size ≤ maxLen := by
  obtain ⟨y0, y1, m, hx, hl, h0, h1⟩ := trod_struct2 Tryd.underlying25 h
  rw [cellsTest] at hl
  match cs, hl with
  | [c0, c1], _ =>
    simp only [cells3, cells9, List.drop_zero, List.drop_succ_cons, List.take_succ_cons, List.take_zero] at h0 h1
    obtain ⟨k, e0, _, _⟩ := DataW.trod_int Tryd.underlying3 h0
    obtain ⟨v, e1, _, s1⟩ := DataW.trod_string Tryd.underlying9 h1
    simp only [List.cons.injEq, and_true] at e0 e1
    subst e0 e1
    exact ⟨k, v, rfl, s1⟩
theorem open_testv {H : Type} {enc : TypeId × Value → H} {W : World} {r : Reach} {b0 : Nat} {v : Value} {d : DataW H} {p : List MemPlace} (hv : Value.okWide Tryd.prog W r b0 25 v) (h : DataW.Trod enc Tryd.prog W 0 (fun _ => true) true 25 v d p) :
    ∃ (k : Int) (s : ByteArray), v = .agg #[.int .i64 k, .string s] ∧ s.size ≤ maxLen := by
  obtain ⟨cs, rfl, hsz⟩ := okWide_struct Tryd.underlying25 hv
  obtain ⟨fuel, hf⟩ := h
  obtain ⟨k, s, he, hs⟩ := open_test hf
  refine ⟨k, s, ?_, hs⟩
  simp only [Value.cells] at he
  rw [show cs = #[.int .i64 k, .string s] from Array.toList_inj.1 he]
end Go.Proofs.YtnfljohddpadhaaDoor
