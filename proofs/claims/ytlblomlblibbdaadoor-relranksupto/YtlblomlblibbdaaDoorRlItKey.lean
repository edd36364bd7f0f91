/-
  ITEMS AS KEYS.
-/
import Derived.Test.YtlblomlblibbdaaDoorRlKept
import Derived.Maps.OwnSet
import Derived.DeepKeys5
set_option linter.unusedVariables false
namespace Go.Proofs.YtlblomlblibbdaaDoor
set_option maxRecDepth 100000
open Go.RowKit Go.WideShapes

/-- an item's value -/
def itV (x : It) : Value := .agg #[.int .i64 x.kind, .int .i64 x.n, .string x.s]
theorem itV_inj {x y : It} (h : itV x = itV y) : x = y := by
  unfold itV at h
  simp only [Value.agg.injEq, Array.mk.injEq, List.cons.injEq, Value.int.injEq, Value.string.injEq, true_and, and_true] at h
  obtain ⟨a, b, c⟩ := h
  cases x
  cases y
  simp only at a b c
  rw [a, b, c]
/-- what an item must be, to be a key -/
def fitI (x : It) : Prop := (Lit.int .i64 x.kind).wf = true ∧ (Lit.int .i64 x.n).wf = true ∧ x.s.size ≤ maxLen
theorem typesFew : Nat.ble (Tryd.prog.types.size + 2) 10000 = true := by kernel_rfl
theorem typesItem : Nat.ble (38 + 1) Tryd.prog.types.size = true := by kernel_rfl
theorem itemLaw : Go.Maps.Keyed Tryd.prog 38 := Go.Maps.Keyed.of_law (deep_law_gate (by kernel_rfl) (Nat.le_of_ble_eq_true typesFew) (Nat.le_of_ble_eq_true typesItem) (by kernel_rfl) (by kernel_rfl))
theorem item_lits (d : Nat) (x : It) (h : fitI x) : Tryd.prog.keyLits (d + 2) 38 [.int .i64 x.kind, .int .i64 x.n, .string x.s] = some [.int .i64 x.kind, .int .i64 x.n, .string x.s.data.toList] := by
  obtain ⟨h1, h2, h3⟩ := h
  simp [Program.keyLits, Tryd.underlying38, Tryd.underlying3, Tryd.underlying9, cellsItem, cells3, cells9, h1, h2, h3]
theorem itV_key (x : It) (h : fitI x) : ∃ l, keyOf Tryd.prog 38 (itV x) = some l := by
  obtain ⟨d, hd⟩ : ∃ d, Tryd.prog.types.size + 1 = d + 2 := ⟨Tryd.prog.types.size - 1, by
    have := Nat.le_of_ble_eq_true typesItem
    omega⟩
  have hls := item_lits d x h
  refine ⟨.string (keyBytes [.int .i64 x.kind, .int .i64 x.n, .string x.s.data.toList]), ?_⟩
  have h1 : Tryd.prog.keyType 38 = true := by kernel_rfl
  have h2 : (itV x).formed Tryd.prog 38 = true := by
    simp [itV, Value.formed, Tryd.underlying38, cellsItem]
  have h3 : (itV x).cells.toList = [.int .i64 x.kind, .int .i64 x.n, .string x.s] := by simp [itV, Value.cells]
  simp only [keyOf, Tryd.underlying38, h1, h2, h3, hd, hls]
  rfl
theorem fit_may {x : It} (h : mayI x = true) (hs : x.s.size ≤ maxLen) : fitI x := by
  unfold mayI at h
  have hk : (1 ≤ x.kind ∧ x.kind ≤ 4) ∧ -1099511627776 ≤ x.n ∧ x.n ≤ 1099511627776 := by
    by_cases h1 : x.kind = 1
    · rw [if_pos h1] at h
      have := of_decide_eq_true h
      omega
    · rw [if_neg h1] at h
      by_cases h2 : x.kind = 2
      · rw [if_pos h2] at h
        have := of_decide_eq_true h
        omega
      · rw [if_neg h2] at h
        by_cases h3 : x.kind = 3
        · rw [if_pos h3] at h
          have := of_decide_eq_true h
          omega
        · rw [if_neg h3] at h
          by_cases h4 : x.kind = 4
          · rw [if_pos h4] at h
            have := of_decide_eq_true h
            omega
          · rw [if_neg h4] at h
            cases h
  exact ⟨WalkArith.wf_i64 (by omega), WalkArith.wf_i64 (by omega), hs⟩
/-- all items of a relation that may be can be keys -/
theorem fit_rel {C : Nat → ByteArray} {n : Nat} {R : Nat → Row} {m : Nat} (h : relF C n R m = 0) (hg : RowsFine m R) : ∀ i, i < m → ∀ t, t < n → fitI ((R i).at_ t) := by
  intro i hi t ht
  have h1 := (relF_zero h).2.2 i hi
  have h2 := row_len h i hi
  unfold rowE at h1
  rw [if_pos h2] at h1
  refine fit_may ?_ ((hg.2 i hi).2 t (by omega))
  cases e : allB (R i).at_ (R i).len
  · rw [e] at h1; exact absurd h1 (by decide)
  · unfold allB at e
    rw [List.all_eq_true] at e
    exact e t (List.mem_range.2 (by omega))
/-- are two items the same? -/
def itB (x y : It) : Bool := x.kind == y.kind && (x.n == y.n && x.s.toList == y.s.toList)
theorem itB_iff {x y : It} : itB x y = true ↔ x = y := by
  unfold itB
  simp only [Bool.and_eq_true, beq_iff_eq]
  constructor
  · rintro ⟨h1, h2, h3⟩
    cases x
    cases y
    simp only at h1 h2 h3
    rw [h1, h2, (Lib.bytes_beq_iff _ _).1 (beq_iff_eq.2 h3)]
  · rintro rfl
    exact ⟨rfl, rfl, rfl⟩
theorem itB_no {x y : It} (h : itB x y = false) : ¬ x.kind = y.kind ∨ (x.kind = y.kind ∧ ¬ x.n = y.n) ∨ (x.kind = y.kind ∧ x.n = y.n ∧ (x.s.toList == y.s.toList) = false) := by
  by_cases h1 : x.kind = y.kind
  · by_cases h2 : x.n = y.n
    · refine .inr (.inr ⟨h1, h2, ?_⟩)
      unfold itB at h
      rwa [h1, h2, beq_self_eq_true, beq_self_eq_true, Bool.true_and, Bool.true_and] at h
    · exact .inr (.inl ⟨h1, h2⟩)
  · exact .inl h1
end Go.Proofs.YtlblomlblibbdaaDoor
