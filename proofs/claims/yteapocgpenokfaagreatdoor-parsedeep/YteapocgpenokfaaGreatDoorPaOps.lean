/-
  THE TABLE OF OPERATORS, out of what a row lists.
-/
import Derived.Test.YteapocgpenokfaaGreatDoorPaPred
import Derived.Test.YteapocgpenokfaaGreatDoorTkOpen
set_option linter.unusedVariables false
namespace Go.Proofs.YteapocgpenokfaaGreatDoor
set_option maxRecDepth 100000
open Go.RowKit Go.ChangeShapes Go.WideShapes

theorem cellsOpers : Tryz.prog.cellsOf 120 = 42 := by kernel_rfl
theorem cellsOper : Tryz.prog.cellsOf 119 = 2 := by kernel_rfl
theorem cellsThree : Tryz.prog.cellsOf 3 = 1 := by kernel_rfl
theorem gOpers : Tryz.prog.globalNamed "pleacher/read.operators" = some 4 := by kernel_rfl
theorem gOpersType : (Tryz.prog.globals[4]?).map (·.type) = some 120 := by kernel_rfl
theorem opers_data (k : Nat) (hk : k < 21) : ∃ ds : List (DataW Unit), Rows.laid_pleacher_read_operators = .agg ds ∧ ds[k]? = some (.agg [.lit (.string (opN k).data.toList), .lit (.int .i64 (opB k))]) := by
  refine ⟨_, rfl, ?_⟩
  have : k = 0 ∨ k = 1 ∨ k = 2 ∨ k = 3 ∨ k = 4 ∨ k = 5 ∨ k = 6 ∨ k = 7 ∨ k = 8 ∨ k = 9 ∨ k = 10 ∨ k = 11 ∨ k = 12 ∨ k = 13 ∨ k = 14 ∨ k = 15 ∨ k = 16 ∨ k = 17 ∨ k = 18 ∨ k = 19 ∨ k = 20 := by omega
  rcases this with rfl | rfl | rfl | rfl | rfl | rfl | rfl | rfl | rfl | rfl | rfl | rfl | rfl | rfl | rfl | rfl | rfl | rfl | rfl | rfl | rfl <;> rfl
theorem opCells_at (k : Nat) (hk : k < 21) : (opCells.toList.drop (k * 2)).take 2 = [.string (opN k), .int .i64 (opB k)] := by
  have : k = 0 ∨ k = 1 ∨ k = 2 ∨ k = 3 ∨ k = 4 ∨ k = 5 ∨ k = 6 ∨ k = 7 ∨ k = 8 ∨ k = 9 ∨ k = 10 ∨ k = 11 ∨ k = 12 ∨ k = 13 ∨ k = 14 ∨ k = 15 ∨ k = 16 ∨ k = 17 ∨ k = 18 ∨ k = 19 ∨ k = 20 := by omega
  rcases this with rfl | rfl | rfl | rfl | rfl | rfl | rfl | rfl | rfl | rfl | rfl | rfl | rfl | rfl | rfl | rfl | rfl | rfl | rfl | rfl | rfl <;> rfl
theorem pairs_eq {a b : List Value} {n : Nat} (ha : a.length = n * 2) (hb : b.length = n * 2) (h : ∀ k, k < n → (a.drop (k * 2)).take 2 = (b.drop (k * 2)).take 2) : a = b := by
  refine List.ext_getElem? fun i => ?_
  by_cases hi : i < n * 2
  · have hk := h (i / 2) (by omega)
    have h1 := congrArg (fun l : List Value => l[i % 2]?) hk
    simp only [List.getElem?_take, List.getElem?_drop] at h1
    rw [if_pos (by omega), if_pos (by omega), show i / 2 * 2 + i % 2 = i by omega] at h1
    exact h1
  · rw [List.getElem?_eq_none (by omega), List.getElem?_eq_none (by omega)]
/-- what a row lists gives the table of operators -/
theorem opers_of {W : World} {l : List (String × DataW Unit)} (hL : laidMet Tryz.prog l W) (he : ("pleacher/read.operators", Rows.laid_pleacher_read_operators) ∈ l) : OpTab W := by
  obtain ⟨g, t, cs, fuel, p, hg, hty, hvar, hd⟩ := Lib.laidMet.reads hL he
  obtain rfl := Option.some.inj (gOpers.symm.trans hg)
  obtain rfl := Option.some.inj (gOpersType.symm.trans hty)
  have hlen : cs.toList.length = 21 * 2 := by
    obtain ⟨xs, m, _, _, h, _⟩ := DataW.trod_array Tryz.underlying120 hd
    rw [h, cellsOpers]
  have hcs : cs = opCells := by
    refine Array.toList_inj.1 (pairs_eq hlen rfl fun k hk => ?_)
    rw [opCells_at k hk]
    obtain ⟨ds, e1, e2⟩ := opers_data k hk
    rw [e1] at hd
    obtain ⟨f, d, q, h1, h2⟩ := Lib.array_elem Tryz.underlying120 hd k hk
    rw [e2] at h1
    obtain rfl := Option.some.inj h1
    rw [cellsOper] at h2
    generalize hz : (cs.toList.drop (k * 2)).take 2 = zs at h2
    obtain ⟨y0, y1, m, ex, hl, g0, g1⟩ := trod_struct2 Tryz.underlying119 h2
    rw [cellsOper] at hl
    match zs, hl with
    | [c0, c1], _ =>
      simp only [cellsThree, cells9, List.drop_zero, List.drop_succ_cons, List.take_succ_cons, List.take_zero] at g0 g1
      obtain ⟨s, a0, b0, _⟩ := DataW.trod_string Tryz.underlying9 g0
      obtain ⟨n, a1, b1, _⟩ := DataW.trod_int Tryz.underlying3 g1
      simp only [Prod.mk.injEq, DataW.agg.injEq, List.cons.injEq, and_true] at ex
      obtain ⟨⟨x0, x1⟩, _⟩ := ex
      rw [b0] at x0
      rw [b1] at x1
      simp only [DataW.lit.injEq, Lit.string.injEq, Lit.int.injEq, true_and] at x0 x1
      simp only [List.cons.injEq, and_true] at a0 a1
      rw [a0, a1]
      have hs : s = opN k := by
        cases hh : s; cases hj : opN k
        rw [hh, hj] at x0
        congr 1
        exact (Array.toList_inj.1 x0).symm
      rw [hs, x1]
  subst hcs
  unfold World.var? at hvar
  rw [gOpers] at hvar
  simp only [Option.bind_some] at hvar
  unfold OpTab
  cases hh : W.heap[4]? with
  | none => rw [hh] at hvar; cases hvar
  | some o =>
    rw [hh] at hvar
    cases o with
    | cells c t fr => simp only [Option.some.injEq] at hvar; subst hvar; exact ⟨t, fr, rfl⟩
    | _ => cases hvar
end Go.Proofs.YteapocgpenokfaaGreatDoor
