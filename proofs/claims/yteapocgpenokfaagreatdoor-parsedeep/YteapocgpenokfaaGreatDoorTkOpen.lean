/-
  A TOKEN THAT COMES IN, opened; the table of marks out of what a row lists.
-/
import Derived.Test.YteapocgpenokfaaGreatDoorTkMark
import Derived.Test.YteapocgpenokfaaGreatDoorLaidS
import Derived.Deep.Strs
import Derived.Deep.Slices
import Derived.ProofKit
import Derived.WalkKit
import Derived.SizedLaws
import Derived.OpenShut
import Derived.Lib.LaidU8
set_option linter.unusedVariables false
namespace Go.Proofs.YteapocgpenokfaaGreatDoor
set_option maxRecDepth 100000
open Go.RowKit Go.ChangeShapes Go.WideShapes Go.ChangeAt Go.Deep

theorem cellsTok : Tryz.prog.cellsOf 41 = 3 := by kernel_rfl
theorem cells3 : Tryz.prog.cellsOf 3 = 1 := by kernel_rfl
theorem cells9 : Tryz.prog.cellsOf 9 = 1 := by kernel_rfl
/-- a token's cells -/
theorem open_token {H : Type} {enc : TypeId × Value → H} {W : World} {n : Nat} {cs : List Value} {x : DataW H × List MemPlace} (h : DataW.trod enc Tryz.prog W 0 (fun _ => true) true n 41 cs = some x) :
    ∃ (k : Int) (s : ByteArray) (m : Int), cs = [.int .i64 k, .string s, .int .i64 m] ∧ s.size ≤ maxLen := by
  obtain ⟨y0, y1, y2, m, rfl, hl, h0, h1, h2⟩ := trod_struct3 Tryz.underlying41 h
  rw [cellsTok] at hl
  match cs, hl with
  | [c0, c1, c2], _ =>
    simp only [cells3, cells9, List.drop_zero, List.drop_succ_cons, List.take_succ_cons, List.take_zero] at h0 h1 h2
    obtain ⟨k, e0, _, _⟩ := DataW.trod_int Tryz.underlying3 h0
    obtain ⟨v, e1, _, s1⟩ := DataW.trod_string Tryz.underlying9 h1
    obtain ⟨nm, e2, _, _⟩ := DataW.trod_int Tryz.underlying3 h2
    simp only [List.cons.injEq, and_true] at e0 e1 e2
    subst e0 e1 e2
    exact ⟨k, v, nm, rfl, s1⟩
/-- a token that is handed in -/
theorem open_tokenv {H : Type} {enc : TypeId × Value → H} {W : World} {r : Reach} {b0 : Nat} {v : Value} {d : DataW H} {p : List MemPlace} (hv : Value.okWide Tryz.prog W r b0 41 v) (h : DataW.Trod enc Tryz.prog W 0 (fun _ => true) true 41 v d p) :
    ∃ (k : Int) (s : ByteArray) (m : Int), v = .agg #[.int .i64 k, .string s, .int .i64 m] ∧ s.size ≤ maxLen := by
  obtain ⟨cs, rfl, hsz⟩ := okWide_struct Tryz.underlying41 hv
  obtain ⟨fuel, hf⟩ := h
  obtain ⟨k, s, m, he, hs⟩ := open_token hf
  refine ⟨k, s, m, ?_, hs⟩
  simp only [Value.cells] at he
  rw [show cs = #[.int .i64 k, .string s, .int .i64 m] from Array.toList_inj.1 he]

theorem cellsMarks : Tryz.prog.cellsOf 90 = 26 := by kernel_rfl
theorem gMarks : Tryz.prog.globalNamed "pleacher/read.marks" = some 0 := by kernel_rfl
theorem gMarksType : (Tryz.prog.globals[0]?).map (·.type) = some 90 := by kernel_rfl
theorem marks_data (k : Nat) (hk : k < 26) : ∃ ds : List (DataW Unit), Rows.laid_pleacher_read_marks = .agg ds ∧ ds[k]? = some (.lit (.string (mkAt k))) := by
  refine ⟨_, rfl, ?_⟩
  have : k = 0 ∨ k = 1 ∨ k = 2 ∨ k = 3 ∨ k = 4 ∨ k = 5 ∨ k = 6 ∨ k = 7 ∨ k = 8 ∨ k = 9 ∨ k = 10 ∨ k = 11 ∨ k = 12 ∨ k = 13 ∨ k = 14 ∨ k = 15 ∨ k = 16 ∨ k = 17 ∨ k = 18 ∨ k = 19 ∨ k = 20 ∨ k = 21 ∨ k = 22 ∨ k = 23 ∨ k = 24 ∨ k = 25 := by omega
  rcases this with rfl | rfl | rfl | rfl | rfl | rfl | rfl | rfl | rfl | rfl | rfl | rfl | rfl | rfl | rfl | rfl | rfl | rfl | rfl | rfl | rfl | rfl | rfl | rfl | rfl | rfl <;> rfl
theorem mkCells_at (k : Nat) (hk : k < 26) : mkCells.toList[k]? = some (.string (mkS k)) := by
  have : k = 0 ∨ k = 1 ∨ k = 2 ∨ k = 3 ∨ k = 4 ∨ k = 5 ∨ k = 6 ∨ k = 7 ∨ k = 8 ∨ k = 9 ∨ k = 10 ∨ k = 11 ∨ k = 12 ∨ k = 13 ∨ k = 14 ∨ k = 15 ∨ k = 16 ∨ k = 17 ∨ k = 18 ∨ k = 19 ∨ k = 20 ∨ k = 21 ∨ k = 22 ∨ k = 23 ∨ k = 24 ∨ k = 25 := by omega
  rcases this with rfl | rfl | rfl | rfl | rfl | rfl | rfl | rfl | rfl | rfl | rfl | rfl | rfl | rfl | rfl | rfl | rfl | rfl | rfl | rfl | rfl | rfl | rfl | rfl | rfl | rfl <;> rfl
/-- what a row lists gives the table of marks -/
theorem marks_of {W : World} {l : List (String × DataW Unit)} (hL : laidMet Tryz.prog l W) (he : ("pleacher/read.marks", Rows.laid_pleacher_read_marks) ∈ l) : MarkTab W ∧ 0 < W.heap.size := by
  obtain ⟨g, t, cs, fuel, p, hg, hty, hvar, hd⟩ := Lib.laidMet.reads hL he
  obtain rfl := Option.some.inj (gMarks.symm.trans hg)
  obtain rfl := Option.some.inj (gMarksType.symm.trans hty)
  have hlen : cs.toList.length = 26 := by
    obtain ⟨xs, m, _, _, h, _⟩ := DataW.trod_array Tryz.underlying90 hd
    rw [h, cellsMarks]
  have hcs : cs = mkCells := by
    refine Array.toList_inj.1 (List.ext_getElem? fun k => ?_)
    by_cases hk : k < 26
    · obtain ⟨ds, e1, e2⟩ := marks_data k hk
      rw [e1] at hd
      obtain ⟨f, d, q, h1, h2⟩ := Lib.array_elem Tryz.underlying90 hd k hk
      rw [e2] at h1
      obtain rfl := Option.some.inj h1
      rw [cells9] at h2
      obtain ⟨s, e3, e4, _⟩ := DataW.trod_string Tryz.underlying9 h2
      simp only [Prod.mk.injEq, DataW.lit.injEq, Lit.string.injEq] at e4
      rw [mkCells_at k hk]
      have e5 : s = mkS k := by
        have := e4.1
        unfold mkS
        rw [this]
      rw [e5] at e3
      have := congrArg (fun l : List Value => l[0]?) e3
      simpa using this
    · rw [List.getElem?_eq_none (by omega), List.getElem?_eq_none (by show mkCells.toList.length ≤ k; have : mkCells.toList.length = 26 := rfl; omega)]
  subst hcs
  unfold World.var? at hvar
  rw [gMarks] at hvar
  simp only [Option.bind_some] at hvar
  unfold MarkTab
  cases hh : W.heap[0]? with
  | none => rw [hh] at hvar; cases hvar
  | some o =>
    rw [hh] at hvar
    have hlt : 0 < W.heap.size := by
      by_cases h : 0 < W.heap.size
      · exact h
      · rw [Array.getElem?_eq_none (by omega)] at hh; cases hh
    cases o with
    | cells c t fr => simp only [Option.some.injEq] at hvar; subst hvar; exact ⟨⟨t, fr, rfl⟩, hlt⟩
    | _ => cases hvar

/-- A WORLD FOR THE WITNESSES: the settled one, the variables holding what their initialisers lay. -/
noncomputable def laidWorldR (os : Os) : World :=
  let w0 := World.holding Tryz.prog os ⟨#[], #[], []⟩
  let put (h : Array Obj) (g : Nat) (cs : Array Value) : Array Obj := h.modify g fun
    | .cells _ t frozen => .cells cs t frozen
    | o => o
  let h1 := put w0.heap (Tryz.laysValid_ren.g 3) (Lib.firstTab.map fun z => Value.int .u8 z).toArray
  let h2 := put h1 (Tryz.laysValid_ren.g 4) ((List.range 16).flatMap fun i => [Value.int .u8 (Lib.accLo i), Value.int .u8 (Lib.accHi i)]).toArray
  let h3 := put h2 0 mkCells
  { w0 with heap := h3 }
end Go.Proofs.YteapocgpenokfaaGreatDoor
