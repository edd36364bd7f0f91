/-
  EXPRESSIONS THAT COME IN, opened: what they read as gives them, and where they lie.
-/
import Derived.Test.YtlllgelolmkapaaDoorCfCount
import Derived.Test.YtlllgelolmkapaaDoorRlOpen
set_option linter.unusedVariables false
namespace Go.Proofs.YtlllgelolmkapaaDoor
set_option maxRecDepth 100000
open Go.RowKit Go.ChangeShapes Go.WideShapes Go.Deep

theorem cellsExpr : Tryd.prog.cellsOf 28 = 11 := by kernel_rfl
theorem cellsTest : Tryd.prog.cellsOf 25 = 2 := by kernel_rfl
theorem cellsExprs : Tryd.prog.cellsOf 26 = 1 := by kernel_rfl
theorem open_eight {H : Type} {enc : TypeId × Value → H} {P : Program} {w : World} {t : TypeId} {f0 f1 f2 f3 f4 f5 f6 f7 : Field} {fuel : Nat} {cs : List Value} {x : DataW H × List MemPlace} (ht : P.underlying t = some (.struct #[f0, f1, f2, f3, f4, f5, f6, f7]))
    (h : DataW.trod enc P w 0 (fun _ => true) true fuel t cs = some x) : ∃ n y0 y1 y2 y3 y4 y5 y6 y7, x.1 = .agg [y0.1, y1.1, y2.1, y3.1, y4.1, y5.1, y6.1, y7.1] ∧ cs.length = P.cellsOf t ∧ DataW.trod enc P w 0 (fun _ => true) true n f0.type ((cs.drop f0.offset).take (P.cellsOf f0.type)) = some y0 ∧ DataW.trod enc P w 0 (fun _ => true) true n f1.type ((cs.drop f1.offset).take (P.cellsOf f1.type)) = some y1 ∧ DataW.trod enc P w 0 (fun _ => true) true n f2.type ((cs.drop f2.offset).take (P.cellsOf f2.type)) = some y2 ∧ DataW.trod enc P w 0 (fun _ => true) true n f3.type ((cs.drop f3.offset).take (P.cellsOf f3.type)) = some y3 ∧ DataW.trod enc P w 0 (fun _ => true) true n f4.type ((cs.drop f4.offset).take (P.cellsOf f4.type)) = some y4 ∧ DataW.trod enc P w 0 (fun _ => true) true n f5.type ((cs.drop f5.offset).take (P.cellsOf f5.type)) = some y5 ∧ DataW.trod enc P w 0 (fun _ => true) true n f6.type ((cs.drop f6.offset).take (P.cellsOf f6.type)) = some y6 ∧ DataW.trod enc P w 0 (fun _ => true) true n f7.type ((cs.drop f7.offset).take (P.cellsOf f7.type)) = some y7 := by
  obtain ⟨xs, n, _, rfl, hl, hlen, hf⟩ := DataW.trod_struct ht h
  match xs, hlen with
  | [y0, y1, y2, y3, y4, y5, y6, y7], _ =>
    exact ⟨n, y0, y1, y2, y3, y4, y5, y6, y7, rfl, hl, by simpa using hf 0 f0 rfl, by simpa using hf 1 f1 rfl, by simpa using hf 2 f2 rfl, by simpa using hf 3 f3 rfl, by simpa using hf 4 f4 rfl, by simpa using hf 5 f5 rfl, by simpa using hf 6 f6 rfl, by simpa using hf 7 f7 rfl⟩
theorem open_two {H : Type} {enc : TypeId × Value → H} {P : Program} {w : World} {t : TypeId} {f0 f1 : Field} {fuel : Nat} {cs : List Value} {x : DataW H × List MemPlace} (ht : P.underlying t = some (.struct #[f0, f1]))
    (h : DataW.trod enc P w 0 (fun _ => true) true fuel t cs = some x) : ∃ n y0 y1, cs.length = P.cellsOf t ∧ DataW.trod enc P w 0 (fun _ => true) true n f0.type ((cs.drop f0.offset).take (P.cellsOf f0.type)) = some y0 ∧ DataW.trod enc P w 0 (fun _ => true) true n f1.type ((cs.drop f1.offset).take (P.cellsOf f1.type)) = some y1 := by
  obtain ⟨xs, n, _, rfl, hl, hlen, hf⟩ := DataW.trod_struct ht h
  match xs, hlen with
  | [y0, y1], _ => exact ⟨n, y0, y1, hl, by simpa using hf 0 f0 rfl, by simpa using hf 1 f1 rfl⟩
theorem open_test {H : Type} {enc : TypeId × Value → H} {W : World} {n : Nat} {cs : List Value} {x : DataW H × List MemPlace} (h : DataW.trod enc Tryd.prog W 0 (fun _ => true) true n 25 cs = some x) :
    ∃ (k : Int) (s : ByteArray), cs = [.int .i64 k, .string s] := by
  obtain ⟨m, y0, y1, hl, h0, h1⟩ := open_two Tryd.underlying25 h
  rw [cellsTest] at hl
  match cs, hl with
  | [c0, c1], _ =>
    simp only [cells3, cells9, List.drop_zero, List.drop_succ_cons, List.take_succ_cons, List.take_zero] at h0 h1
    obtain ⟨k, e0, _, _⟩ := DataW.trod_int Tryd.underlying3 h0
    obtain ⟨v, e1, _, _⟩ := DataW.trod_string Tryd.underlying9 h1
    simp only [List.cons.injEq, and_true] at e0 e1
    subst e0 e1
    exact ⟨k, v, rfl⟩
theorem bulkAll_app {H : Type} (a b : List (DataW H)) : Rows.uptoBulkAll (a ++ b) = Rows.uptoBulkAll a + Rows.uptoBulkAll b := by
  induction a with
  | nil => simp [Rows.uptoBulkAll]
  | cons x r ih => simp only [List.cons_append, Rows.uptoBulkAll, ih]; omega
theorem bulk_range {H : Type} (D : Nat → DataW H) (m : Nat) : Rows.uptoBulkAll ((List.range m).map D) = sumTo (fun i => Rows.uptoBulk (D i)) m := by
  induction m with
  | zero => rfl
  | succ m ih =>
    rw [List.range_succ, List.map_append, bulkAll_app, ih]
    simp only [List.map_cons, List.map_nil, Rows.uptoBulkAll, sumTo]
    omega
theorem sumTo_at {f : Nat → Nat} {i m : Nat} (h : i < m) : f i ≤ sumTo f m := by
  have := sumTo_part f h
  omega
theorem sumTo_le_of {f g : Nat → Nat} : ∀ m, (∀ i, i < m → f i ≤ g i) → sumTo f m ≤ sumTo g m
  | 0, _ => Nat.le_refl _
  | m + 1, h => by have := sumTo_le_of m (fun i hi => h i (by omega)); have := h m (by omega); simp only [sumTo]; omega
/-- an expression's cells as they lie there -/
theorem at_of {W : World} {b off i : Nat} {cs : List Value} {e : Ex} (hb : b < W.heap.size) (h : ∀ r, r < 11 → W.cell? ⟨b, off + i * 11 + r, none⟩ = cs[r]?) (hV : e.V W W.heap.size (.agg cs.toArray)) : e.At W W.heap.size b (off + i * 11) := by
  cases e with
  | no => exact hV.elim
  | mk k it nm a n ax tk tn m A =>
    obtain ⟨sl, cap, h1, s1, s2, s3, h5, h6, h7⟩ := hV
    have h1' : cs = [.int .i64 k, .int .i64 it.kind, .int .i64 it.n, .string it.s, .string nm, .string a, .int .i64 n, .int .i64 ax, .int .i64 tk, .string tn, .slice sl m cap] := by simpa using h1
    subst h1'
    exact ⟨hb, sl, cap, ⟨h 0 (by omega), h 1 (by omega), h 2 (by omega), h 3 (by omega), h 4 (by omega), h 5 (by omega), h 6 (by omega), h 7 (by omega), h 8 (by omega), h 9 (by omega), h 10 (by omega), s1, s2, s3⟩, h5, h6, h7⟩
theorem open_ex {H : Type} {enc : TypeId × Value → H} {W : World} : ∀ (N : Nat) {fuel : Nat} {cs : List Value} {x : DataW H × List MemPlace}, Rows.uptoBulk x.1 ≤ N → DataW.trod enc Tryd.prog W 0 (fun _ => true) true fuel 28 cs = some x →
    ∃ e : Ex, e.V W W.heap.size (.agg cs.toArray) ∧ nodesX e ≤ Rows.uptoBulk x.1 := by
  intro N
  induction N using Nat.strongRecOn with
  | ind N ih =>
    intro fuel cs x hN h
    obtain ⟨m, y0, y1, y2, y3, y4, y5, y6, y7, hx, hl, h0, h1, h2, h3, h4, h5, h6, h7⟩ := open_eight Tryd.underlying28 h
    rw [cellsExpr] at hl
    match cs, hl with
    | [c0, c1, c2, c3, c4, c5, c6, c7, c8, c9, c10], _ =>
      simp only [cells3, cells9, cellsItem, cellsTest, cellsExprs, List.drop_zero, List.drop_succ_cons, List.take_succ_cons, List.take_zero] at h0 h1 h2 h3 h4 h5 h6 h7
      obtain ⟨k, e0, _, _⟩ := DataW.trod_int Tryd.underlying3 h0
      obtain ⟨it, e1, s1⟩ := open_item h1
      obtain ⟨nm, e2, _, s2⟩ := DataW.trod_string Tryd.underlying9 h2
      obtain ⟨at_, e3, _, s3⟩ := DataW.trod_string Tryd.underlying9 h3
      obtain ⟨n, e4, _, _⟩ := DataW.trod_int Tryd.underlying3 h4
      obtain ⟨ax, e5, _, _⟩ := DataW.trod_int Tryd.underlying3 h5
      obtain ⟨tk, tn, e6⟩ := open_test h6
      simp only [List.cons.injEq, and_true] at e0 e1 e2 e3 e4 e5 e6
      obtain ⟨rfl, rfl, rfl⟩ := e1
      obtain ⟨rfl, rfl⟩ := e6
      subst e0 e2 e3 e4 e5
      have hbx : Rows.uptoBulk y7.1 + 1 ≤ Rows.uptoBulk x.1 := by
        rw [hx]
        simp only [Rows.uptoBulk, Rows.uptoBulkAll]
        omega
      rcases open_slice Tryd.underlying26 h7 with ⟨e7, _⟩ | ⟨a, len, cap, mm, n7, D, Pl, e7, hb, hlc, hm, hmm, hy7, hel⟩
      · simp only [List.cons.injEq, and_true] at e7
        subst e7
        refine ⟨.mk k it nm at_ n ax tk tn 0 (fun _ => .no), ?_, ?_⟩
        · exact ⟨none, 0, rfl, s1, s2, s3, Nat.le_refl _, Nat.zero_le _, fun h => absurd h (Nat.lt_irrefl 0)⟩
        · rw [nodes_is]; show 1 + 0 ≤ _; omega
      · simp only [List.cons.injEq, and_true] at e7
        subst e7
        simp only [if_true] at hmm
        subst hmm
        have hsum : sumTo (fun i => Rows.uptoBulk (D i)) len + 1 ≤ Rows.uptoBulk y7.1 := by
          rw [hy7]
          simp only [Rows.uptoBulk]
          rw [bulk_range]
          omega
        haveI : Inhabited Ex := ⟨.no⟩
        obtain ⟨A, hA⟩ := choose_lt (α := Ex) (n := len) (p := fun i (e : Ex) => (∃ cs', W.cells? 0 (a.add (i * 11)) 11 = some cs' ∧ e.V W W.heap.size (.agg cs'.toArray)) ∧ nodesX e ≤ Rows.uptoBulk (D i)) (fun i hi => by
          obtain ⟨cs', g1, g2⟩ := hel i (by omega)
          rw [cellsExpr] at g1
          have hi1 : Rows.uptoBulk (D i) ≤ sumTo (fun i => Rows.uptoBulk (D i)) len := sumTo_at (f := fun i => Rows.uptoBulk (D i)) hi
          obtain ⟨e, k1, k2⟩ := ih (Rows.uptoBulk (D i)) (by omega) (x := (D i, Pl i)) (Nat.le_refl _) g2
          exact ⟨e, ⟨cs', g1, k1⟩, k2⟩)
        refine ⟨.mk k it nm at_ n ax tk tn len A, ?_, ?_⟩
        · refine ⟨some a, mm, rfl, s1, s2, s3, hlc, hm, fun h0 => ?_⟩
          obtain ⟨⟨cs0, g1, _⟩, _⟩ := hA 0 h0
          obtain ⟨b, off, spot⟩ := a
          obtain ⟨_, hlen, g00⟩ := World.cells?_some g1
          have g0 := g00 0 (by omega)
          rw [Nat.zero_mul] at g0
          have hc0 : cs0[0]? = some (cs0[0]'(by omega)) := List.getElem?_eq_getElem (by omega)
          rw [hc0] at g0
          have hspot : spot = none := by simpa [Addr.add] using World.cell?_spot g0
          subst hspot
          have hb0 : b < W.heap.size := by simpa [Addr.add] using block_lt g0
          refine ⟨b, off, rfl, hb0, fun i hi => ?_⟩
          obtain ⟨⟨cs', g2, g3⟩, _⟩ := hA i hi
          refine at_of hb0 (fun r hr => ?_) g3
          have g4 := (World.cells?_some g2).2.2 r hr
          rw [← g4, add_plain, add_plain]
        · rw [nodes_is]
          have h8 := sumTo_le_of (f := fun i => nodesX (A i)) (g := fun i => Rows.uptoBulk (D i)) len (fun i hi => (hA i hi).2)
          omega
theorem open_exv {H : Type} {enc : TypeId × Value → H} {W : World} {r : Reach} {b0 : Nat} {v : Value} {d : DataW H} {p : List MemPlace} (hv : Value.okWide Tryd.prog W r b0 28 v) (h : DataW.Trod enc Tryd.prog W 0 (fun _ => true) true 28 v d p) :
    ∃ e : Ex, e.V W W.heap.size v ∧ nodesX e ≤ Rows.uptoBulk d := by
  obtain ⟨cs, rfl, hsz⟩ := okWide_struct Tryd.underlying28 hv
  obtain ⟨fuel, hf⟩ := h
  obtain ⟨e, h1, h2⟩ := open_ex _ (Nat.le_refl _) hf
  refine ⟨e, ?_, h2⟩
  simpa [Value.cells] using h1
end Go.Proofs.YtlllgelolmkapaaDoor
