/-
  ITEMS AND RELATIONS THAT COME IN, opened: what they read as gives them, and where they lie.
-/
import Derived.Test.YtkcejelmohameaaGreatDoorUnroll
import Derived.Test.YtkcejelmohameaaGreatDoorRows
import Derived.Deep.Strs
import Derived.Deep.Slices
import Derived.ProofKit
import Derived.WalkKit
import Derived.SizedLaws
set_option linter.unusedVariables false
namespace Go.Proofs.YtkcejelmohameaaGreatDoor
set_option maxRecDepth 100000
open Go.RowKit Go.ChangeShapes Go.WideShapes Go.Deep

theorem cellsItem : Tryz.prog.cellsOf 67 = 3 := by kernel_rfl
theorem cells3 : Tryz.prog.cellsOf 3 = 1 := by kernel_rfl
theorem cells9 : Tryz.prog.cellsOf 9 = 1 := by kernel_rfl
theorem cellsStrs : Tryz.prog.cellsOf 35 = 1 := by kernel_rfl
theorem cellsRows : Tryz.prog.cellsOf 38 = 1 := by kernel_rfl
theorem cellsRel : Tryz.prog.cellsOf 40 = 2 := by kernel_rfl
theorem cellsItems : Tryz.prog.cellsOf 94 = 1 := by kernel_rfl
theorem block_lt {w : World} {a : Addr} {v : Value} (h : w.cell? a = some v) : a.block < w.heap.size := by
  unfold World.cell? at h
  by_cases hb : a.block < w.heap.size
  · exact hb
  · rw [Array.getElem?_eq_none (by omega)] at h
    cases h

/-- texts in memory -/
def StrsAt (w : World) (b off n : Nat) (C : Nat → ByteArray) : Prop := ∀ i, i < n → w.cell? ⟨b, off + i, none⟩ = some (.string (C i))
/-- the value is a list of n texts; if there are any they lie there -/
def StrsIs (w : World) (v : Value) (n : Nat) (C : Nat → ByteArray) : Prop :=
  ∃ a cap, v = .slice a n cap ∧ n ≤ cap ∧ cap ≤ maxLen ∧ (a = none → cap = 0) ∧ (0 < n → ∃ b off, a = some ⟨b, off, none⟩ ∧ b < w.heap.size ∧ StrsAt w b off n C)
/-- items in memory -/
def ItsAt (w : World) (b off n : Nat) (X : Nat → It) : Prop :=
  ∀ i, i < n → w.cell? ⟨b, off + i * 3, none⟩ = some (.int .i64 (X i).kind) ∧ w.cell? ⟨b, off + i * 3 + 1, none⟩ = some (.int .i64 (X i).n) ∧ w.cell? ⟨b, off + i * 3 + 2, none⟩ = some (.string (X i).s)
def ItsIs (w : World) (v : Value) (n : Nat) (X : Nat → It) : Prop :=
  ∃ a cap, v = .slice a n cap ∧ n ≤ cap ∧ cap ≤ maxLen ∧ (a = none → cap = 0) ∧ (0 < n → ∃ b off, a = some ⟨b, off, none⟩ ∧ b < w.heap.size ∧ ItsAt w b off n X)
/-- rows in memory: each a list of items -/
def RowsAt (w : World) (b off m : Nat) (R : Nat → Row) : Prop := ∀ i, i < m → ∃ u, w.cell? ⟨b, off + i, none⟩ = some u ∧ ItsIs w u (R i).len (R i).at_
def RowsIs (w : World) (v : Value) (m : Nat) (R : Nat → Row) : Prop :=
  ∃ a cap, v = .slice a m cap ∧ m ≤ cap ∧ cap ≤ maxLen ∧ (a = none → cap = 0) ∧ (0 < m → ∃ b off, a = some ⟨b, off, none⟩ ∧ b < w.heap.size ∧ RowsAt w b off m R)
theorem StrsAt.below {w w' : World} {b off n B : Nat} {C : Nat → ByteArray} (h : StrsAt w b off n C) (hb : Below B w w') (hB : b < B) : StrsAt w' b off n C :=
  fun i hi => (hb.cell (p := ⟨b, off + i, none⟩) hB).trans (h i hi)
theorem StrsIs.below {w w' : World} {v : Value} {n : Nat} {C : Nat → ByteArray} (h : StrsIs w v n C) (hb : Below w.heap.size w w') : StrsIs w' v n C := by
  obtain ⟨a, cap, h1, h2, h3, hn, h4⟩ := h
  refine ⟨a, cap, h1, h2, h3, hn, fun h0 => ?_⟩
  obtain ⟨b, off, h5, h6, h7⟩ := h4 h0
  exact ⟨b, off, h5, Nat.lt_of_lt_of_le h6 hb.size, h7.below hb h6⟩
theorem ItsAt.below {w w' : World} {b off n B : Nat} {X : Nat → It} (h : ItsAt w b off n X) (hb : Below B w w') (hB : b < B) : ItsAt w' b off n X :=
  fun i hi => ⟨(hb.cell (p := ⟨b, off + i * 3, none⟩) hB).trans (h i hi).1, (hb.cell (p := ⟨b, off + i * 3 + 1, none⟩) hB).trans (h i hi).2.1, (hb.cell (p := ⟨b, off + i * 3 + 2, none⟩) hB).trans (h i hi).2.2⟩
theorem ItsIs.below {w w' : World} {v : Value} {n : Nat} {X : Nat → It} (h : ItsIs w v n X) (hb : Below w.heap.size w w') : ItsIs w' v n X := by
  obtain ⟨a, cap, h1, h2, h3, hn, h4⟩ := h
  refine ⟨a, cap, h1, h2, h3, hn, fun h0 => ?_⟩
  obtain ⟨b, off, h5, h6, h7⟩ := h4 h0
  exact ⟨b, off, h5, Nat.lt_of_lt_of_le h6 hb.size, h7.below hb h6⟩
theorem RowsIs.below {w w' : World} {v : Value} {m : Nat} {R : Nat → Row} (h : RowsIs w v m R) (hb : Below w.heap.size w w') : RowsIs w' v m R := by
  obtain ⟨a, cap, h1, h2, h3, hn, h4⟩ := h
  refine ⟨a, cap, h1, h2, h3, hn, fun h0 => ?_⟩
  obtain ⟨b, off, h5, h6, h7⟩ := h4 h0
  refine ⟨b, off, h5, Nat.lt_of_lt_of_le h6 hb.size, fun i hi => ?_⟩
  obtain ⟨u, k1, k2⟩ := h7 i hi
  exact ⟨u, (hb.cell (p := ⟨b, off + i, none⟩) h6).trans k1, k2.below hb⟩
/-- what is asked of sizes: texts are texts, lists take fewer bytes than there may be -/
def StrsFine (n : Nat) (C : Nat → ByteArray) : Prop := n * 16 ≤ 140737488351232 ∧ ∀ i, i < n → (C i).size ≤ maxLen
def ItsFine (n : Nat) (X : Nat → It) : Prop := n * 32 ≤ 140737488351232 ∧ ∀ i, i < n → (X i).s.size ≤ maxLen
def RowsFine (m : Nat) (R : Nat → Row) : Prop := m * 24 ≤ 140737488351232 ∧ ∀ i, i < m → ItsFine (R i).len (R i).at_

/-- an item's cells -/
theorem open_item {H : Type} {enc : TypeId × Value → H} {W : World} {n : Nat} {cs : List Value} {x : DataW H × List MemPlace} (h : DataW.trod enc Tryz.prog W 0 (fun _ => true) true n 67 cs = some x) :
    ∃ e : It, cs = [.int .i64 e.kind, .int .i64 e.n, .string e.s] ∧ e.s.size ≤ maxLen := by
  obtain ⟨y0, y1, y2, m, rfl, hl, h0, h1, h2⟩ := trod_struct3 Tryz.underlying67 h
  rw [cellsItem] at hl
  match cs, hl with
  | [c0, c1, c2], _ =>
    simp only [cells3, cells9, List.drop_zero, List.drop_succ_cons, List.take_succ_cons, List.take_zero] at h0 h1 h2
    obtain ⟨k, e0, _, _⟩ := DataW.trod_int Tryz.underlying3 h0
    obtain ⟨nm, e1, _, _⟩ := DataW.trod_int Tryz.underlying3 h1
    obtain ⟨v, e2, _, s2⟩ := DataW.trod_string Tryz.underlying9 h2
    simp only [List.cons.injEq, and_true] at e0 e1 e2
    subst e0 e1 e2
    exact ⟨⟨k, nm, v⟩, rfl, s2⟩
theorem bytesStr : Tryz.prog.bytesOf 9 = 16 := by kernel_rfl
theorem bytesItem : Tryz.prog.bytesOf 67 = 32 := by kernel_rfl
theorem bytesItems : Tryz.prog.bytesOf 94 = 24 := by kernel_rfl
theorem weightsAll_mem {H : Type} {P : Program} {e : TypeId} : ∀ {l : List (DataW H)} {d : DataW H} {k : Nat}, d ∈ l → k ∈ d.weights P e → k ∈ DataW.weightsAll P e l
  | d0 :: r, d, k, hd, hk => by
    simp only [DataW.weightsAll, List.mem_append]
    rcases List.mem_cons.1 hd with rfl | hd
    · exact .inl hk
    · exact .inr (weightsAll_mem hd hk)
theorem sliceW {H : Type} {P : Program} {t e : TypeId} {els sp : List (DataW H)} (hu : P.underlying t = some (.slice e)) (hz : ∀ k ∈ (DataW.slice els sp).weights P t, k ≤ reachBytes) :
    (els.length + sp.length) * P.bytesOf e ≤ reachBytes ∧ ∀ d ∈ els, ∀ k ∈ d.weights P e, k ≤ reachBytes := by
  simp only [DataW.weights, hu, List.mem_cons, List.mem_append] at hz
  exact ⟨hz _ (.inl rfl), fun d hd k hk => hz k (.inr (.inl (weightsAll_mem hd hk)))⟩
theorem spot_none {W : World} {b off : Nat} {spot} {v : Value} (h : W.cell? ((⟨b, off, spot⟩ : Addr).add 0) = some v) : spot = none := by
  simpa [Addr.add] using World.cell?_spot h

/-- a list of texts -/
theorem open_strs {H : Type} {enc : TypeId × Value → H} {W : World} {fuel : Nat} {v : Value} {x : DataW H × List MemPlace} (h : DataW.trod enc Tryz.prog W 0 (fun _ => true) true fuel 35 [v] = some x)
    (hz : ∀ k ∈ x.1.weights Tryz.prog 35, k ≤ reachBytes) : ∃ (n : Nat) (C : Nat → ByteArray), StrsIs W v n C ∧ StrsFine n C := by
  rcases open_slice1 Tryz.underlying35 cells9 h with ⟨h1, _⟩ | ⟨a, len, cap, m, n, V, D, Pl, h1, hb, hl, hm, hmm, rfl, hx⟩
  · simp only [List.cons.injEq, and_true] at h1
    exact ⟨0, fun _ => ⟨#[]⟩, ⟨none, 0, h1, Nat.le_refl _, Nat.zero_le _, fun _ => rfl, fun h => by omega⟩, by omega, fun i hi => by omega⟩
  simp only [if_true] at hmm
  subst hmm
  simp only [List.cons.injEq, and_true] at h1
  subst h1
  obtain ⟨hw, _⟩ := sliceW Tryz.underlying35 hz
  simp only [List.length_map, List.length_range, bytesStr, reachBytes] at hw
  haveI : Inhabited ByteArray := ⟨⟨#[]⟩⟩
  obtain ⟨C, hC⟩ := choose_lt (α := ByteArray) (n := m) (p := fun i (s : ByteArray) => W.cell? (a.add i) = some (.string s) ∧ s.size ≤ maxLen) (fun i hi => by
    obtain ⟨h1, h2⟩ := hx i hi
    obtain ⟨s, e, _, hs⟩ := DataW.trod_string Tryz.underlying9 h2
    simp only [List.cons.injEq, and_true] at e
    exact ⟨s, e ▸ h1, hs⟩)
  refine ⟨len, C, ⟨some a, m, rfl, hl, hm, (fun h => nomatch h), fun h0 => ?_⟩, by omega, fun i hi => (hC i (by omega)).2⟩
  obtain ⟨b, off, spot⟩ := a
  obtain rfl := spot_none (hC 0 (by omega)).1
  refine ⟨b, off, rfl, by simpa [Addr.add] using block_lt (hC 0 (by omega)).1, fun i hi => ?_⟩
  have := (hC i (by omega)).1
  rwa [add_plain] at this
/-- a list of items -/
theorem open_items {H : Type} {enc : TypeId × Value → H} {W : World} {fuel : Nat} {v : Value} {x : DataW H × List MemPlace} (h : DataW.trod enc Tryz.prog W 0 (fun _ => true) true fuel 94 [v] = some x)
    (hz : ∀ k ∈ x.1.weights Tryz.prog 94, k ≤ reachBytes) : ∃ X : Row, ItsIs W v X.len X.at_ ∧ ItsFine X.len X.at_ := by
  rcases open_slice Tryz.underlying94 h with ⟨h1, _⟩ | ⟨a, len, cap, m, n, D, Pl, h1, hb, hl, hm, hmm, rfl, hx⟩
  · simp only [List.cons.injEq, and_true] at h1
    exact ⟨⟨0, fun _ => ⟨0, 0, ⟨#[]⟩⟩⟩, ⟨none, 0, h1, Nat.le_refl _, Nat.zero_le _, fun _ => rfl, fun h => absurd h (Nat.lt_irrefl 0)⟩, by show 0 * 32 ≤ _; omega, fun i hi => absurd hi (Nat.not_lt_zero i)⟩
  simp only [if_true] at hmm
  subst hmm
  simp only [List.cons.injEq, and_true] at h1
  subst h1
  obtain ⟨hw, _⟩ := sliceW Tryz.underlying94 hz
  simp only [List.length_map, List.length_range, bytesItem, reachBytes] at hw
  haveI : Inhabited It := ⟨⟨0, 0, ⟨#[]⟩⟩⟩
  obtain ⟨X, hX⟩ := choose_lt (α := It) (n := m) (p := fun i (e : It) => W.cells? 0 (a.add (i * 3)) 3 = some [.int .i64 e.kind, .int .i64 e.n, .string e.s] ∧ e.s.size ≤ maxLen) (fun i hi => by
    obtain ⟨cs', h1, h2⟩ := hx i hi
    rw [cellsItem] at h1
    obtain ⟨e, rfl, s2⟩ := open_item h2
    exact ⟨e, h1, s2⟩)
  have hc : ∀ i, i < m → ∀ r, r < 3 → W.cell? (a.add (i * 3 + r)) = [Value.int .i64 (X i).kind, .int .i64 (X i).n, .string (X i).s][r]? := fun i hi r hr => by
    obtain ⟨_, _, h3⟩ := World.cells?_some (hX i (by omega)).1
    rw [← add_add]
    exact h3 r hr
  refine ⟨⟨len, X⟩, ⟨some a, m, rfl, hl, hm, (fun h => nomatch h), fun h0 => ?_⟩, by show len * 32 ≤ _; omega, fun i hi => (hX i (Nat.lt_of_lt_of_le hi hl)).2⟩
  obtain ⟨b, off, spot⟩ := a
  have h0' : 0 < m := Nat.lt_of_lt_of_le h0 hl
  obtain rfl := spot_none (hc 0 h0' 0 (by omega))
  refine ⟨b, off, rfl, by simpa [Addr.add] using block_lt (hc 0 h0' 0 (by omega)), fun i hi => ?_⟩
  have hi' : i < m := Nat.lt_of_lt_of_le hi hl
  have g0 := hc i hi' 0 (by omega)
  have g1 := hc i hi' 1 (by omega)
  have g2 := hc i hi' 2 (by omega)
  rw [add_plain] at g0 g1 g2
  exact ⟨g0, g1, g2⟩
/-- a list of rows -/
theorem open_rows {H : Type} {enc : TypeId × Value → H} {W : World} {fuel : Nat} {v : Value} {x : DataW H × List MemPlace} (h : DataW.trod enc Tryz.prog W 0 (fun _ => true) true fuel 38 [v] = some x)
    (hz : ∀ k ∈ x.1.weights Tryz.prog 38, k ≤ reachBytes) : ∃ (m : Nat) (R : Nat → Row), RowsIs W v m R ∧ RowsFine m R := by
  rcases open_slice1 Tryz.underlying38 cellsItems h with ⟨h1, _⟩ | ⟨a, len, cap, m, n, V, D, Pl, h1, hb, hl, hm, hmm, rfl, hx⟩
  · simp only [List.cons.injEq, and_true] at h1
    exact ⟨0, fun _ => ⟨0, fun _ => ⟨0, 0, ⟨#[]⟩⟩⟩, ⟨none, 0, h1, Nat.le_refl _, Nat.zero_le _, fun _ => rfl, fun h => by omega⟩, by omega, fun i hi => by omega⟩
  simp only [if_true] at hmm
  subst hmm
  simp only [List.cons.injEq, and_true] at h1
  subst h1
  obtain ⟨hw, hel⟩ := sliceW Tryz.underlying38 hz
  simp only [List.length_map, List.length_range, bytesItems, reachBytes] at hw
  haveI : Inhabited Row := ⟨⟨0, fun _ => ⟨0, 0, ⟨#[]⟩⟩⟩⟩
  obtain ⟨R, hR⟩ := choose_lt (α := Row) (n := len) (p := fun i (r : Row) => ItsIs W (V i) r.len r.at_ ∧ ItsFine r.len r.at_) (fun i hi => by
    obtain ⟨h1, h2⟩ := hx i (by omega)
    exact open_items h2 (fun k hk => hel (D i) (List.mem_map.2 ⟨i, List.mem_range.2 hi, rfl⟩) k hk))
  refine ⟨len, R, ⟨some a, m, rfl, hl, hm, (fun h => nomatch h), fun h0 => ?_⟩, by omega, fun i hi => (hR i hi).2⟩
  obtain ⟨b, off, spot⟩ := a
  obtain rfl := spot_none (hx 0 (by omega)).1
  refine ⟨b, off, rfl, by simpa [Addr.add] using block_lt (hx 0 (by omega)).1, fun i hi => ⟨V i, ?_, (hR i hi).1⟩⟩
  have := (hx i (by omega)).1
  rwa [add_plain] at this
/-- .. by its place among the arguments -/
theorem weights_at {H : Type} {P : Program} {ts : List TypeId} {ds : List (DataW H)} (h : (DataW.weightsEach P ts ds).all (· ≤ reachBytes) = true) {j : Nat} {t : TypeId} {d : DataW H} (ht : ts[j]? = some t) (hd : ds[j]? = some d) : ∀ k ∈ d.weights P t, k ≤ reachBytes := by
  intro k hk
  have := List.all_eq_true.1 h _ (DataW.weights_mem_each ht hd k hk)
  simpa using this
end Go.Proofs.YtkcejelmohameaaGreatDoor
