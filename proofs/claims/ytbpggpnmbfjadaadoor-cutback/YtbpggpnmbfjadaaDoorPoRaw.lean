/-
  RAW THINGS THAT COME IN, opened: what they read as gives them, and where they lie.
-/
import Derived.Test.YtbpggpnmbfjadaaDoorRlOpen
set_option linter.unusedVariables false
namespace Go.Proofs.YtbpggpnmbfjadaaDoor
set_option maxRecDepth 100000
open Go.RowKit Go.ChangeShapes Go.WideShapes Go.Deep

/-- a raw thing -/
structure Rw where
  k : Int
  a : Int
  b : Int
  c : Int
  t : ByteArray
def i64 (x : Int) : Prop := -9223372036854775808 ≤ x ∧ x ≤ 9223372036854775807
theorem i64_wf {x : Int} (h : (Lit.int .i64 x).wf = true) : i64 x := by
  unfold Lit.wf at h
  obtain ⟨h1, h2⟩ := Bool.and_eq_true_iff.1 h
  have h1 := of_decide_eq_true h1
  have h2 := of_decide_eq_true h2
  exact ⟨h1, h2⟩
/-- raw things in memory -/
def RawsAt (w : World) (b off n : Nat) (X : Nat → Rw) : Prop :=
  ∀ i, i < n → w.cell? ⟨b, off + i * 5, none⟩ = some (.int .i64 (X i).k) ∧ w.cell? ⟨b, off + i * 5 + 1, none⟩ = some (.int .i64 (X i).a) ∧ w.cell? ⟨b, off + i * 5 + 2, none⟩ = some (.int .i64 (X i).b) ∧ w.cell? ⟨b, off + i * 5 + 3, none⟩ = some (.int .i64 (X i).c) ∧ w.cell? ⟨b, off + i * 5 + 4, none⟩ = some (.string (X i).t)
def RawsIs (w : World) (v : Value) (n : Nat) (X : Nat → Rw) : Prop :=
  ∃ a cap, v = .slice a n cap ∧ n ≤ cap ∧ cap ≤ maxLen ∧ (0 < n → ∃ b off, a = some ⟨b, off, none⟩ ∧ b < w.heap.size ∧ RawsAt w b off n X)
def RawsFine (n : Nat) (X : Nat → Rw) : Prop := ∀ i, i < n → i64 (X i).k ∧ i64 (X i).a ∧ i64 (X i).b ∧ i64 (X i).c ∧ (X i).t.size ≤ maxLen
theorem RawsIs.below {w w' : World} {v : Value} {n : Nat} {X : Nat → Rw} (h : RawsIs w v n X) (hb : Below w.heap.size w w') : RawsIs w' v n X := by
  obtain ⟨a, cap, h1, h2, h3, h4⟩ := h
  refine ⟨a, cap, h1, h2, h3, fun h0 => ?_⟩
  obtain ⟨b, off, h5, h6, h7⟩ := h4 h0
  refine ⟨b, off, h5, Nat.lt_of_lt_of_le h6 hb.size, fun i hi => ?_⟩
  obtain ⟨k0, k1, k2, k3, k4⟩ := h7 i hi
  exact ⟨(hb.cell (p := ⟨b, off + i * 5, none⟩) h6).trans k0, (hb.cell (p := ⟨b, off + i * 5 + 1, none⟩) h6).trans k1, (hb.cell (p := ⟨b, off + i * 5 + 2, none⟩) h6).trans k2, (hb.cell (p := ⟨b, off + i * 5 + 3, none⟩) h6).trans k3, (hb.cell (p := ⟨b, off + i * 5 + 4, none⟩) h6).trans k4⟩

theorem cellsRaw : Tryd.prog.cellsOf 52 = 5 := by kernel_rfl
theorem open_five {H : Type} {enc : TypeId × Value → H} {P : Program} {w : World} {t : TypeId} {f0 f1 f2 f3 f4 : Field} {fuel : Nat} {cs : List Value} {x : DataW H × List MemPlace} (ht : P.underlying t = some (.struct #[f0, f1, f2, f3, f4]))
    (h : DataW.trod enc P w 0 (fun _ => true) true fuel t cs = some x) : ∃ n y0 y1 y2 y3 y4, cs.length = P.cellsOf t ∧ DataW.trod enc P w 0 (fun _ => true) true n f0.type ((cs.drop f0.offset).take (P.cellsOf f0.type)) = some y0 ∧ DataW.trod enc P w 0 (fun _ => true) true n f1.type ((cs.drop f1.offset).take (P.cellsOf f1.type)) = some y1 ∧ DataW.trod enc P w 0 (fun _ => true) true n f2.type ((cs.drop f2.offset).take (P.cellsOf f2.type)) = some y2 ∧ DataW.trod enc P w 0 (fun _ => true) true n f3.type ((cs.drop f3.offset).take (P.cellsOf f3.type)) = some y3 ∧ DataW.trod enc P w 0 (fun _ => true) true n f4.type ((cs.drop f4.offset).take (P.cellsOf f4.type)) = some y4 := by
  obtain ⟨xs, n, _, rfl, hl, hlen, hf⟩ := DataW.trod_struct ht h
  match xs, hlen with
  | [y0, y1, y2, y3, y4], _ =>
    exact ⟨n, y0, y1, y2, y3, y4, hl, by simpa using hf 0 f0 rfl, by simpa using hf 1 f1 rfl, by simpa using hf 2 f2 rfl, by simpa using hf 3 f3 rfl, by simpa using hf 4 f4 rfl⟩
theorem open_raw {H : Type} {enc : TypeId × Value → H} {W : World} {n : Nat} {cs : List Value} {x : DataW H × List MemPlace} (h : DataW.trod enc Tryd.prog W 0 (fun _ => true) true n 52 cs = some x) :
    ∃ e : Rw, cs = [.int .i64 e.k, .int .i64 e.a, .int .i64 e.b, .int .i64 e.c, .string e.t] ∧ i64 e.k ∧ i64 e.a ∧ i64 e.b ∧ i64 e.c ∧ e.t.size ≤ maxLen := by
  obtain ⟨m, y0, y1, y2, y3, y4, hl, h0, h1, h2, h3, h4⟩ := open_five Tryd.underlying52 h
  rw [cellsRaw] at hl
  match cs, hl with
  | [c0, c1, c2, c3, c4], _ =>
    simp only [cells3, cells9, List.drop_zero, List.drop_succ_cons, List.take_succ_cons, List.take_zero] at h0 h1 h2 h3 h4
    obtain ⟨k, e0, _, s0⟩ := DataW.trod_int Tryd.underlying3 h0
    obtain ⟨a, e1, _, s1⟩ := DataW.trod_int Tryd.underlying3 h1
    obtain ⟨b, e2, _, s2⟩ := DataW.trod_int Tryd.underlying3 h2
    obtain ⟨c, e3, _, s3⟩ := DataW.trod_int Tryd.underlying3 h3
    obtain ⟨t, e4, _, s4⟩ := DataW.trod_string Tryd.underlying9 h4
    simp only [List.cons.injEq, and_true] at e0 e1 e2 e3 e4
    subst e0 e1 e2 e3 e4
    exact ⟨⟨k, a, b, c, t⟩, rfl, i64_wf s0, i64_wf s1, i64_wf s2, i64_wf s3, s4⟩
theorem open_rawl {H : Type} {enc : TypeId × Value → H} {W : World} {fuel : Nat} {v : Value} {x : DataW H × List MemPlace} (h : DataW.trod enc Tryd.prog W 0 (fun _ => true) true fuel 22 [v] = some x) :
    ∃ (n : Nat) (X : Nat → Rw), RawsIs W v n X ∧ RawsFine n X := by
  rcases open_slice Tryd.underlying22 h with ⟨h1, _⟩ | ⟨a, len, cap, m, n, D, Pl, h1, hb, hl, hm, hmm, rfl, hx⟩
  · simp only [List.cons.injEq, and_true] at h1
    exact ⟨0, fun _ => ⟨0, 0, 0, 0, ⟨#[]⟩⟩, ⟨none, 0, h1, Nat.le_refl _, Nat.zero_le _, fun h => absurd h (Nat.lt_irrefl 0)⟩, fun i hi => absurd hi (Nat.not_lt_zero i)⟩
  simp only [if_true] at hmm
  subst hmm
  simp only [List.cons.injEq, and_true] at h1
  subst h1
  haveI : Inhabited Rw := ⟨⟨0, 0, 0, 0, ⟨#[]⟩⟩⟩
  obtain ⟨X, hX⟩ := choose_lt (α := Rw) (n := m) (p := fun i (e : Rw) => W.cells? 0 (a.add (i * 5)) 5 = some [.int .i64 e.k, .int .i64 e.a, .int .i64 e.b, .int .i64 e.c, .string e.t] ∧ i64 e.k ∧ i64 e.a ∧ i64 e.b ∧ i64 e.c ∧ e.t.size ≤ maxLen) (fun i hi => by
    obtain ⟨cs', h1, h2⟩ := hx i hi
    rw [cellsRaw] at h1
    obtain ⟨e, rfl, s2⟩ := open_raw h2
    exact ⟨e, h1, s2⟩)
  have hc : ∀ i, i < m → ∀ r, r < 5 → W.cell? (a.add (i * 5 + r)) = [Value.int .i64 (X i).k, .int .i64 (X i).a, .int .i64 (X i).b, .int .i64 (X i).c, .string (X i).t][r]? := fun i hi r hr => by
    obtain ⟨_, _, h3⟩ := World.cells?_some (hX i (by omega)).1
    rw [← add_add]
    exact h3 r hr
  refine ⟨len, X, ⟨some a, m, rfl, hl, hm, fun h0 => ?_⟩, fun i hi => (hX i (Nat.lt_of_lt_of_le hi hl)).2⟩
  obtain ⟨b, off, spot⟩ := a
  have h0' : 0 < m := Nat.lt_of_lt_of_le h0 hl
  obtain rfl := spot_none (hc 0 h0' 0 (by omega))
  refine ⟨b, off, rfl, by simpa [Addr.add] using block_lt (hc 0 h0' 0 (by omega)), fun i hi => ?_⟩
  have hi' : i < m := Nat.lt_of_lt_of_le hi hl
  have g0 := hc i hi' 0 (by omega)
  have g1 := hc i hi' 1 (by omega)
  have g2 := hc i hi' 2 (by omega)
  have g3 := hc i hi' 3 (by omega)
  have g4 := hc i hi' 4 (by omega)
  rw [add_plain] at g0 g1 g2 g3 g4
  exact ⟨g0, g1, g2, g3, g4⟩
/-- a list of raw things that is handed in -/
theorem open_raws {H : Type} {enc : TypeId × Value → H} {W : World} {r : Reach} {b0 : Nat} {v : Value} {d : DataW H} {p : List MemPlace} (hv : Value.okWide Tryd.prog W r b0 22 v) (h : DataW.Trod enc Tryd.prog W 0 (fun _ => true) true 22 v d p) : ∃ (n : Nat) (X : Nat → Rw), RawsIs W v n X ∧ RawsFine n X := by
  obtain ⟨a0, len0, cap0, rfl⟩ := okWide_slice Tryd.underlying22 hv
  obtain ⟨fuel, hf⟩ := h
  exact open_rawl (v := .slice a0 len0 cap0) hf
end Go.Proofs.YtbpggpnmbfjadaaDoor
