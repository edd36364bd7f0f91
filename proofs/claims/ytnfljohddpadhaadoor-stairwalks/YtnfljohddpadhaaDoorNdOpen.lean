/-
  LISTS OF NODES: where they lie; one that comes in, opened; Check, NodesFault and the law's own copy at any of them.
-/
import Derived.Test.YtnfljohddpadhaaDoorNdCheck
import Derived.Test.YtnfljohddpadhaaDoorNdFault
import Derived.Deep.Strs
import Derived.Deep.Slices
import Derived.ProofKit
import Derived.Laws.AppendOwnNone
import Derived.SizedLaws
set_option linter.unusedVariables false
namespace Go.Proofs.YtnfljohddpadhaaDoor
open Go.RowKit Go.ChangeShapes Go.WideShapes Go.Deep

theorem cells42 : Tryd.prog.cellsOf 43 = 6 := by kernel_rfl
theorem cells3 : Tryd.prog.cellsOf 3 = 1 := by kernel_rfl
theorem cells9 : Tryd.prog.cellsOf 9 = 1 := by kernel_rfl
theorem info42 : (Tryd.prog.info? 43).map (fun i => (i.zero, i.size, i.bytes)) = some (some (.agg #[.int .i64 0, .string ByteArray.empty, .string ByteArray.empty, .int .i64 0, .int .i64 0, .int .i64 0]), 6, 64) := by kernel_rfl
theorem bytes42 : Tryd.prog.bytesOf 43 = 64 := by kernel_rfl
theorem block_lt {w : World} {a : Addr} {v : Value} (h : w.cell? a = some v) : a.block < w.heap.size := by
  unfold World.cell? at h
  by_cases hb : a.block < w.heap.size
  · exact hb
  · rw [Array.getElem?_eq_none (by omega)] at h
    cases h

/-- a value is a list of n nodes -/
def NdsIs (w : World) (v : Value) (n : Nat) (E : Nat → Nd) : Prop :=
  ∃ a cap, v = .slice a n cap ∧ n ≤ cap ∧ cap ≤ maxLen ∧ (0 < n → ∃ b off, a = some ⟨b, off, none⟩ ∧ b < w.heap.size ∧ NdsAt w b off n E)
theorem NdsIs.below {w w' : World} {v : Value} {n : Nat} {E : Nat → Nd} (h : NdsIs w v n E) (hb : Below w.heap.size w w') : NdsIs w' v n E := by
  obtain ⟨a, cap, h1, h2, h3, h4⟩ := h
  refine ⟨a, cap, h1, h2, h3, fun h0 => ?_⟩
  obtain ⟨b, off, h5, h6, h7⟩ := h4 h0
  exact ⟨b, off, h5, Nat.lt_of_lt_of_le h6 hb.size, h7.below hb h6⟩
/-- names and values are as long as they can be -/
def NdsFine (n : Nat) (E : Nat → Nd) : Prop := ∀ i, i < n → (E i).name.size ≤ maxLen ∧ (E i).value.size ≤ maxLen

theorem open_six {H : Type} {enc : TypeId × Value → H} {P : Program} {w : World} {t : TypeId} {f0 f1 f2 f3 f4 f5 : Field} {fuel : Nat} {cs : List Value} {x : DataW H × List MemPlace} (ht : P.underlying t = some (.struct #[f0, f1, f2, f3, f4, f5]))
    (h : DataW.trod enc P w 0 (fun _ => true) true fuel t cs = some x) : ∃ n y0 y1 y2 y3 y4 y5, cs.length = P.cellsOf t ∧ DataW.trod enc P w 0 (fun _ => true) true n f0.type ((cs.drop f0.offset).take (P.cellsOf f0.type)) = some y0 ∧ DataW.trod enc P w 0 (fun _ => true) true n f1.type ((cs.drop f1.offset).take (P.cellsOf f1.type)) = some y1 ∧ DataW.trod enc P w 0 (fun _ => true) true n f2.type ((cs.drop f2.offset).take (P.cellsOf f2.type)) = some y2 ∧ DataW.trod enc P w 0 (fun _ => true) true n f3.type ((cs.drop f3.offset).take (P.cellsOf f3.type)) = some y3 ∧ DataW.trod enc P w 0 (fun _ => true) true n f4.type ((cs.drop f4.offset).take (P.cellsOf f4.type)) = some y4 ∧ DataW.trod enc P w 0 (fun _ => true) true n f5.type ((cs.drop f5.offset).take (P.cellsOf f5.type)) = some y5 := by
  obtain ⟨xs, n, _, rfl, hl, hlen, hf⟩ := DataW.trod_struct ht h
  match xs, hlen with
  | [y0, y1, y2, y3, y4, y5], _ =>
    exact ⟨n, y0, y1, y2, y3, y4, y5, hl, by simpa using hf 0 f0 rfl, by simpa using hf 1 f1 rfl, by simpa using hf 2 f2 rfl, by simpa using hf 3 f3 rfl, by simpa using hf 4 f4 rfl, by simpa using hf 5 f5 rfl⟩

theorem open_node {H : Type} {enc : TypeId × Value → H} {W : World} {n : Nat} {cs : List Value} {x : DataW H × List MemPlace} (h : DataW.trod enc Tryd.prog W 0 (fun _ => true) true n 43 cs = some x) :
    ∃ e : Nd, cs = [.int .i64 e.kind, .string e.name, .string e.value, .int .i64 e.size, .int .i64 e.level, .int .i64 e.parent] ∧ e.name.size ≤ maxLen ∧ e.value.size ≤ maxLen := by
  obtain ⟨m, y0, y1, y2, y3, y4, y5, hl, h0, h1, h2, h3, h4, h5⟩ := open_six Tryd.underlying43 h
  rw [cells42] at hl
  match cs, hl with
  | [c0, c1, c2, c3, c4, c5], _ =>
    simp only [cells3, cells9, List.drop_zero, List.drop_succ_cons, List.take_succ_cons, List.take_zero] at h0 h1 h2 h3 h4 h5
    obtain ⟨k, e0, _, _⟩ := DataW.trod_int Tryd.underlying3 h0
    obtain ⟨nm, e1, _, s1⟩ := DataW.trod_string Tryd.underlying9 h1
    obtain ⟨v, e2, _, s2⟩ := DataW.trod_string Tryd.underlying9 h2
    obtain ⟨sz, e3, _, _⟩ := DataW.trod_int Tryd.underlying3 h3
    obtain ⟨lv, e4, _, _⟩ := DataW.trod_int Tryd.underlying3 h4
    obtain ⟨pa, e5, _, _⟩ := DataW.trod_int Tryd.underlying3 h5
    simp only [List.cons.injEq, and_true] at e0 e1 e2 e3 e4 e5
    subst e0 e1 e2 e3 e4 e5
    exact ⟨⟨k, nm, v, sz, lv, pa⟩, rfl, s1, s2⟩

theorem open_nodes {H : Type} {enc : TypeId × Value → H} {W : World} {fuel : Nat} {v : Value} {x : DataW H × List MemPlace} (h : DataW.trod enc Tryd.prog W 0 (fun _ => true) true fuel 22 [v] = some x) :
    ∃ (n : Nat) (E : Nat → Nd), NdsIs W v n E ∧ NdsFine n E ∧ (0 < n → ∃ els sp, x.1 = .slice els sp ∧ n ≤ els.length + sp.length) ∧ (∀ c, v = .slice none 0 c → c = 0) := by
  rcases open_slice Tryd.underlying22 h with ⟨h1, _⟩ | ⟨a, len, cap, m, n, D, Pl, h1, hb, hl, hm, hmm, rfl, hx⟩
  · simp only [List.cons.injEq, and_true] at h1
    exact ⟨0, fun _ => ⟨0, ⟨#[]⟩, ⟨#[]⟩, 0, 0, 0⟩, ⟨none, 0, h1, Nat.le_refl _, Nat.zero_le _, fun h => by omega⟩, fun i hi => by omega, fun h => by omega, fun c hc => by rw [h1] at hc; simp at hc; exact hc.symm⟩
  simp only [if_true] at hmm
  subst hmm
  simp only [List.cons.injEq, and_true] at h1
  subst h1
  haveI : Inhabited Nd := ⟨⟨0, ⟨#[]⟩, ⟨#[]⟩, 0, 0, 0⟩⟩
  obtain ⟨E, hE⟩ := choose_lt (α := Nd) (n := m) (p := fun i (e : Nd) => W.cells? 0 (a.add (i * 6)) 6 = some [.int .i64 e.kind, .string e.name, .string e.value, .int .i64 e.size, .int .i64 e.level, .int .i64 e.parent] ∧ e.name.size ≤ maxLen ∧ e.value.size ≤ maxLen) (fun i hi => by
    obtain ⟨cs', h1, h2⟩ := hx i hi
    rw [cells42] at h1
    obtain ⟨e, rfl, s1, s2⟩ := open_node h2
    exact ⟨e, h1, s1, s2⟩)
  refine ⟨len, E, ⟨some a, m, rfl, hl, hm, fun h0 => ?_⟩, fun i hi => (hE i (by omega)).2, fun h0 => ⟨_, _, rfl, by simp⟩, fun c hc => by simp at hc⟩
  have hc : ∀ i, i < len → ∀ r, r < 6 → W.cell? (a.add (i * 6 + r)) = [Value.int .i64 (E i).kind, .string (E i).name, .string (E i).value, .int .i64 (E i).size, .int .i64 (E i).level, .int .i64 (E i).parent][r]? := fun i hi r hr => by
    obtain ⟨_, _, h3⟩ := World.cells?_some (hE i (by omega)).1
    rw [← add_add]
    exact h3 r hr
  obtain ⟨b, off, spot⟩ := a
  have h00 := hc 0 h0 0 (by omega)
  have hspot : spot = none := by simpa [Addr.add] using World.cell?_spot h00
  subst hspot
  refine ⟨b, off, rfl, by simpa [Addr.add] using block_lt h00, fun i hi => ?_⟩
  have g0 := hc i hi 0 (by omega)
  have g1 := hc i hi 1 (by omega)
  have g2 := hc i hi 2 (by omega)
  have g3 := hc i hi 3 (by omega)
  have g4 := hc i hi 4 (by omega)
  have g5 := hc i hi 5 (by omega)
  rw [add_plain] at g0 g1 g2 g3 g4 g5
  exact ⟨g0, g1, g2, g3, g4, g5⟩

theorem storeCheck_is (v : Value) (n : Nat) (E : Nat → Nd) (w : World) (hv : NdsIs w v n E) (hT : Tabs w) (hf : NdsFine n E) :
    Calls Tryd.prog 14 #[v] w fun e w' => e = .returned (.int .i64 (nodesF E n)) ∧ Below w.heap.size w w' := by
  obtain ⟨a, cap, rfl, h1, h2, h3⟩ := hv
  rcases Nat.eq_zero_or_pos n with hz | hz
  · subst hz
    exact storeCheck_zero a cap w
  · obtain ⟨b, off, rfl, h4, h5⟩ := h3 hz
    exact storeCheck_any b off n cap E w h1 h2 hT h4 h5 hf
theorem nodesFault_is (v : Value) (n : Nat) (E : Nat → Nd) (w : World) (hv : NdsIs w v n E) (hT : Tabs w) (hf : NdsFine n E) :
    Calls Tryd.prog 11 #[v] w fun e w' => e = .returned (.int .i64 (nodesF E n)) ∧ Below w.heap.size w w' := by
  obtain ⟨a, cap, rfl, h1, h2, h3⟩ := hv
  rcases Nat.eq_zero_or_pos n with hz | hz
  · subst hz
    exact nodesFault_zero a cap w
  · obtain ⟨b, off, rfl, h4, h5⟩ := h3 hz
    exact nodesFault_any b off n cap E w h1 h2 hT h4 h5 hf

/-- the cells of nodes, one behind the other -/
def ndCell (x : Nd) (r : Nat) : Value := match r with
  | 0 => .int .i64 x.kind
  | 1 => .string x.name
  | 2 => .string x.value
  | 3 => .int .i64 x.size
  | 4 => .int .i64 x.level
  | _ => .int .i64 x.parent
def ndCells (E : Nat → Nd) (n : Nat) : List Value := (List.range (n * 6)).map fun j => ndCell (E (j / 6)) (j % 6)
theorem ndCells_len (E : Nat → Nd) (n : Nat) : (ndCells E n).length = n * 6 := by simp [ndCells]
theorem ndCells_at (E : Nat → Nd) (n j : Nat) (h : j < n * 6) : (ndCells E n)[j]? = some (ndCell (E (j / 6)) (j % 6)) := by simp [ndCells, h]
theorem ndCells_in {w : World} {b off n : Nat} {E : Nat → Nd} (hE : NdsAt w b off n E) : ∀ j u, (ndCells E n)[j]? = some u → w.cell? ((⟨b, off, none⟩ : Addr).add j) = some u := by
  intro j u hj
  have hjl : j < n * 6 := by
    have := (List.getElem?_eq_some_iff.1 hj).1
    rwa [ndCells_len] at this
  rw [ndCells_at E n j hjl, Option.some.injEq] at hj
  subst hj
  obtain ⟨h0, h1, h2, h3, h4, h5⟩ := hE (j / 6) (by omega)
  rw [add_plain]
  have hm : j % 6 = 0 ∨ j % 6 = 1 ∨ j % 6 = 2 ∨ j % 6 = 3 ∨ j % 6 = 4 ∨ j % 6 = 5 := by omega
  rcases hm with h | h | h | h | h | h
  · rw [h, show off + j = off + j / 6 * 6 by omega]; exact h0
  · rw [h, show off + j = off + j / 6 * 6 + 1 by omega]; exact h1
  · rw [h, show off + j = off + j / 6 * 6 + 2 by omega]; exact h2
  · rw [h, show off + j = off + j / 6 * 6 + 3 by omega]; exact h3
  · rw [h, show off + j = off + j / 6 * 6 + 4 by omega]; exact h4
  · rw [h, show off + j = off + j / 6 * 6 + 5 by omega]; exact h5
theorem ndCell_one (x : Nd) (r : Nat) : (ndCell x r).oneCell' = true := by
  unfold ndCell
  split <;> rfl
theorem ndCells_one (E : Nat → Nd) (n : Nat) : ∀ u ∈ ndCells E n, u.oneCell' = true := by
  intro u hu
  obtain ⟨j, _, rfl⟩ := List.mem_map.1 hu
  exact ndCell_one _ _
theorem nds_of_own {w : World} {base g cap n : Nat} {E : Nat → Nd} (h : w.ownsRow base 43 6 (.slice (some ⟨g, 0, none⟩) n cap) n (ndCells E n)) : NdsAt w g 0 n E := by
  intro i hi
  have c : ∀ r, r < 6 → w.cell? ⟨g, 0 + i * 6 + r, none⟩ = some (ndCell (E i) r) := fun r hr => by
    rw [Nat.zero_add, h.cellAt _ (by omega), ndCells_at E n _ (by omega), show (i * 6 + r) / 6 = i by omega, show (i * 6 + r) % 6 = r by omega]
  exact ⟨c 0 (by omega), c 1 (by omega), c 2 (by omega), c 3 (by omega), c 4 (by omega), c 5 (by omega)⟩

set_option maxHeartbeats 400000 in
theorem nodes_some (b off n cap : Nat) (E : Nat → Nd) (w : World) (h0 : 0 < n) (hcap : n ≤ cap) (hm : cap ≤ maxLen) (hreach : n * 64 ≤ 140737488351232) (hb0 : b < w.heap.size) (hE : NdsAt w b off n E) :
    Calls Tryd.prog 6 #[.slice (some ⟨b, off, none⟩) n cap] w fun e w' => ∃ v, e = .returned v ∧ NdsIs w' v n E ∧ Below w.heap.size w w' := by
  obtain ⟨i0, hi0, hz0, hz1, hz2⟩ := info_parts info42
  have HE : Hid (NdsAt w b off n E) := hE
  clear hE
  go_enter Tryd.func6, Tryd.ntmps6
  go_wp2_with (first | (at_builtin; refine wpList_append_own _ rfl _ _ 22 rfl w.heap.size 43 i0 _ 6 64 Tryd.underlying22 hi0 hz0 hz1 hz2 rfl (by decide) _ _ _ rfl (World.ownsRow_nil _ _ _ _) ⟨b, off, none⟩ n cap (ndCells E n) rfl (ndCells_len E n) (ndCells_in HE.out) (ndCells_one E n) (by omega) (by omega) (Nat.le_refl _) ?_; intro v' w1 hown hgrow hnil))
  have HG : Hid (Below w.heap.size w w1) := (Below.refl _ _).grown hgrow (Nat.le_refl _) (fun k hk => by cases hk)
  rw [Nat.zero_add, List.nil_append] at hown
  obtain ⟨g, c, rfl, hg1, hg2, hg3⟩ : ∃ g c, v' = .slice (some ⟨g, 0, none⟩) n c ∧ g < w1.heap.size ∧ n ≤ c ∧ c ≤ maxLen := by
    obtain ⟨_, ⟨rfl, h⟩ | ⟨g, c, cur, rfl, q1, q2, q3, q4, _⟩⟩ := hown
    · omega
    · exact ⟨g, c, rfl, (Array.getElem?_eq_some_iff.1 q2).1, q3, q4⟩
  have HX : Hid (NdsAt w1 g 0 n E) := nds_of_own hown
  clear hown hgrow hnil
  go_wp2
  go_ret
  exact ⟨_, rfl, ⟨_, c, rfl, hg2, hg3, fun _ => ⟨g, 0, rfl, hg1, HX.out⟩⟩, HG.out⟩
set_option maxHeartbeats 400000 in
theorem nodes_nil (E : Nat → Nd) (w : World) :
    Calls Tryd.prog 6 #[.slice none 0 0] w fun e w' => ∃ v, e = .returned v ∧ NdsIs w' v 0 E ∧ Below w.heap.size w w' := by
  obtain ⟨i0, hi0, hz0, hz1, hz2⟩ := info_parts info42
  go_enter Tryd.func6, Tryd.ntmps6
  go_wp2_with (first | (at_builtin; refine wpList_append_own_none rfl _ _ 22 rfl w.heap.size 43 i0 6 Tryd.underlying22 hi0 _ _ _ rfl (World.ownsRow_nil _ _ _ _) rfl ?_))
  go_ret
  exact ⟨_, rfl, ⟨none, 0, rfl, Nat.le_refl _, Nat.zero_le _, fun h => by omega⟩, Below.refl _ _⟩
set_option maxHeartbeats 400000 in
theorem nodes_zero (E : Nat → Nd) (a : Addr) (cap : Nat) (w : World) :
    Calls Tryd.prog 6 #[.slice (some a) 0 cap] w fun e w' => ∃ v, e = .returned v ∧ NdsIs w' v 0 E ∧ Below w.heap.size w w' := by
  obtain ⟨i0, hi0, hz0, hz1, hz2⟩ := info_parts info42
  go_enter Tryd.func6, Tryd.ntmps6
  go_wp2_with (first | (at_builtin; refine wpList_append_own _ rfl _ _ 22 rfl w.heap.size 43 i0 _ 6 64 Tryd.underlying22 hi0 hz0 hz1 hz2 rfl (by decide) _ _ _ rfl (World.ownsRow_nil _ _ _ _) a 0 cap [] rfl rfl (fun j u hj => by simp at hj) (fun u hu => by cases hu) (by decide) (by decide) (Nat.le_refl _) ?_; intro v' w1 hown hgrow hnil))
  have hv : v' = .slice none 0 0 := hnil.2 ⟨rfl, trivial⟩
  subst hv
  have HG : Hid (Below w.heap.size w w1) := (Below.refl _ _).grown hgrow (Nat.le_refl _) (fun k hk => by cases hk)
  clear hown hgrow hnil
  go_wp2
  go_ret
  exact ⟨_, rfl, ⟨none, 0, rfl, Nat.le_refl _, Nat.zero_le _, fun h => by omega⟩, HG.out⟩
/-- the law's own copy of nodes: the same nodes -/
theorem nodes_is (v : Value) (n : Nat) (E : Nat → Nd) (w : World) (hv : NdsIs w v n E) (hreach : n * 64 ≤ 140737488351232) (hnil : ∀ c, v = .slice none 0 c → c = 0) :
    Calls Tryd.prog 6 #[v] w fun e w' => ∃ v', e = .returned v' ∧ NdsIs w' v' n E ∧ Below w.heap.size w w' := by
  obtain ⟨a, cap, rfl, h1, h2, h3⟩ := hv
  rcases Nat.eq_zero_or_pos n with hz | hz
  · subst hz
    cases a with
    | none =>
      obtain rfl := hnil cap rfl
      exact nodes_nil E w
    | some a => exact nodes_zero E a cap w
  · obtain ⟨b, off, rfl, h4, h5⟩ := h3 hz
    exact nodes_some b off n cap E w hz h1 h2 hreach h4 h5
end Go.Proofs.YtnfljohddpadhaaDoor
