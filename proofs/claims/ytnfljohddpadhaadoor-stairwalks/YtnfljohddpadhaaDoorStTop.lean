/-
  CONTRACTS of the law's own copy of numbers, of sameInts; two lists that rise and have the same members.
-/
import Derived.Test.YtnfljohddpadhaaDoorStRef4
import Derived.Deep.QuietTactic
import Derived.BigQuiet
import Derived.WalkLawsBesides
import Derived.Outline
import Derived.Laws.AppendOwnNone
set_option linter.unusedVariables false
namespace Go.Proofs.YtnfljohddpadhaaDoor
set_option maxRecDepth 100000
open Go.RowKit Go.WideShapes

theorem below_drawn {B : Nat} {a w : World} (h : Below B a w) : ∀ q, Below B a (w.drewN q)
  | 0 => h
  | q + 1 => (below_drawn h q).drew
theorem rise_eq : ∀ {L M : List Nat}, Rise L → Rise M → (∀ i, i ∈ L ↔ i ∈ M) → L = M
  | [], [], _, _, _ => rfl
  | [], b :: M, _, _, h => absurd ((h b).2 (List.mem_cons_self ..)) (by simp)
  | a :: L, [], _, _, h => absurd ((h a).1 (List.mem_cons_self ..)) (by simp)
  | a :: L, b :: M, hl, hm, h => by
    obtain ⟨l1, l2⟩ := List.pairwise_cons.1 hl
    obtain ⟨m1, m2⟩ := List.pairwise_cons.1 hm
    have hab : a = b := by
      rcases List.mem_cons.1 ((h a).1 (List.mem_cons_self ..)) with e | e
      · exact e
      · rcases List.mem_cons.1 ((h b).2 (List.mem_cons_self ..)) with f | f
        · exact f.symm
        · have := m1 a e; have := l1 b f; omega
    subst hab
    rw [rise_eq l2 m2 (fun i => ?_)]
    constructor
    · intro hi
      rcases List.mem_cons.1 ((h i).1 (List.mem_cons_of_mem _ hi)) with e | e
      · have := l1 i hi; omega
      · exact e
    · intro hi
      rcases List.mem_cons.1 ((h i).2 (List.mem_cons_of_mem _ hi)) with e | e
      · have := m1 i hi; omega
      · exact e
/-- the numbers of a list -/
def zOf (L : List Nat) (j : Nat) : Int := (L[j]?.getD 0 : Nat)
theorem nums_of_own {w : World} {base : Nat} {v : Value} {L : List Nat} (h : w.ownsRow base 3 1 v L.length (nCells L)) : NumsIs w v L.length (zOf L) := by
  have h' := h
  obtain ⟨_, ⟨rfl, e⟩ | ⟨g, c, cur, rfl, q1, q2, q3, q4, _⟩⟩ := h'
  · refine ⟨none, 0, by rw [e], by omega, Nat.zero_le _, fun h0 => by omega⟩
  · refine ⟨_, c, rfl, q3, q4, fun h0 => ⟨g, 0, rfl, (Array.getElem?_eq_some_iff.1 q2).1, fun j hj => ?_⟩⟩
    have hc := h.cellAt j (by omega)
    rw [Nat.zero_add, hc]
    simp [nCells, zOf, hj]
/-- the cells of numbers -/
def zCells (Z : Nat → Int) (n : Nat) : List Value := (List.range n).map fun j => .int .i64 (Z j)
set_option maxHeartbeats 400000 in
theorem ints_some (b off n cap : Nat) (Z : Nat → Int) (w : World) (h0 : 0 < n) (hcap : n ≤ cap) (hm : cap ≤ maxLen) (hreach : n * 8 ≤ 140737488351232) (hb0 : b < w.heap.size) (hE : ∀ j, j < n → w.cell? ⟨b, off + j, none⟩ = some (.int .i64 (Z j))) :
    Calls Tryd.prog 4 #[.slice (some ⟨b, off, none⟩) n cap] w fun e w' => ∃ v, e = .returned v ∧ NumsIs w' v n Z ∧ (n = 0 → v = .slice none 0 0) ∧ Below w.heap.size w w' := by
  obtain ⟨i0, hi0, hz0, hz1, hz2⟩ := info_partsK infoN
  have hin : ∀ j u, (zCells Z n)[j]? = some u → w.cell? ((⟨b, off, none⟩ : Addr).add j) = some u := by
    intro j u hj
    have hjn : j < n := by
      have := (List.getElem?_eq_some_iff.1 hj).1
      simpa [zCells] using this
    have e : (zCells Z n)[j]? = some (.int .i64 (Z j)) := by simp [zCells, hjn]
    rw [e, Option.some.injEq] at hj
    subst hj
    rw [add_plain]
    exact hE j hjn
  have HIN := hidS hin
  have hone : ∀ u ∈ zCells Z n, u.oneCell' = true := by
    intro u hu
    obtain ⟨j, _, rfl⟩ := List.mem_map.1 hu
    rfl
  have HONE := hidS hone
  have HLEN := hidS (show (zCells Z n).length = n * 1 by simp [zCells])
  clear hE hin hone
  go_enter Tryd.func4, Tryd.ntmps4
  go_wp2_with (first | (at_builtin; refine wpList_append_own _ rfl _ _ 23 rfl w.heap.size 3 i0 _ 1 8 Tryd.underlying23 hi0 hz0 hz1 hz2 rfl (by decide) _ _ _ rfl (World.ownsRow_nil _ _ _ _) ⟨b, off, none⟩ n cap (zCells Z n) rfl HLEN.out HIN.out HONE.out (by omega) (by omega) (Nat.le_refl _) ?_; intro v' w1 hown hgrow hnil))
  have HG : Hid (Below w.heap.size w w1) := (Below.refl _ _).grown hgrow (Nat.le_refl _) (fun k hk => by cases hk)
  rw [Nat.zero_add, List.nil_append] at hown
  have hown2 := hown
  obtain ⟨g, c, rfl, hg1, hg2, hg3⟩ : ∃ g c, v' = .slice (some ⟨g, 0, none⟩) n c ∧ g < w1.heap.size ∧ n ≤ c ∧ c ≤ maxLen := by
    obtain ⟨_, ⟨rfl, h⟩ | ⟨g, c, cur, rfl, q1, q2, q3, q4, _⟩⟩ := hown
    · omega
    · exact ⟨g, c, rfl, (Array.getElem?_eq_some_iff.1 q2).1, q3, q4⟩
  have HX : Hid (∀ j, j < n → w1.cell? ⟨g, 0 + j, none⟩ = some (.int .i64 (Z j))) := fun j hj => by
    rw [Nat.zero_add, hown2.cellAt j (by omega)]
    simp [zCells, hj]
  clear hown hown2 hgrow hnil
  go_wp2
  go_ret
  exact ⟨_, rfl, ⟨_, c, rfl, hg2, hg3, fun _ => ⟨g, 0, rfl, hg1, HX.out⟩⟩, fun h => by omega, HG.out⟩
set_option maxHeartbeats 400000 in
theorem ints_nil (Z : Nat → Int) (w : World) :
    Calls Tryd.prog 4 #[.slice none 0 0] w fun e w' => ∃ v, e = .returned v ∧ NumsIs w' v 0 Z ∧ ((0 : Nat) = 0 → v = .slice none 0 0) ∧ Below w.heap.size w w' := by
  obtain ⟨i0, hi0, hz0, hz1, hz2⟩ := info_partsK infoN
  go_enter Tryd.func4, Tryd.ntmps4
  go_wp2_with (first | (at_builtin; refine wpList_append_own_none rfl _ _ 23 rfl w.heap.size 3 i0 1 Tryd.underlying23 hi0 _ _ _ rfl (World.ownsRow_nil _ _ _ _) rfl ?_))
  go_ret
  exact ⟨_, rfl, ⟨none, 0, rfl, Nat.le_refl _, Nat.zero_le _, fun h => by omega⟩, by first | exact fun _ => rfl | exact rfl, Below.refl _ _⟩
set_option maxHeartbeats 400000 in
theorem ints_zero (Z : Nat → Int) (a : Addr) (cap : Nat) (w : World) :
    Calls Tryd.prog 4 #[.slice (some a) 0 cap] w fun e w' => ∃ v, e = .returned v ∧ NumsIs w' v 0 Z ∧ ((0 : Nat) = 0 → v = .slice none 0 0) ∧ Below w.heap.size w w' := by
  obtain ⟨i0, hi0, hz0, hz1, hz2⟩ := info_partsK infoN
  go_enter Tryd.func4, Tryd.ntmps4
  go_wp2_with (first | (at_builtin; refine wpList_append_own _ rfl _ _ 23 rfl w.heap.size 3 i0 _ 1 8 Tryd.underlying23 hi0 hz0 hz1 hz2 rfl (by decide) _ _ _ rfl (World.ownsRow_nil _ _ _ _) a 0 cap [] rfl rfl (fun j u hj => by simp at hj) (fun u hu => by cases hu) (by decide) (by decide) (Nat.le_refl _) ?_; intro v' w1 hown hgrow hnil))
  have hv : v' = .slice none 0 0 := hnil.2 ⟨rfl, trivial⟩
  subst hv
  have HG : Hid (Below w.heap.size w w1) := (Below.refl _ _).grown hgrow (Nat.le_refl _) (fun k hk => by cases hk)
  clear hown hgrow hnil
  go_wp2
  go_ret
  exact ⟨_, rfl, ⟨none, 0, rfl, Nat.le_refl _, Nat.zero_le _, fun h => by omega⟩, by first | exact fun _ => rfl | exact rfl, HG.out⟩
/-- the law's own copy of numbers: the same numbers -/
theorem ints_is (v : Value) (n : Nat) (Z : Nat → Int) (w : World) (hv : NumsIs w v n Z) (hreach : n * 8 ≤ 140737488351232) (hnil : ∀ c, v = .slice none 0 c → c = 0) :
    Calls Tryd.prog 4 #[v] w fun e w' => ∃ v', e = .returned v' ∧ NumsIs w' v' n Z ∧ (n = 0 → v' = .slice none 0 0) ∧ Below w.heap.size w w' := by
  obtain ⟨a, cap, rfl, h1, h2, h3⟩ := hv
  rcases Nat.eq_zero_or_pos n with hz | hz
  · subst hz
    cases a with
    | none =>
      obtain rfl := hnil cap rfl
      exact ints_nil Z w
    | some a => exact ints_zero Z a cap w
  · obtain ⟨b, off, rfl, h4, h5⟩ := h3 hz
    exact ints_some b off n cap Z w hz h1 h2 hreach h4 h5
set_option maxHeartbeats 800000 in
theorem sameInts_is (u v : Value) (n : Nat) (Z : Nat → Int) (w : World) (hu : NumsIs w u n Z) (hv : NumsIs w v n Z) :
    Calls Tryd.prog 8 #[u, v] w fun e w' => e = .returned (.bool true) ∧ Below w.heap.size w w' := by
  obtain ⟨a, cap, rfl, h1, h2, h3⟩ := hu
  obtain ⟨a', cap', rfl, h1', h2', h3'⟩ := hv
  have H3 := hidS h3
  have H3' := hidS h3'
  unfold maxLen at h2 h2'
  clear h3 h3'
  go_enter Tryd.func8, Tryd.ntmps8
  go_wp2
  go_loopw [5] (fun q wr => ∃ k : Nat, k ≤ n ∧ q = .int .i64 k ∧ Below w.heap.size w wr) (fun q _ => n - (intOf q).toNat)
  case atStart => exact ⟨0, Nat.zero_le _, rfl, Below.refl _ _⟩
  case round =>
    obtain ⟨k, hk, rfl, hbr⟩ := hrel
    have HBR := hidS hbr
    clear hbr
    by_cases hlt : k < n
    · obtain ⟨b, off, rfl, hb, hE⟩ := H3.out (by omega)
      obtain ⟨b', off', rfl, hb', hE'⟩ := H3'.out (by omega)
      have e1 : wr.cell? ⟨b, off + k, none⟩ = some (.int .i64 (Z k)) := (HBR.out.cell (p := ⟨b, off + k, none⟩) hb).trans (hE k hlt)
      have e2 : wr.cell? ⟨b', off' + k, none⟩ = some (.int .i64 (Z k)) := (HBR.out.cell (p := ⟨b', off' + k, none⟩) hb').trans (hE' k hlt)
      have hki : (k : Int) < (n : Int) := by omega
      clear hE hE'
      generalize Z k = zk at *
      go_wp2
      go_quiet (fail)
      go_wp2
      go_roundw
      case rel => exact ⟨k + 1, by omega, by go_num, below_drawn HBR.out _⟩
      case measure => simp [intOf]; omega
    · go_wp2
      go_ret
      exact ⟨rfl, HBR.out⟩
end Go.Proofs.YtnfljohddpadhaaDoor
