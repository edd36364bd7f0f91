/-
  CONTRACTS: slices.Sort and slices.Compact of a list of numbers of one's own; axes.inOrder.
-/
import Derived.Test.YtnfljohddpadhaaDoorStSets
import Derived.Test.YtnfljohddpadhaaDoorShelf2
import Derived.Sort.OwnSortedInts
import Derived.Lib.SlicesCompact
import Derived.Deep.QuietTactic
import Derived.BigQuiet
import Derived.WalkLawsBesides
import Derived.Outline
set_option linter.unusedVariables false
namespace Go.Proofs.YtnfljohddpadhaaDoor
set_option maxRecDepth 100000
open Go.RowKit Go.WideShapes Go.Sort

/-- numbers as cells -/
def iCells (zs : List Int) : List Value := zs.map (Value.int .i64)
theorem sort_own (base g n cap : Nat) (zs : List Int) (w : World) (hl : zs.length = n) (hs : n < 4611686018427387904) (h : w.ownsRow base 3 1 (.slice (some ⟨g, 0, none⟩) n cap) n (iCells zs)) :
    Calls Tryd.prog 24 #[.slice (some ⟨g, 0, none⟩) n cap] w fun e w' => e = .returned (.tuple #[]) ∧ w'.ownsRow base 3 1 (.slice (some ⟨g, 0, none⟩) n cap) n (iCells (zs.mergeSort fun x y => decide (x ≤ y))) ∧ w.grownBy w' (some g) := by
  subst hl
  obtain ⟨_, ⟨h0, _⟩ | ⟨g', cap', cur, e, hb, hg, h1, h2, h3, h4⟩⟩ := h
  · cases h0
  · cases e
    have hH : Holds (Value.int .i64) w g 0 zs.toArray := holds_of_blockI hg (by simpa [iCells] using h4)
    refine (Tryd.slices_Sort_int g 0 cap zs w hH (Array.getElem?_eq_some_iff.1 hg).1 hs).mono ?_
    rintro e w' ⟨rfl, n, os, rfl⟩
    exact ⟨rfl, ownsRow_sortedI (by simp) hb hg h1 h2 h3, grownBy_sortedI _⟩
theorem compact_own (base g n cap : Nat) (zs : List Int) (w : World) (hl : zs.length = n) (h : w.ownsRow base 3 1 (.slice (some ⟨g, 0, none⟩) n cap) n (iCells zs)) :
    Calls Tryd.prog 25 #[.slice (some ⟨g, 0, none⟩) n cap] w fun e w' => e = .returned (.slice (some ⟨g, 0, none⟩) (Lib.compact zs).length cap) ∧ (∀ j (hj : j < (Lib.compact zs).length), w'.cell? ⟨g, j, none⟩ = some (.int .i64 (Lib.compact zs)[j])) ∧ w.grownBy w' (some g) := by
  subst hl
  obtain ⟨_, ⟨h0, _⟩ | ⟨g', cap', cur, e, hb, hg, h1, h2, h3, h4⟩⟩ := h
  · cases h0
  · cases e
    have hH : Holds (Value.int .i64) w g 0 zs.toArray := holds_of_blockI hg (by simpa [iCells] using h4)
    have hc := Lib.compact_length_le zs
    unfold maxLen at h2
    refine (Tryd.slices_Compact_int g 0 cap zs w hH (by omega) h1).mono ?_
    rintro e w' ⟨rfl, q, rfl⟩
    have e1 := grow_empty (putRow (Value.int .i64) (Sort.ahead w q) g 0 (Lib.compact zs ++ List.replicate (zs.length - (Lib.compact zs).length) 0).toArray)
    refine ⟨rfl, fun j hj => ?_, ?_⟩
    · rw [← e1, Lib.cell_of_heap (heap_sortedI _ hg)]
      have hlen : (Lib.compact zs ++ List.replicate (zs.length - (Lib.compact zs).length) 0).length = zs.length := by simp; omega
      simp [putCells, show j < cur.size by omega]
      rw [if_pos (by omega)]
      simp [List.getElem?_append_left hj, hj]
    · rw [← e1]; exact grownBy_sortedI _
theorem compact_sub (zs : List Int) : (Lib.compact zs).Sublist zs := by
  have e : (List.range zs.length).map (zs.toArray[·]!) = zs := by
    apply List.ext_getElem?
    intro i
    by_cases h : i < zs.length
    · simp [h]
    · simp [h]
  have h : (((List.range zs.length).filter (Lib.keeps zs.toArray)).map (zs.toArray[·]!)).Sublist ((List.range zs.length).map (zs.toArray[·]!)) := List.Sublist.map _ List.filter_sublist
  rw [e] at h
  exact h
theorem compact_mem (zs : List Int) : ∀ j, j < zs.length → zs.toArray[j]! ∈ Lib.compact zs := by
  intro j
  induction j with
  | zero =>
    intro h
    exact List.mem_map.2 ⟨0, List.mem_filter.2 ⟨List.mem_range.2 h, Lib.keeps_lt_one _ 0 (by decide)⟩, rfl⟩
  | succ k ih =>
    intro h
    by_cases e : zs.toArray[k + 1]! = zs.toArray[k]!
    · rw [e]; exact ih (by omega)
    · exact List.mem_map.2 ⟨k + 1, List.mem_filter.2 ⟨List.mem_range.2 h, Lib.keeps_pos (by simpa using e)⟩, rfl⟩
theorem compact_iff (zs : List Int) (x : Int) : x ∈ Lib.compact zs ↔ x ∈ zs := by
  constructor
  · exact fun h => (compact_sub zs).subset h
  · intro h
    obtain ⟨j, hj, e⟩ := List.mem_iff_getElem.1 h
    have := compact_mem zs j hj
    simpa [hj, e] using this
theorem sorted_int (zs : List Int) : (zs.mergeSort fun x y => decide (x ≤ y)).Pairwise (fun x y => x ≤ y) := by
  have h := List.pairwise_mergeSort (le := fun x y : Int => decide (x ≤ y)) (fun a b c h1 h2 => by simp at *; omega) (fun a b => by simp; omega) zs
  exact h.imp (fun h => by simpa using h)
/-- the list that context nodes come to -/
def ordL (zs : List Int) : List Int := Lib.compact (zs.mergeSort fun x y => decide (x ≤ y))
theorem ordL_mem (zs : List Int) (x : Int) : x ∈ ordL zs ↔ x ∈ zs := by unfold ordL; rw [compact_iff, List.mem_mergeSort]
theorem ordL_asc (zs : List Int) : (ordL zs).Pairwise (fun x y => x ≤ y) := (sorted_int zs).sublist (compact_sub _)
theorem ordL_len (zs : List Int) : (ordL zs).length ≤ zs.length := by
  have h := (compact_sub (zs.mergeSort fun x y => decide (x ≤ y))).length_le
  simpa [ordL] using h
set_option maxHeartbeats 1600000 in
theorem inOrder_none (w : World) : Calls Tryd.prog 15 #[.slice none 0 0] w fun e w' => e = .returned (.slice none 0 0) ∧ Below w.heap.size w w' := by
  go_enter Tryd.func15, Tryd.ntmps15
  go_wp2_with (first
    | (go_at_call 23; refine (Tryd.slices_Clone_int_nil 0 0 _).mono ?_; rintro e w1 ⟨rfl, hw1⟩; obtain rfl := hw1.symm; clear hw1)
    | (go_at_call 24; refine (Tryd.slices_Sort_int_none none 0 _).mono ?_; rintro e w1 ⟨rfl, hw1⟩; obtain rfl := hw1.symm; clear hw1)
    | (go_at_call 25; refine (Tryd.slices_Compact_int_empty none 0 _).mono ?_; rintro e w1 ⟨rfl, hw1⟩; obtain rfl := hw1.symm; clear hw1))
  go_ret
  exact ⟨rfl, Below.refl _ _⟩
set_option maxHeartbeats 1600000 in
theorem inOrder_some (ib io n icap : Nat) (zs : List Int) (w : World) (hl : zs.length = n) (h0 : 0 < n) (hn : n * 8 ≤ 140737488355328) (hc : ∀ j (hj : j < zs.length), w.cell? ⟨ib, io + j, none⟩ = some (.int .i64 zs[j])) :
    Calls Tryd.prog 15 #[.slice (some ⟨ib, io, none⟩) n icap] w fun e w' => ∃ g cap, e = .returned (.slice (some ⟨g, 0, none⟩) (ordL zs).length cap) ∧ w.heap.size ≤ g ∧ g < w'.heap.size ∧ (ordL zs).length ≤ cap ∧ cap ≤ maxLen ∧ (∀ j (hj : j < (ordL zs).length), w'.cell? ⟨g, j, none⟩ = some (.int .i64 (ordL zs)[j])) ∧ Below w.heap.size w w' := by
  have CC : Hid (Calls Tryd.prog 23 #[.slice (some ⟨ib, io, none⟩) n icap] w fun e w' => ∃ g cap, e = .returned (.slice (some ⟨g, 0, none⟩) n cap) ∧ w'.ownsRow w.heap.size 3 1 (.slice (some ⟨g, 0, none⟩) n cap) n (iCells zs) ∧ n ≤ cap ∧ cap ≤ maxLen ∧ w.heap.size ≤ g ∧ Below w.heap.size w w') := (Tryd.slices_Clone_int ib io n icap zs w (by omega) hn (fun j hj => by rw [hc j hj]; simp [hj])).mono (by
    rintro e w' ⟨v', rfl, h1, h2, h3⟩
    rw [show zs.take n = zs by rw [← hl]; simp] at h1
    have h1' := h1
    obtain ⟨_, ⟨e0, _⟩ | ⟨g, cap, cur, rfl, hb, hg, k1, k2, k3, k4⟩⟩ := h1'
    · exact absurd e0 h2
    · exact ⟨g, cap, rfl, h1, k1, k2, hb, h3⟩)
  have HL := hidS (ordL_len zs)
  have hsl : (zs.mergeSort fun x y => decide (x ≤ y)).length = n := by simpa using hl
  clear hc
  go_enter Tryd.func15, Tryd.ntmps15
  go_wp2_with (first
    | (go_at_call 23; refine CC.out.mono ?_; rintro e w1 ⟨g, cap, rfl, h1, k1, k2, k3, k4⟩; have H1 := hidS h1; have K2 := hidS k2; have K4 := hidS k4; clear h1 k2 k4 CC)
    | (go_at_call 24; refine (sort_own w.heap.size g n cap zs w1 hl (by omega) H1.out).mono ?_; rintro e w2 ⟨rfl, h2, k5⟩; have H2 := hidS h2; have K5 : Hid (Below w.heap.size w w2) := Below.grown K4.out k5 K4.out.size (fun q hq => by cases hq; exact k3); clear h2 k5)
    | (go_at_call 25; refine (compact_own w.heap.size g n cap _ w2 hsl H2.out).mono ?_; rintro e w3 ⟨rfl, h3, k6⟩; have H3 := hidS h3; have K6 : Hid (Below w.heap.size w w3) := Below.grown K5.out k6 K5.out.size (fun q hq => by cases hq; exact k3); have K7 : Hid (g < w3.heap.size) := Nat.lt_of_lt_of_le (World.ownsRow.lt H2.out g rfl).2 k6.size; clear h3 k6))
  go_ret
  exact ⟨g, cap, rfl, k3, K7.out, by have := HL.out; omega, K2.out, H3.out, K6.out⟩
end Go.Proofs.YtnfljohddpadhaaDoor
