/-
  CONTRACT of package axes: meeting.
-/
import Derived.Test.YtnfljohddpadhaaDoorStFar
import Derived.Test.YtnfljohddpadhaaDoorStOrder
import Derived.Test.YtnfljohddpadhaaDoorPkPick
import Derived.Deep.QuietTactic
import Derived.BigQuiet
import Derived.WalkLawsBesides
import Derived.Outline
import Derived.Deep.RegionHeld3
import Derived.Deep.RegionLaw
import Derived.Laws.EntriesVeiled
set_option linter.unusedVariables false
namespace Go.Proofs.YtnfljohddpadhaaDoor
set_option maxRecDepth 100000
open Go.RowKit Go.WideShapes

theorem own_keep {w w' : World} {base : Nat} {e : TypeId} {size : Nat} {v : Value} {n : Nat} {xs : List Value} (h : w.ownsRow base e size v n xs) (hb : ∀ b, v.ownBlock = some b → w'.heap[b]? = w.heap[b]?) : w'.ownsRow base e size v n xs := by
  obtain ⟨h1, ⟨rfl, h2⟩ | ⟨g, cap, cur, rfl, k1, k2, k3⟩⟩ := h
  · exact ⟨h1, .inl ⟨rfl, h2⟩⟩
  · exact ⟨h1, .inr ⟨g, cap, cur, rfl, k1, (hb g rfl).trans k2, k3⟩⟩
theorem own_base {w : World} {B B' : Nat} {e : TypeId} {v : Value} {n : Nat} {xs : List Value} (h : w.ownsRow B e 1 v n xs) (hB : B' ≤ B) : w.ownsRow B' e 1 v n xs := by
  obtain ⟨h1, h2 | ⟨g, cap, cur, rfl, k1, k2⟩⟩ := h
  · exact ⟨h1, .inl h2⟩
  · exact ⟨h1, .inr ⟨g, cap, cur, rfl, Nat.le_trans hB k1, k2⟩⟩
/-- places as cells -/
def nCells (L : List Nat) : List Value := L.map fun i : Nat => Value.int .i64 (i : Int)
theorem nCells_i (L : List Nat) : nCells L = iCells (L.map fun i : Nat => (i : Int)) := by simp [nCells, iCells]
theorem nodup_len : ∀ (N : Nat) (L : List Nat), L.Nodup → (∀ x ∈ L, x < N) → L.length ≤ N
  | 0, L, _, h => by
    cases L with
    | nil => simp
    | cons x r => exact absurd (h x (by simp)) (by omega)
  | N + 1, L, hd, h => by
    by_cases hN : N ∈ L
    · have e := List.length_erase_of_mem hN
      have k := nodup_len N (L.erase N) (hd.erase N) (fun x hx => by
        have h1 := (List.Nodup.mem_erase_iff hd).1 hx
        have := h x h1.2
        omega)
      omega
    · have k := nodup_len N L hd (fun x hx => by
        have := h x hx
        by_cases e : x = N
        · subst e; exact absurd hx hN
        · omega)
      omega
theorem infoN : (Tryd.prog.info? 3).map (fun i => (i.zero, i.size, i.bytes)) = some (some (.int .i64 0), 1, 8) := by kernel_rfl
theorem num_in {w : World} (n : Nat) : ∀ j u, ([.int .i64 (n : Int)] : List Value)[j]? = some u → (w.alloc (.cells #[.int .i64 (n : Int)] 3)).cell? ((⟨w.heap.size, 0, none⟩ : Addr).add j) = some u := by
  intro j x hj
  have hj3 : j < 1 := (List.getElem?_eq_some_iff.1 hj).1
  obtain rfl : j = 0 := by omega
  simp at hj; subst hj; simp [Addr.add]
/-- a list that rises -/
def Rise (L : List Nat) : Prop := L.Pairwise (fun a b => a < b)
theorem rise_sort (L : List Nat) (hd : L.Nodup) : ∃ L' : List Nat, ((L.map fun i : Nat => (i : Int)).mergeSort fun x y => decide (x ≤ y)) = L'.map (fun i : Nat => (i : Int)) ∧ Rise L' ∧ (∀ i, i ∈ L' ↔ i ∈ L) ∧ L'.length = L.length := by
  have hp := List.mergeSort_perm (L.map fun i : Nat => (i : Int)) (fun x y => decide (x ≤ y))
  have hs := sorted_int (L.map fun i : Nat => (i : Int))
  generalize hz : ((L.map fun i : Nat => (i : Int)).mergeSort fun x y => decide (x ≤ y)) = zs at *
  have hn : ∀ x ∈ zs, ∃ i ∈ L, x = (i : Int) := fun x hx => by
    have := hp.mem_iff.1 hx
    obtain ⟨i, hi, e⟩ := List.mem_map.1 this
    exact ⟨i, hi, e.symm⟩
  have he : zs = (zs.map Int.toNat).map (fun i : Nat => (i : Int)) := by
    rw [List.map_map]
    conv => lhs; rw [← List.map_id zs]
    apply List.map_congr_left
    intro x hx
    obtain ⟨i, _, e⟩ := hn x hx
    simp [e]
  have hnd : zs.Nodup := hp.nodup_iff.2 (List.Pairwise.map _ (fun a b h e => h (by omega)) hd)
  refine ⟨zs.map Int.toNat, he, ?_, fun i => ?_, by simp [hp.length_eq]⟩
  · refine List.Pairwise.map _ (fun a b h => h) ?_
    refine (hs.and hnd).imp_of_mem ?_
    intro a b ha hb h
    obtain ⟨i, _, e1⟩ := hn a ha
    obtain ⟨j, _, e2⟩ := hn b hb
    obtain ⟨h1, h2⟩ := h
    subst e1 e2
    have : (i : Int) ≠ (j : Int) := h2
    simp only [Int.toNat_natCast]
    omega
  · constructor
    · intro hi
      obtain ⟨x, hx, e⟩ := List.mem_map.1 hi
      obtain ⟨j, hj, e2⟩ := hn x hx
      subst e2
      simp at e
      subst e
      exact hj
    · intro hi
      refine List.mem_map.2 ⟨(i : Int), hp.mem_iff.2 (List.mem_map.2 ⟨i, hi, rfl⟩), by simp⟩
set_option maxHeartbeats 6400000 in
theorem meeting_is (la : Option Addr) (lb lo N lcap : Nat) (E : Nat → Nd) (ca : Option Addr) (K ccap M : Nat) (axis tk : Int) (tn : ByteArray) (S : Nat → Prop) (w : World) (hw : Wk w la lb lo N lcap E) (hS : Seen w M S) (hSN : ∀ i, S i → i < N) (hfn : ∀ i, i < N → (E i).name.size ≤ maxLen) (htn : tn.size ≤ maxLen) (h1 : 1 ≤ tk) (h5 : tk ≤ 5) :
    Calls Tryd.prog 17 #[.agg #[.slice la N lcap, .slice ca K ccap, .map (some M)], .int .i64 axis, .agg #[.int .i64 tk, .string tn]] w fun e w' => ∃ v L, e = .returned v ∧ w'.ownsRow w.heap.size 3 1 v L.length (nCells L) ∧ Rise L ∧ (∀ i, i ∈ L ↔ (S i ∧ tmB (E i) axis tk tn = true)) ∧ Below w.heap.size w w' := by
  have hlt := hS.lt
  obtain ⟨W2, hW2⟩ : ∃ W, W = ((w.alloc (.cells #[.slice la N lcap, .slice ca K ccap, .map (some M)] 39)).alloc (.cells #[.int .i64 tk, .string tn] 25)) := ⟨_, rfl⟩
  have hz2 : W2.heap.size = w.heap.size + 2 := by rw [hW2]; simp
  have b2 : Below w.heap.size w W2 := by rw [hW2]; exact ((Below.refl _ _).alloc (Nat.le_refl _) _).alloc (by simp) _
  have HX0 : Hid (W2.heap[w.heap.size]? = some (.cells #[.slice la N lcap, .slice ca K ccap, .map (some M)] 39)) := by rw [hW2]; exact (Below.heap_alloc _ _ _ (by simp)).trans (heap_alloc_new _ _)
  have hx1 : W2.heap[w.heap.size + 1]? = some (.cells #[.int .i64 tk, .string tn] 25) := by rw [hW2]; simpa using heap_alloc_new (w.alloc (.cells #[.slice la N lcap, .slice ca K ccap, .map (some M)] 39)) (.cells #[.int .i64 tk, .string tn] 25)
  have HX1 := hidS hx1
  have HW2 := hidS (hw.below b2)
  have HS2 : Hid (Seen W2 M S) := Seen.keep hS (b2.block M hlt)
  have q2 := hw.n
  have HB2 := hidS b2
  have HSN := hidS hSN
  have HFN := hidS hfn
  obtain ⟨i0, hi0, hy0, hy1, hy2⟩ := info_partsK infoN
  obtain ⟨x0, x1, x2, _⟩ := bk3 HX0.out
  have hcapN := hw.cap
  have hmaxN := hw.max
  unfold maxLen at hmaxN
  have HZ2 := hidS hz2
  clear hw hS b2 hSN hfn hx1 hz2
  go_enter Tryd.func17, Tryd.ntmps17
  go_upto_region 1 with fail
  rw [← hW2]
  clear hW2
  go_wp2_with (refine wpList_irange rfl (.tmp 10) 37 60 rfl Tryd.underlying37 M (setV S) (by simp [Act.eval]) HS2.out ?_; intro w4 left4 hr4 hb4; have HR4 := hidS hr4; have HB4 := hidS hb4; clear hr4 hb4)
  have HBW : Hid (Below W2.heap.size W2 w4) := HB4.out
  have hra : w.heap.size + 2 ≤ W2.heap.size := by have := HZ2.out; omega
  have hrb : W2.heap.size ≤ w.heap.size + 2 := by have := HZ2.out; omega
  generalize hrr : W2.heap.size = r at *
  have HRR := hidS hrr
  clear HB4 x0 x1 x2 hrr HZ2
  go_frame
  go_loopw [7, 12] (fun v _ wr => ∃ (D : Int → Prop) (left : Nat) (L : List Nat), wr.ownsRow (r + 1) 3 1 v L.length (nCells L) ∧ L.Nodup ∧ (∀ i : Nat, i ∈ L ↔ (D (i : Int) ∧ S i ∧ tmB (E i) axis tk tn = true)) ∧ IRng wr r M (setV S) D left ∧ Below r W2 wr) (fun _ _ wr => leftI wr M r)
  case atStart => exact ⟨_, _, [], World.ownsRow_nil _ _ _ _, List.Pairwise.nil, fun i => ⟨(fun h => by cases h), fun h => h.1.elim⟩, HR4.out, HBW.out⟩
  case round =>
    clear HR4 HBW
    obtain ⟨D, left, L, how, hnd, hmem, hrg, hbr⟩ := hrel
    have HOW := hidS how
    have HND := hidS hnd
    have HMEM := hidS hmem
    have HR := hidS hrg
    have HBR := hidS hbr
    obtain ⟨hMl, hrl, hrM⟩ := hrg.lt
    have hsh : ∃ a c, u7 = .slice a L.length c := by
      obtain ⟨_, ⟨e0, e1⟩ | ⟨b, cap, cur, e0, _⟩⟩ := how
      · exact ⟨none, 0, by rw [e0]; simp [e1]⟩
      · exact ⟨_, _, e0⟩
    obtain ⟨va, vc, rfl⟩ := hsh
    have hLN : L.length ≤ N := nodup_len N L hnd (fun x hx => HSN.out x ((hmem x).1 hx).2.1)
    clear how hnd hmem hrg hbr
    go_wp2_with (refine wpList_inext rfl (.tmp 11) rfl r M (setV S) D left (by simp [Act.eval]) HR.out ?_ ?_)
    rotate_left
    · intro x v w5 left5 hx hnD hen hlt5 hr5 ht5
      obtain ⟨n, rfl, hSn⟩ := setV_in hx
      obtain rfl : v = .agg #[] := by rw [setV_yes hSn] at hx; exact (Option.some.inj hx).symm
      have hnN := HSN.out n hSn
      have hni : (n : Int) < (N : Int) := by omega
      have HR5 := hidS hr5
      have HO5 : Hid (w5.ownsRow (r + 1) 3 1 (.slice va L.length vc) L.length (nCells L)) := own_keep HOW.out (fun b hb => ht5.2.1 b (by have := (World.ownsRow.lt HOW.out b hb).1; omega))
      have HB5 : Hid (Below r W2 w5) := HBR.out.trans (ht5.below (Nat.le_refl _))
      have HLF : Hid (leftI wr M r = left) := HR.out.left
      have hz5 : wr.heap.size = w5.heap.size := ht5.1.symm
      obtain rfl := HW2.out.la (by omega)
      have hlb : lb < r := by have h := HW2.out.lt (by omega); rw [HRR.out] at h; exact h
      have HX5 : Hid (∀ W, Below w5.heap.size w5 W → (W.cell? ⟨w.heap.size, 0, none⟩ = some (.slice (some ⟨lb, lo, none⟩) N lcap) ∧ (W.cell? ⟨w.heap.size + 1, 0, none⟩ = some (.int .i64 tk) ∧ W.cell? ⟨w.heap.size + 1, 1, none⟩ = some (.string tn)) ∧ W.cell? ⟨lb, lo + n * 6, none⟩ = some (.int .i64 (E n).kind) ∧ W.cell? ⟨lb, lo + n * 6 + 1, none⟩ = some (.string (E n).name) ∧ W.cell? ⟨lb, lo + n * 6 + 2, none⟩ = some (.string (E n).value) ∧ W.cell? ⟨lb, lo + n * 6 + 3, none⟩ = some (.int .i64 (E n).size) ∧ W.cell? ⟨lb, lo + n * 6 + 4, none⟩ = some (.int .i64 (E n).level) ∧ W.cell? ⟨lb, lo + n * 6 + 5, none⟩ = some (.int .i64 (E n).parent))) := fun W hW => by
        have hBW : Below r W2 W := HB5.out.trans (hW.mono (by omega))
        have k0 := bk3 ((hBW.block w.heap.size (by omega)).trans HX0.out)
        have k1 := (hBW.block (w.heap.size + 1) (by omega)).trans HX1.out
        obtain ⟨d0, d1, d2, d3, d4, d5⟩ := (HW2.out.at_.blk (hBW.block lb (by omega))) n hnN
        exact ⟨k0.1, ⟨by rw [Lib.cell_of_heap k1]; rfl, by rw [Lib.cell_of_heap k1]; rfl⟩, d0, d1, d2, d3, d4, d5⟩
      have CM : Hid (∀ W, Below w5.heap.size w5 W → Calls Tryd.prog 42 #[.agg #[.int .i64 (E n).kind, .string (E n).name, .string (E n).value, .int .i64 (E n).size, .int .i64 (E n).level, .int .i64 (E n).parent], .int .i64 axis, .agg #[.int .i64 tk, .string tn]] W fun e w' => e = .returned (.bool (tmB (E n) axis tk tn)) ∧ Below W.heap.size W w') := fun W hW => meets_is (E n) axis tk tn W (HFN.out n hnN) htn h1 h5
      obtain ⟨k0, ⟨k1, k2⟩, d0, d1, d2, d3, d4, d5⟩ := HX5.out w5 (Below.refl _ _)
      have hnL : n ∉ L := fun h => hnD ((HMEM.out n).1 h).1
      have HNL := hidS hnL
      have HSn := hidS hSn
      clear hx hnD hr5 ht5 HR HOW HBR hnL hSn
      go_upto_region 5 with fail
      cases htm : tmB (E n) axis tk tn
      · skip
        have HTM := hidS htm
        rw [htm] at CM
        clear htm
        go_region_held3 (fun W => (W.cell? ⟨w.heap.size, 0, none⟩ = some (.slice (some ⟨lb, lo, none⟩) N lcap) ∧ (W.cell? ⟨w.heap.size + 1, 0, none⟩ = some (.int .i64 tk) ∧ W.cell? ⟨w.heap.size + 1, 1, none⟩ = some (.string tn)) ∧ W.cell? ⟨lb, lo + n * 6, none⟩ = some (.int .i64 (E n).kind) ∧ W.cell? ⟨lb, lo + n * 6 + 1, none⟩ = some (.string (E n).name) ∧ W.cell? ⟨lb, lo + n * 6 + 2, none⟩ = some (.string (E n).value) ∧ W.cell? ⟨lb, lo + n * 6 + 3, none⟩ = some (.int .i64 (E n).size) ∧ W.cell? ⟨lb, lo + n * 6 + 4, none⟩ = some (.int .i64 (E n).level) ∧ W.cell? ⟨lb, lo + n * 6 + 5, none⟩ = some (.int .i64 (E n).parent)))
          ((refine HX5.out _ ?_; repeat (first | exact Hid.out (by assumption) | exact Below.refl _ _ | refine Below.drew ?_)))
          (first
            | (go_at_call 42; refine (CM.out _ ?_).mono ?_; (focus (repeat (first | exact Hid.out (by assumption) | exact Below.refl _ _ | refine Below.drew ?_))); rintro e w6 ⟨rfl, hb6⟩; have HB6 : Hid (Below w5.heap.size w5 w6) := (⟨hb6.os, hb6.tape, hb6.output, hb6.size, hb6.block⟩ : Below w5.heap.size w5 w6); clear hb6 CM))
        all_goals
          go_wp2_with fail
          go_roundw
          case rel => exact ⟨_, left5, L, own_keep HO5.out (fun b hb => HB6.out.block b (by have := (World.ownsRow.lt HO5.out b hb).2; omega)), HND.out, fun i => ⟨fun h => ⟨.inl ((HMEM.out i).1 h).1, ((HMEM.out i).1 h).2⟩, fun h => by
              rcases h with ⟨h | h, h2⟩
              · exact (HMEM.out i).2 ⟨h, h2⟩
              · obtain rfl : i = n := by omega
                rw [HTM.out] at h2
                exact absurd h2.2 (by decide)⟩, HR5.out.keep (HB6.out.block M (by omega)) (HB6.out.block r (by omega)), HB5.out.trans (HB6.out.mono (by omega))⟩
          case measure => rw [(HR5.out.keep (HB6.out.block M (by omega)) (HB6.out.block r (by omega))).left, HLF.out]; exact hlt5
      · skip
        have HTM := hidS htm
        rw [htm] at CM
        clear htm
        go_region_held3 (fun W => (W.cell? ⟨w.heap.size, 0, none⟩ = some (.slice (some ⟨lb, lo, none⟩) N lcap) ∧ (W.cell? ⟨w.heap.size + 1, 0, none⟩ = some (.int .i64 tk) ∧ W.cell? ⟨w.heap.size + 1, 1, none⟩ = some (.string tn)) ∧ W.cell? ⟨lb, lo + n * 6, none⟩ = some (.int .i64 (E n).kind) ∧ W.cell? ⟨lb, lo + n * 6 + 1, none⟩ = some (.string (E n).name) ∧ W.cell? ⟨lb, lo + n * 6 + 2, none⟩ = some (.string (E n).value) ∧ W.cell? ⟨lb, lo + n * 6 + 3, none⟩ = some (.int .i64 (E n).size) ∧ W.cell? ⟨lb, lo + n * 6 + 4, none⟩ = some (.int .i64 (E n).level) ∧ W.cell? ⟨lb, lo + n * 6 + 5, none⟩ = some (.int .i64 (E n).parent)))
          ((refine HX5.out _ ?_; repeat (first | exact Hid.out (by assumption) | exact Below.refl _ _ | refine Below.drew ?_)))
          (first
            | (go_at_call 42; refine (CM.out _ ?_).mono ?_; (focus (repeat (first | exact Hid.out (by assumption) | exact Below.refl _ _ | refine Below.drew ?_))); rintro e w6 ⟨rfl, hb6⟩; have HB6 : Hid (Below w5.heap.size w5 w6) := (⟨hb6.os, hb6.tape, hb6.output, hb6.size, hb6.block⟩ : Below w5.heap.size w5 w6); clear hb6 CM))
        all_goals
          have HO6 : Hid (w6.ownsRow (r + 1) 3 1 (.slice va L.length vc) L.length (nCells L)) := own_keep HO5.out (fun b hb => HB6.out.block b (by have := (World.ownsRow.lt HO5.out b hb).2; omega))
          have hz6 := HB6.out.size
          go_wp2_with (first | (at_builtin; refine wpList_append_atK rfl (.tmp 24) (.tmp 26) 23 rfl (r + 1) 3 i0 _ 1 8 Tryd.underlying23 hi0 hy0 hy1 hy2 rfl (by decide) _ _ _ rfl (HO6.out.alloc _) ⟨w6.heap.size, 0, none⟩ 1 1 [.int .i64 (n : Int)] rfl rfl (num_in n) (by simp [Value.oneCell']) (by unfold maxLen; omega) (by omega) (by simp <;> omega) ?_; intro v7 w7 hown7 hgrow7 hk7; have HO7 : Hid (w7.ownsRow (r + 1) 3 1 v7 (L ++ [n]).length (nCells (L ++ [n]))) := (by rw [List.length_append]; simp only [nCells, List.map_append, List.map_cons, List.map_nil]; exact hown7); have HB7 : Hid (Below (r + 1) w5 w7) := Below.grown ((HB6.out.mono (by omega)).alloc (by omega) _) hgrow7 (by simp; omega) (fun q hq => (World.ownsRow.lt HO6.out q hq).1); clear hown7 hgrow7 hk7))
          go_roundw
          case rel => exact ⟨_, left5, L ++ [n], HO7.out, List.nodup_append.2 ⟨HND.out, by simp, fun a ha b hb => by
              have : b = n := by simpa using hb
              subst this
              exact fun e => HNL.out (e ▸ ha)⟩, fun i => ⟨fun h => by
              rcases List.mem_append.1 h with h | h
              · exact ⟨.inl ((HMEM.out i).1 h).1, ((HMEM.out i).1 h).2⟩
              · obtain rfl : i = n := by simpa using h
                exact ⟨.inr rfl, HSn.out, HTM.out⟩, fun h => by
              rcases h with ⟨h | h, h2⟩
              · exact List.mem_append.2 (.inl ((HMEM.out i).2 ⟨h, h2⟩))
              · obtain rfl : i = n := by omega
                exact List.mem_append.2 (.inr (by simp))⟩, HR5.out.keep (HB7.out.block M (by omega)) (HB7.out.block r (by omega)), HB5.out.trans (HB7.out.mono (by omega))⟩
          case measure => rw [(HR5.out.keep (HB7.out.block M (by omega)) (HB7.out.block r (by omega))).left, HLF.out]; exact hlt5
    · intro hdone
      have HDN : Hid (∀ i : Nat, S i → D (i : Int)) := fun i hi => hdone i (.agg #[]) (setV_yes hi)
      have HBW : Hid (Below w.heap.size w wr) := HB2.out.trans (HBR.out.mono (by omega))
      clear hdone HR
      obtain ⟨L', e1, e2, e3, e4⟩ := rise_sort L HND.out
      have HE2 := hidS e2
      have HE3 := hidS e3
      have HFI : Hid (∀ i, i ∈ L' ↔ (S i ∧ tmB (E i) axis tk tn = true)) := fun i => by rw [e3]; exact ⟨fun h => ((HMEM.out i).1 h).2, fun h => (HMEM.out i).2 ⟨HDN.out i h.1, h⟩⟩
      have HE1 := hidS e1
      have HE4 := hidS e4
      clear e1 e2 e3 e4
      obtain ⟨hl0, ⟨hv, hl1⟩ | ⟨g, cap, cur, hv, hb, hg, k1, k2, k3, k4⟩⟩ := HOW.out
      · clear hl0 hl1
        obtain ⟨rfl, hL1, rfl⟩ : va = none ∧ L.length = 0 ∧ vc = 0 := by simpa using hv
        have hL0 : L = [] := List.eq_nil_of_length_eq_zero hL1
        subst hL0
        clear hv hL1 hLN HOW
        rw [List.length_nil]
        go_wp2_with (go_at_call 24; refine (Tryd.slices_Sort_int_none none 0 _).mono ?_; rintro e w8 ⟨rfl, hw8⟩; obtain rfl := hw8.symm; clear hw8)
        go_ret
        exact ⟨_, [], rfl, World.ownsRow_nil _ _ _ _, List.Pairwise.nil, fun i => by rw [← HFI.out i, HE3.out i], HBW.out⟩
      · obtain ⟨rfl, rfl⟩ : va = some ⟨g, 0, none⟩ ∧ vc = cap := by simpa using hv
        clear hv hl0 k3
        have CS := hidS (sort_own (r + 1) g L.length vc (L.map fun i : Nat => (i : Int)) wr (by simp) (by omega) (by rw [← nCells_i]; exact HOW.out))
        clear hg k4 HOW
        go_wp2_with (go_at_call 24; refine CS.out.mono ?_; rintro e w8 ⟨rfl, ho8, hg8⟩; have HO8 := hidS ho8; have HB8 : Hid (Below w.heap.size w w8) := Below.grown HBW.out hg8 (by omega) (fun q hq => by cases hq; omega); clear ho8 hg8)
        go_ret
        refine ⟨_, L', rfl, ?_, HE2.out, HFI.out, HB8.out⟩
        have h8 := HO8.out
        rw [HE1.out, ← nCells_i] at h8
        rw [HE4.out]
        exact own_base h8 (by omega)
end Go.Proofs.YtnfljohddpadhaaDoor
