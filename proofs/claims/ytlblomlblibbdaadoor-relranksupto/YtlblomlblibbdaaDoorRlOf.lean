/-
  CONTRACTS: one list copied; a relation of columns and rows (relOf); two relations checked (checkBoth, twoFault).
-/
import Derived.Test.YtlblomlblibbdaaDoorRlLists
set_option linter.unusedVariables false
namespace Go.Proofs.YtlblomlblibbdaaDoor
set_option maxRecDepth 100000
open Go.RowKit Go.WideShapes

theorem one_at {w : World} {b off : Nat} {u : Value} (h : w.cell? ⟨b, off, none⟩ = some u) : ∀ i, i < 1 → w.cell? ⟨b, off + i, none⟩ = some u := by
  intro i hi
  obtain rfl : i = 0 := by omega
  exact h
theorem oneI {w : World} {base : Nat} {v : Value} {R : Nat → Row} (h : w.ownsRow base 38 3 v (catI R 1).len (itCells (catI R 1).at_ (catI R 1).len)) : w.ownsRow base 38 3 v (R 0).len (itCells (R 0).at_ (R 0).len) := by
  have e : itCells (catI R 1).at_ (catI R 1).len = itCells (R 0).at_ (R 0).len := (cells_appI (catI R 0) (R 0)).trans (List.nil_append _)
  rw [e, show (catI R 1).len = (R 0).len from Nat.zero_add _] at h
  exact h
theorem oneS {w : World} {base : Nat} {v : Value} {R : Nat → Txts} (h : w.ownsRow base 9 1 v (catS R 1).len (strCells (catS R 1).at_ (catS R 1).len)) : w.ownsRow base 9 1 v (R 0).len (strCells (R 0).at_ (R 0).len) := by
  have e : strCells (catS R 1).at_ (catS R 1).len = strCells (R 0).at_ (R 0).len := (cells_appS (catS R 0) (R 0)).trans (List.nil_append _)
  rw [e, show (catS R 1).len = (R 0).len from Nat.zero_add _] at h
  exact h
theorem concatI_one (b off cap : Nat) (u : Value) (n : Nat) (X : Nat → It) (w : World) (h1 : 1 ≤ cap) (hc : cap ≤ maxLen) (hb : b < w.heap.size) (hcell : w.cell? ⟨b, off, none⟩ = some u) (hu : ItsIs w u n X) (hn : n * 32 ≤ 140737488351232) :
    Calls Tryd.prog 17 #[.slice (some ⟨b, off, none⟩) 1 cap] w fun e w' => ∃ v, e = .returned v ∧ ItsApart w' w.heap.size none v n X ∧ (∃ a' c', v = .slice a' n c') ∧ Below w.heap.size w w' := by
  refine (concatI_some b off 1 cap (fun _ => ⟨n, X⟩) w h1 hc hb (fun i hi => ⟨u, one_at hcell i hi, hu⟩) (by show (0 + n) * 32 ≤ _; omega)).mono ?_
  rintro e w' ⟨v, rfl, hv, hbel⟩
  have hv' := oneI hv
  exact ⟨v, rfl, its_new hv' (fun k hk => nomatch hk), own_shape hv', hbel⟩
theorem items_one (b off cap : Nat) (u : Value) (n : Nat) (X : Nat → It) (w : World) (h1 : 1 ≤ cap) (hc : cap ≤ maxLen) (hb : b < w.heap.size) (hcell : w.cell? ⟨b, off, none⟩ = some u) (hu : ItsIs w u n X) (hn : n * 32 ≤ 140737488351232) :
    Calls Tryd.prog 24 #[.slice (some ⟨b, off, none⟩) 1 cap] w fun e w' => ∃ v, e = .returned v ∧ ItsApart w' w.heap.size none v n X ∧ (∃ a' c', v = .slice a' n c') ∧ Below w.heap.size w w' := by
  refine (listsI_some b off 1 cap (fun _ => ⟨n, X⟩) w h1 hc hb (fun i hi => ⟨u, one_at hcell i hi, hu⟩) (by show (0 + n) * 32 ≤ _; omega)).mono ?_
  rintro e w' ⟨v, rfl, hv, hbel⟩
  have hv' := oneI hv
  exact ⟨v, rfl, its_new hv' (fun k hk => nomatch hk), own_shape hv', hbel⟩
theorem concatS_one (b off cap : Nat) (u : Value) (n : Nat) (C : Nat → ByteArray) (w : World) (h1 : 1 ≤ cap) (hc : cap ≤ maxLen) (hb : b < w.heap.size) (hcell : w.cell? ⟨b, off, none⟩ = some u) (hu : StrsIs w u n C) (hn : n * 16 ≤ 140737488351232) :
    Calls Tryd.prog 14 #[.slice (some ⟨b, off, none⟩) 1 cap] w fun e w' => ∃ v, e = .returned v ∧ StrsFrom w' w.heap.size v n C ∧ (∃ a' c', v = .slice a' n c') ∧ Below w.heap.size w w' := by
  refine (concatS_some b off 1 cap (fun _ => ⟨n, C⟩) w h1 hc hb (fun i hi => ⟨u, one_at hcell i hi, hu⟩) (by show (0 + n) * 16 ≤ _; omega)).mono ?_
  rintro e w' ⟨v, rfl, hv, hbel⟩
  have hv' := oneS hv
  exact ⟨v, rfl, strs_from hv', own_shape hv', hbel⟩
theorem texts_one (b off cap : Nat) (u : Value) (n : Nat) (C : Nat → ByteArray) (w : World) (h1 : 1 ≤ cap) (hc : cap ≤ maxLen) (hb : b < w.heap.size) (hcell : w.cell? ⟨b, off, none⟩ = some u) (hu : StrsIs w u n C) (hn : n * 16 ≤ 140737488351232) :
    Calls Tryd.prog 26 #[.slice (some ⟨b, off, none⟩) 1 cap] w fun e w' => ∃ v, e = .returned v ∧ StrsFrom w' w.heap.size v n C ∧ (∃ a' c', v = .slice a' n c') ∧ Below w.heap.size w w' := by
  refine (listsS_some b off 1 cap (fun _ => ⟨n, C⟩) w h1 hc hb (fun i hi => ⟨u, one_at hcell i hi, hu⟩) (by show (0 + n) * 16 ≤ _; omega)).mono ?_
  rintro e w' ⟨v, rfl, hv, hbel⟩
  have hv' := oneS hv
  exact ⟨v, rfl, strs_from hv', own_shape hv', hbel⟩

/-- a relation's place was made for the result -/
theorem resbox {w wr : World} {x y : Value} {T : TypeId} {B : Nat} (hB : w.heap.size < B) (h : Below B (w.alloc (.cells #[x, y] T)) wr) :
    wr.cell? ⟨w.heap.size, 0, none⟩ = some x ∧ wr.cell? ⟨w.heap.size, 1, none⟩ = some y ∧ wr.frozen? ⟨w.heap.size, 0, none⟩ = false ∧ wr.frozen? ⟨w.heap.size, 1, none⟩ = false ∧ w.heap.size < wr.heap.size := by
  have hs := h.size
  simp at hs
  refine ⟨(h.cell (p := ⟨w.heap.size, 0, none⟩) hB).trans ?_, (h.cell (p := ⟨w.heap.size, 1, none⟩) hB).trans ?_, (h.frozen (p := ⟨w.heap.size, 0, none⟩) hB).trans ?_, (h.frozen (p := ⟨w.heap.size, 1, none⟩) hB).trans ?_, by omega⟩ <;> simp
theorem nil_from (w : World) (base : Nat) (C : Nat → ByteArray) : StrsFrom w base (.slice none 0 0) 0 C := ⟨none, 0, rfl, Nat.le_refl _, Nat.zero_le _, fun _ => rfl, fun h => absurd h (Nat.lt_irrefl _)⟩
theorem StrsFrom.weaken {w : World} {base base' : Nat} {v : Value} {n : Nat} {C : Nat → ByteArray} (h : StrsFrom w base v n C) (hb : base' ≤ base) : StrsFrom w base' v n C := by
  obtain ⟨a, cap, h1, h2, h3, hn, h4⟩ := h
  refine ⟨a, cap, h1, h2, h3, hn, fun h0 => ?_⟩
  obtain ⟨b, off, h5, h6, h7, h8⟩ := h4 h0
  exact ⟨b, off, h5, h6, by omega, h8⟩
theorem nil_strs (w : World) (C : Nat → ByteArray) : StrsIs w (.slice none 0 0) 0 C := ⟨none, 0, rfl, Nat.le_refl _, Nat.zero_le _, fun _ => rfl, fun h => absurd h (Nat.lt_irrefl _)⟩
theorem nil_rows (w : World) (R : Nat → Row) : RowsIs w (.slice none 0 0) 0 R := ⟨none, 0, rfl, Nat.le_refl _, Nat.zero_le _, fun _ => rfl, fun h => absurd h (Nat.lt_irrefl _)⟩
/-- what is kept if all is well -/
def keptV (F : Int) (q : Value) : Value := if F = 0 then q else .slice none 0 0
/-- how many there are if all is well -/
def okN (F : Int) (n : Nat) : Nat := if F = 0 then n else 0

set_option maxHeartbeats 1600000 in
theorem relOf_is (c q : Value) (n m : Nat) (C : Nat → ByteArray) (R : Nat → Row) (w : World) (hc : StrsIs w c n C) (hq : RowsIs w q m R) (hf : StrsFine n C) :
    Calls Tryd.prog 25 #[c, q] w fun e w' => ∃ c' q', e = .returned (.tuple #[.agg #[c', q'], .int .i64 (madeF C n m)]) ∧ StrsFrom w' w.heap.size c' (okN (madeF C n m) n) C ∧ q' = keptV (madeF C n m) q ∧ Below w.heap.size w w' := by
  have HCF : Hid (∀ o, Calls Tryd.prog 39 #[c] (w.alloc o) fun e w' => e = .returned (.int .i64 (colsF C n)) ∧ Below (w.alloc o).heap.size (w.alloc o) w') := fun o => colsFault_is c n C _ (hc.below ((Below.refl _ _).alloc (Nat.le_refl _) _)) hf.2
  have HC : Hid (∀ W, Below w.heap.size w W → StrsIs W c n C) := fun W hW => hc.below hW
  have HN : Hid (n * 16 ≤ 140737488351232) := hf.1
  obtain ⟨qa, qcap, rfl, q1, q2, _, _⟩ := hq
  obtain ⟨ca, ccap, rfl, c1, c2, _, _⟩ := hc
  have hmm : m ≤ 9223372036854775807 := by unfold maxLen at q2; omega
  clear hf q2 c2
  by_cases h0 : colsF C n = 0
  · by_cases hm : 1000000 < m
    · have HM : Hid (madeF C n m = 1) := by
        have h : madeF C n m = 1 := by rw [madeF_rows h0, if_pos hm]
        exact h
      rw [h0] at HCF
      clear h0
      go_enter Tryd.func25, Tryd.ntmps25
      go_wp2_with (first | (go_at_call 39; refine (HCF.out _).mono ?_; rintro e w1 ⟨rfl, hb1⟩; have HB1 : Hid (Below w.heap.size w w1) := ((Below.refl _ _).alloc (Nat.le_refl _) _).trans (hb1.mono (by simp)); obtain ⟨x0, x1, x2, x3, x4⟩ := resbox (by simp) hb1; clear hb1))
      refine bodyPost_ret (v := .tuple #[.agg #[.slice none 0 0, .slice none 0 0], .int .i64 1]) (by simp [results, Tryd.results25, go_sem, x0, x1]) rfl ⟨.slice none 0 0, .slice none 0 0, by first | rfl | rw [HM.out], ?_, ?_, (HB1.out.setCell (by simp) _).setCell (by simp) _⟩
      · first | (exact nil_from _ _ _) | (rw [HM.out]; exact nil_from _ _ _)
      · first | (rfl) | (rw [HM.out]; rfl)
    · have HM : Hid (madeF C n m = 0) := by
        have h : madeF C n m = 0 := by rw [madeF_rows h0, if_neg hm]
        exact h
      rw [h0] at HCF
      clear h0
      go_enter Tryd.func25, Tryd.ntmps25
      go_wp2_with (first | (go_at_call 39; refine (HCF.out _).mono ?_; rintro e w1 ⟨rfl, hb1⟩; have HB1 : Hid (Below w.heap.size w w1) := ((Below.refl _ _).alloc (Nat.le_refl _) _).trans (hb1.mono (by simp)); have HB1' : Hid (Below (w.heap.size + 1) _ w1) := hb1.mono (by simp); have hz1 : w.heap.size < w1.heap.size := (resbox (by simp) hb1).2.2.2.2; clear hb1) |
        (go_at_call 26; refine (texts_one w1.heap.size 0 1 (.slice ca n ccap) n C _ (Nat.le_refl _) (by unfold maxLen; omega) (by simp) (by simp) (HC.out _ (HB1.out.alloc (by omega) _)) HN.out).mono ?_; rintro e w2 ⟨v2, rfl, hv2, hsh2, hb2⟩; obtain ⟨va2, vc2, rfl⟩ := hsh2; have HV2 : Hid (StrsFrom w2 (w.heap.size + 1) (.slice va2 n vc2) n C) := (by obtain ⟨a, cap, k1, k2, k3, k4, k5⟩ := hv2; exact ⟨a, cap, k1, k2, k3, k4, fun k0 => (by obtain ⟨b, off, j1, j2, j3, j4⟩ := k5 k0; exact ⟨b, off, j1, j2, by simp at j3; omega, j4⟩)⟩); have HB2 : Hid (Below w.heap.size w w2) := (HB1.out.alloc (by omega) _).trans (hb2.mono (by simp; omega)); obtain ⟨x0, x1, x2, x3, x4⟩ := resbox (B := w.heap.size + 1) (by omega) ((HB1'.out.alloc (by omega) _).trans (hb2.mono (by simp; omega))); clear hv2 hb2))
      refine bodyPost_ret (v := .tuple #[.agg #[.slice va2 n vc2, .slice qa m qcap], .int .i64 0]) (by simp [results, Tryd.results25, go_sem, x0, x1]) rfl ⟨.slice va2 n vc2, .slice qa m qcap, by first | rfl | rw [HM.out], ?_, ?_, (HB2.out.setCell (by simp) _).setCell (by simp) _⟩
      · first | (exact ((HV2.out.setCell (by simp) _).setCell (by simp) _).weaken (Nat.le_succ _)) | (rw [HM.out]; exact ((HV2.out.setCell (by simp) _).setCell (by simp) _).weaken (Nat.le_succ _))
      · first | (rfl) | (rw [HM.out]; rfl)
  · have HM : Hid (madeF C n m = colsF C n) := madeF_cols h0
    have HNZ : Hid (¬ colsF C n = 0) := h0
    have h1 : (colsF C n == 0) = false := by simpa using h0
    have h2 : (colsF C n != 0) = true := by simpa using h0
    clear h0
    generalize colsF C n = F at *
    go_enter Tryd.func25, Tryd.ntmps25
    go_wp2_with (first | (go_at_call 39; refine (HCF.out _).mono ?_; rintro e w1 ⟨rfl, hb1⟩; have HB1 : Hid (Below w.heap.size w w1) := ((Below.refl _ _).alloc (Nat.le_refl _) _).trans (hb1.mono (by simp)); obtain ⟨x0, x1, x2, x3, x4⟩ := resbox (by simp) hb1; clear hb1))
    refine bodyPost_ret (v := .tuple #[.agg #[.slice none 0 0, .slice none 0 0], .int .i64 F]) (by simp [results, Tryd.results25, go_sem, x0, x1]) rfl ⟨.slice none 0 0, .slice none 0 0, by first | rfl | rw [HM.out], ?_, ?_, (HB1.out.setCell (by simp) _).setCell (by simp) _⟩
    · first | (rw [okN, if_neg HNZ.out]; exact nil_from _ _ _) | (rw [HM.out, okN, if_neg HNZ.out]; exact nil_from _ _ _)
    · rw [HM.out, keptV, if_neg HNZ.out]

/-- what is said of two relations -/
def twoF (F G : Int) : Int := if F = 0 then G else F
end Go.Proofs.YtlblomlblibbdaaDoor
