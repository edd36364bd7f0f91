/-
  CONTRACTS: one list copied; a relation of columns and rows (relOf); two relations checked (checkBoth, twoFault).
-/
import Derived.Test.YtmoeipdchapodaaGreatDoorRlLists
set_option linter.unusedVariables false
namespace Go.Proofs.YtmoeipdchapodaaGreatDoor
set_option maxRecDepth 100000
open Go.RowKit Go.WideShapes

theorem one_at {w : World} {b off : Nat} {u : Value} (h : w.cell? ⟨b, off, none⟩ = some u) : ∀ i, i < 1 → w.cell? ⟨b, off + i, none⟩ = some u := by
  intro i hi
  obtain rfl : i = 0 := by omega
  exact h
theorem oneI {w : World} {base : Nat} {v : Value} {R : Nat → Row} (h : w.ownsRow base 24 3 v (catI R 1).len (itCells (catI R 1).at_ (catI R 1).len)) : w.ownsRow base 24 3 v (R 0).len (itCells (R 0).at_ (R 0).len) := by
  have e : itCells (catI R 1).at_ (catI R 1).len = itCells (R 0).at_ (R 0).len := (cells_appI (catI R 0) (R 0)).trans (List.nil_append _)
  rw [e, show (catI R 1).len = (R 0).len from Nat.zero_add _] at h
  exact h
theorem oneS {w : World} {base : Nat} {v : Value} {R : Nat → Txts} (h : w.ownsRow base 9 1 v (catS R 1).len (strCells (catS R 1).at_ (catS R 1).len)) : w.ownsRow base 9 1 v (R 0).len (strCells (R 0).at_ (R 0).len) := by
  have e : strCells (catS R 1).at_ (catS R 1).len = strCells (R 0).at_ (R 0).len := (cells_appS (catS R 0) (R 0)).trans (List.nil_append _)
  rw [e, show (catS R 1).len = (R 0).len from Nat.zero_add _] at h
  exact h
theorem concatI_one (b off cap : Nat) (u : Value) (n : Nat) (X : Nat → It) (w : World) (h1 : 1 ≤ cap) (hc : cap ≤ maxLen) (hb : b < w.heap.size) (hcell : w.cell? ⟨b, off, none⟩ = some u) (hu : ItsIs w u n X) (hn : n * 32 ≤ 140737488351232) :
    Calls Tryz.prog 121 #[.slice (some ⟨b, off, none⟩) 1 cap] w fun e w' => ∃ v, e = .returned v ∧ ItsApart w' w.heap.size none v n X ∧ (∃ a' c', v = .slice a' n c') ∧ Below w.heap.size w w' := by
  refine (concatI_some b off 1 cap (fun _ => ⟨n, X⟩) w h1 hc hb (fun i hi => ⟨u, one_at hcell i hi, hu⟩) (by show (0 + n) * 32 ≤ _; omega)).mono ?_
  rintro e w' ⟨v, rfl, hv, hbel⟩
  have hv' := oneI hv
  exact ⟨v, rfl, its_new hv' (fun k hk => nomatch hk), own_shape hv', hbel⟩
theorem concatS_one (b off cap : Nat) (u : Value) (n : Nat) (C : Nat → ByteArray) (w : World) (h1 : 1 ≤ cap) (hc : cap ≤ maxLen) (hb : b < w.heap.size) (hcell : w.cell? ⟨b, off, none⟩ = some u) (hu : StrsIs w u n C) (hn : n * 16 ≤ 140737488351232) :
    Calls Tryz.prog 111 #[.slice (some ⟨b, off, none⟩) 1 cap] w fun e w' => ∃ v, e = .returned v ∧ StrsFrom w' w.heap.size v n C ∧ (∃ a' c', v = .slice a' n c') ∧ Below w.heap.size w w' := by
  refine (concatS_some b off 1 cap (fun _ => ⟨n, C⟩) w h1 hc hb (fun i hi => ⟨u, one_at hcell i hi, hu⟩) (by show (0 + n) * 16 ≤ _; omega)).mono ?_
  rintro e w' ⟨v, rfl, hv, hbel⟩
  have hv' := oneS hv
  exact ⟨v, rfl, strs_from hv', own_shape hv', hbel⟩
/-- a relation's place was made for the result -/
theorem resbox {w wr : World} {x y : Value} {T : TypeId} {B : Nat} (hB : w.heap.size < B) (h : Below B (w.alloc (.cells #[x, y] T)) wr) :
    wr.cell? ⟨w.heap.size, 0, none⟩ = some x ∧ wr.cell? ⟨w.heap.size, 1, none⟩ = some y ∧ wr.frozen? ⟨w.heap.size, 0, none⟩ = false ∧ wr.frozen? ⟨w.heap.size, 1, none⟩ = false ∧ w.heap.size < wr.heap.size := by
  have hs := h.size
  simp at hs
  refine ⟨(h.cell (p := ⟨w.heap.size, 0, none⟩) hB).trans ?_, (h.cell (p := ⟨w.heap.size, 1, none⟩) hB).trans ?_, (h.frozen (p := ⟨w.heap.size, 0, none⟩) hB).trans ?_, (h.frozen (p := ⟨w.heap.size, 1, none⟩) hB).trans ?_, by omega⟩ <;> simp
theorem nil_from (w : World) (base : Nat) (C : Nat → ByteArray) : StrsFrom w base (.slice none 0 0) 0 C := ⟨none, 0, rfl, Nat.le_refl _, Nat.zero_le _, fun _ => rfl, fun h => absurd h (Nat.lt_irrefl _)⟩
theorem StrsFrom.weaken {w : World} {base base' : Nat} {v : Value} {n : Nat} {C : Nat → ByteArray} (h : StrsFrom w base v n C) (hb : base' ≤ base) : StrsFrom w base' v n C := by
  obtain ⟨a, cap, h1, h2, h3, hn, h4⟩ := h
  refine ⟨a, cap, h1, h2, h3, hn, fun h0 => ?_⟩
  obtain ⟨b, off, h5, h6, h7, h8⟩ := h4 h0
  exact ⟨b, off, h5, h6, by omega, h8⟩
theorem nil_strs (w : World) (C : Nat → ByteArray) : StrsIs w (.slice none 0 0) 0 C := ⟨none, 0, rfl, Nat.le_refl _, Nat.zero_le _, fun _ => rfl, fun h => absurd h (Nat.lt_irrefl _)⟩
theorem nil_rows (w : World) (R : Nat → Row) : RowsIs w (.slice none 0 0) 0 R := ⟨none, 0, rfl, Nat.le_refl _, Nat.zero_le _, fun _ => rfl, fun h => absurd h (Nat.lt_irrefl _)⟩
/-- what is kept if all is well -/
def keptV (F : Int) (q : Value) : Value := if F = 0 then q else .slice none 0 0
/-- how many there are if all is well -/
def okN (F : Int) (n : Nat) : Nat := if F = 0 then n else 0

/-- what is said of two relations -/
def twoF (F G : Int) : Int := if F = 0 then G else F
set_option maxHeartbeats 1600000 in
theorem checkBoth_is (c q c' q' : Value) (n m n' m' : Nat) (C C' : Nat → ByteArray) (R R' : Nat → Row) (w : World) (hc : StrsIs w c n C) (hq : RowsIs w q m R) (hf : StrsFine n C) (hg : RowsFine m R) (hc' : StrsIs w c' n' C') (hq' : RowsIs w q' m' R') (hf' : StrsFine n' C') (hg' : RowsFine m' R') (hT : Tabs w) :
    Calls Tryz.prog 160 #[.agg #[c, q], .agg #[c', q']] w fun e w' => e = .returned (.int .i64 (twoF (relF C n R m) (relF C' n' R' m'))) ∧ Below w.heap.size w w' := by
  have C1 : Hid (∀ W, Below w.heap.size w W → Calls Tryz.prog 107 #[.agg #[c, q]] W fun e w' => e = .returned (.int .i64 (relF C n R m)) ∧ Below W.heap.size W w') := fun W hW => relCheck_is c q n m C R W (hc.below hW) (hq.below hW) hf hg (Utf8Tabs_below hT hW)
  have C2 : Hid (∀ W, Below w.heap.size w W → Calls Tryz.prog 107 #[.agg #[c', q']] W fun e w' => e = .returned (.int .i64 (relF C' n' R' m')) ∧ Below W.heap.size W w') := fun W hW => relCheck_is c' q' n' m' C' R' W (hc'.below hW) (hq'.below hW) hf' hg' (Utf8Tabs_below hT hW)
  obtain ⟨ca, ccap, rfl, _⟩ := hc
  obtain ⟨qa, qcap, rfl, _⟩ := hq
  obtain ⟨ca', ccap', rfl, _⟩ := hc'
  obtain ⟨qa', qcap', rfl, _⟩ := hq'
  clear hT hf hg hf' hg'
  have HW : Hid (twoF (relF C n R m) (relF C' n' R' m') = if relF C n R m = 0 then relF C' n' R' m' else relF C n R m) := rfl
  generalize twoF (relF C n R m) (relF C' n' R' m') = T at *
  generalize relF C n R m = F at *
  generalize relF C' n' R' m' = G at *
  by_cases h0 : F = 0
  · subst h0
    have HT : Hid (T = G) := HW.out.trans (if_pos rfl)
    clear HW
    go_enter Tryz.func160, Tryz.ntmps160
    go_wp2_with (first | (go_at_call 107; refine (C1.out _ (below_two _ _)).mono ?_; rintro e w1 ⟨rfl, hb1⟩; have HB1 : Hid (Below w.heap.size w w1) := (below_two _ _).trans (hb1.mono (by simp; omega)); obtain ⟨x0, x1, x2, x3, x4⟩ := box22 hb1; clear hb1 C1) |
      (go_at_call 107; refine (C2.out _ HB1.out).mono ?_; rintro e w2 ⟨rfl, hb2⟩))
    go_ret
    exact ⟨ret_int HT.out.symm, HB1.out.trans (hb2.mono HB1.out.size)⟩
  · have HT : Hid (T = F) := HW.out.trans (if_neg h0)
    have h1 : (F != 0) = true := by simpa using h0
    clear HW h0
    go_enter Tryz.func160, Tryz.ntmps160
    go_wp2_with (first | (go_at_call 107; refine (C1.out _ (below_two _ _)).mono ?_; rintro e w1 ⟨rfl, hb1⟩; have HB1 : Hid (Below w.heap.size w w1) := (below_two _ _).trans (hb1.mono (by simp; omega)); clear hb1 C1))
    go_ret
    exact ⟨ret_int HT.out.symm, HB1.out⟩
end Go.Proofs.YtmoeipdchapodaaGreatDoor
