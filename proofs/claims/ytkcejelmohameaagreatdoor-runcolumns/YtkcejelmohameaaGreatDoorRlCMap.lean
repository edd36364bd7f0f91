/-
  A MAP of items to how many there were.
-/
import Derived.Test.YtkcejelmohameaaGreatDoorRlCat
import Derived.Test.YtkcejelmohameaaGreatDoorRlSameI
import Derived.Deep.RegionWith
import Derived.Laws.MakeOwn
import Derived.Deep.RegionLaw
import Derived.Maps.OwnSet
import Derived.DeepKeys5
import Derived.Deep.RegionHeld3
import Derived.Sort.AtCall
import Derived.Deep.QuietTactic
import Derived.BigQuiet
set_option linter.unusedVariables false
namespace Go.Proofs.YtkcejelmohameaaGreatDoor
set_option maxRecDepth 100000
open Go.RowKit Go.WideShapes

def elemS (x : ByteArray) : List Value := [.string x]
theorem strCells_succ (X : Nat → ByteArray) (n : Nat) : strCells X (n + 1) = strCells X n ++ elemS (X n) := by
  unfold strCells elemS
  simp [List.range_succ]
theorem elemS_in {w : World} (x : ByteArray) : ∀ j u, (elemS x)[j]? = some u → (w.alloc (.cells #[.string x] 9)).cell? ((⟨w.heap.size, 0, none⟩ : Addr).add j) = some u := by
  intro j u hj
  have hj3 : j < 1 := (List.getElem?_eq_some_iff.1 hj).1
  match j, hj3 with
  | 0, _ => simp [elemS] at hj; subst hj; simp [Addr.add]
theorem elemS_one (x : ByteArray) : ∀ u ∈ elemS x, u.oneCell' = true := by
  intro u hu
  simp [elemS] at hu
  rw [hu]; rfl
set_option maxHeartbeats 1600000 in
theorem listsS_some (b off m cap : Nat) (R : Nat → Txts) (w : World) (hm : m ≤ cap) (hcap : cap ≤ maxLen) (hb0 : b < w.heap.size) (hR : SeqsS w b off m R) (htot : (catS R m).len * 16 ≤ 140737488351232) :
    Calls Tryz.prog 16 #[.slice (some ⟨b, off, none⟩) m cap] w fun e w' => ∃ v, e = .returned v ∧ w'.ownsRow w.heap.size 9 1 v (catS R m).len (strCells (catS R m).at_ (catS R m).len) ∧ Below w.heap.size w w' := by
  have hmm : m ≤ 9223372036854775807 := by unfold maxLen at hcap; omega
  have HR : Hid (∀ W, Below w.heap.size w W → SeqsS W b off m R) := fun W hW => hR.below (B := 0) hb0 hW
  have HMO : Hid (∀ k, k ≤ m → (catS R k).len ≤ (catS R m).len) := fun k hk => catS_mono R hk
  have HSU : Hid (∀ k, (catS R (k + 1)).len = (catS R k).len + (R k).len) := fun k => rfl
  have HCE : Hid (∀ k, strCells (catS R (k + 1)).at_ (catS R (k + 1)).len = strCells (catS R k).at_ (catS R k).len ++ strCells (R k).at_ (R k).len) := fun k => cells_appS (catS R k) (R k)
  obtain ⟨i0, hi0, hz0, hz1, hz2⟩ := info_parts infoStr
  clear hR hcap
  go_enter Tryz.func16, Tryz.ntmps16
  go_wp2
  go_loopw [3, 4] (fun v i wr => ∃ k : Nat, k ≤ m ∧ i = .int .i64 k ∧ wr.ownsRow w.heap.size 9 1 v (catS R k).len (strCells (catS R k).at_ (catS R k).len) ∧ Below w.heap.size w wr) (fun _ i _ => m - (intOf i).toNat)
  case atStart => exact ⟨0, Nat.zero_le _, rfl, World.ownsRow_nil _ _ _ _, Below.refl _ _⟩
  case round =>
    obtain ⟨k, hk, rfl, hv, hbr⟩ := hrel
    obtain ⟨va, vc, rfl⟩ := own_shape hv
    have HV : Hid (wr.ownsRow w.heap.size 9 1 (.slice va (catS R k).len vc) (catS R k).len (strCells (catS R k).at_ (catS R k).len)) := hv
    have HBR : Hid (Below w.heap.size w wr) := hbr
    clear hv hbr
    by_cases hlt : k < m
    · have hki : (k : Int) < (m : Int) := by omega
      have h1 := HMO.out (k + 1) (by omega)
      have hs := HSU.out k
      have hsum : (catS R k).len + (R k).len ≤ (catS R m).len := by omega
      have HS : Hid ((catS R (k + 1)).len = (catS R k).len + (R k).len) := hs
      clear h1 hs
      go_wp2
      go_loopw [3, 5] (fun v i wr => ∃ q : Nat, q ≤ (R k).len ∧ i = .int .i64 q ∧ wr.ownsRow w.heap.size 9 1 v ((catS R k).len + q) (strCells (catS R k).at_ (catS R k).len ++ strCells (R k).at_ q) ∧ Below w.heap.size w wr) (fun _ i _ => (R k).len - (intOf i).toNat)
      case atStart => exact ⟨0, Nat.zero_le _, rfl, by rw [show strCells (R k).at_ 0 = [] from rfl, List.append_nil]; exact HV.out, HBR.out⟩
      case round =>
        obtain ⟨q, hq, rfl, hv, hbr⟩ := hrel
        obtain ⟨va2, vc2, rfl⟩ := own_shape hv
        have HV2 : Hid (wr.ownsRow w.heap.size 9 1 (.slice va2 ((catS R k).len + q) vc2) ((catS R k).len + q) (strCells (catS R k).at_ (catS R k).len ++ strCells (R k).at_ q)) := hv
        have HB2 : Hid (Below w.heap.size w wr) := hbr
        have hzr : w.heap.size ≤ wr.heap.size := hbr.size
        obtain ⟨u, e1, hu⟩ := HR.out wr hbr k hlt
        have hbz : b < wr.heap.size := by omega
        obtain ⟨ua, ucap, rfl, u1, u2, _, u3⟩ := hu
        have hun : (R k).len ≤ 9223372036854775807 := by unfold maxLen at u2; omega
        clear hv hbr u2
        by_cases hqk : q < (R k).len
        · obtain ⟨ub, uoff, rfl, ub1, ub2⟩ := u3 (by omega)
          have hqi : (q : Int) < ((R k).len : Int) := by omega
          have g1 := ub2 q hqk
          clear ub2 u3
          go_wp2_with (first | (at_builtin; refine wpList_append_own _ rfl (.tmp 21) (.tmp 29) 35 rfl w.heap.size 9 i0 _ 1 16 Tryz.underlying35 hi0 hz0 hz1 hz2 rfl (by decide) _ _ _ rfl (HV2.out.alloc _) ⟨wr.heap.size, 0, none⟩ 1 1 (elemS ((R k).at_ q)) rfl rfl (elemS_in ((R k).at_ q)) (elemS_one _) (by unfold maxLen; omega) (by omega) (by simp <;> omega) ?_; intro v6 w6 hown6 hgrow6 _; obtain ⟨va6, vc6, rfl⟩ := own_shape hown6; have HV6 : Hid (w6.ownsRow w.heap.size 9 1 (.slice va6 ((catS R k).len + q + 1) vc6) ((catS R k).len + q + 1) (strCells (catS R k).at_ (catS R k).len ++ strCells (R k).at_ q ++ elemS ((R k).at_ q))) := hown6; have HB6 : Hid (Below w.heap.size w w6) := (HB2.out.alloc hzr _).grown hgrow6 (by simp <;> omega) (fun z hz => (HV2.out.lt z hz).1); clear hown6 hgrow6))
          go_roundw
          case rel => exact ⟨q + 1, by omega, by go_num, by rw [strCells_succ, ← List.append_assoc, ← Nat.add_assoc]; exact HV6.out, HB6.out⟩
          case measure => simp [intOf]; omega
        · have e : q = (R k).len := by omega
          subst e
          clear u3
          go_wp2
          go_roundw
          case rel => exact ⟨k + 1, by omega, by go_num, by rw [HCE.out, HS.out]; exact HV2.out, HB2.out⟩
          case measure => simp [intOf]; omega
    · have e : k = m := by omega
      subst e
      go_wp2
      go_ret
      exact ⟨_, rfl, HV.out, HBR.out⟩
end Go.Proofs.YtkcejelmohameaaGreatDoor
set_option linter.unusedVariables false
namespace Go.Proofs.YtkcejelmohameaaGreatDoor
set_option maxRecDepth 100000
open Go.RowKit Go.WideShapes

theorem one_at {w : World} {b off : Nat} {u : Value} (h : w.cell? ⟨b, off, none⟩ = some u) : ∀ i, i < 1 → w.cell? ⟨b, off + i, none⟩ = some u := by
  intro i hi
  obtain rfl : i = 0 := by omega
  exact h
theorem oneI {w : World} {base : Nat} {v : Value} {R : Nat → Row} (h : w.ownsRow base 67 3 v (catI R 1).len (itCells (catI R 1).at_ (catI R 1).len)) : w.ownsRow base 67 3 v (R 0).len (itCells (R 0).at_ (R 0).len) := by
  have e : itCells (catI R 1).at_ (catI R 1).len = itCells (R 0).at_ (R 0).len := (cells_appI (catI R 0) (R 0)).trans (List.nil_append _)
  rw [e, show (catI R 1).len = (R 0).len from Nat.zero_add _] at h
  exact h
theorem oneS {w : World} {base : Nat} {v : Value} {R : Nat → Txts} (h : w.ownsRow base 9 1 v (catS R 1).len (strCells (catS R 1).at_ (catS R 1).len)) : w.ownsRow base 9 1 v (R 0).len (strCells (R 0).at_ (R 0).len) := by
  have e : strCells (catS R 1).at_ (catS R 1).len = strCells (R 0).at_ (R 0).len := (cells_appS (catS R 0) (R 0)).trans (List.nil_append _)
  rw [e, show (catS R 1).len = (R 0).len from Nat.zero_add _] at h
  exact h
theorem concatI_one (b off cap : Nat) (u : Value) (n : Nat) (X : Nat → It) (w : World) (h1 : 1 ≤ cap) (hc : cap ≤ maxLen) (hb : b < w.heap.size) (hcell : w.cell? ⟨b, off, none⟩ = some u) (hu : ItsIs w u n X) (hn : n * 32 ≤ 140737488351232) :
    Calls Tryz.prog 142 #[.slice (some ⟨b, off, none⟩) 1 cap] w fun e w' => ∃ v, e = .returned v ∧ ItsApart w' w.heap.size none v n X ∧ (∃ a' c', v = .slice a' n c') ∧ Below w.heap.size w w' := by
  refine (concatI_some b off 1 cap (fun _ => ⟨n, X⟩) w h1 hc hb (fun i hi => ⟨u, one_at hcell i hi, hu⟩) (by show (0 + n) * 32 ≤ _; omega)).mono ?_
  rintro e w' ⟨v, rfl, hv, hbel⟩
  have hv' := oneI hv
  exact ⟨v, rfl, its_new hv' (fun k hk => nomatch hk), own_shape hv', hbel⟩
theorem concatS_one (b off cap : Nat) (u : Value) (n : Nat) (C : Nat → ByteArray) (w : World) (h1 : 1 ≤ cap) (hc : cap ≤ maxLen) (hb : b < w.heap.size) (hcell : w.cell? ⟨b, off, none⟩ = some u) (hu : StrsIs w u n C) (hn : n * 16 ≤ 140737488351232) :
    Calls Tryz.prog 98 #[.slice (some ⟨b, off, none⟩) 1 cap] w fun e w' => ∃ v, e = .returned v ∧ StrsFrom w' w.heap.size v n C ∧ (∃ a' c', v = .slice a' n c') ∧ Below w.heap.size w w' := by
  refine (concatS_some b off 1 cap (fun _ => ⟨n, C⟩) w h1 hc hb (fun i hi => ⟨u, one_at hcell i hi, hu⟩) (by show (0 + n) * 16 ≤ _; omega)).mono ?_
  rintro e w' ⟨v, rfl, hv, hbel⟩
  have hv' := oneS hv
  exact ⟨v, rfl, strs_from hv', own_shape hv', hbel⟩
theorem texts_one (b off cap : Nat) (u : Value) (n : Nat) (C : Nat → ByteArray) (w : World) (h1 : 1 ≤ cap) (hc : cap ≤ maxLen) (hb : b < w.heap.size) (hcell : w.cell? ⟨b, off, none⟩ = some u) (hu : StrsIs w u n C) (hn : n * 16 ≤ 140737488351232) :
    Calls Tryz.prog 16 #[.slice (some ⟨b, off, none⟩) 1 cap] w fun e w' => ∃ v, e = .returned v ∧ StrsFrom w' w.heap.size v n C ∧ (∃ a' c', v = .slice a' n c') ∧ Below w.heap.size w w' := by
  refine (listsS_some b off 1 cap (fun _ => ⟨n, C⟩) w h1 hc hb (fun i hi => ⟨u, one_at hcell i hi, hu⟩) (by show (0 + n) * 16 ≤ _; omega)).mono ?_
  rintro e w' ⟨v, rfl, hv, hbel⟩
  have hv' := oneS hv
  exact ⟨v, rfl, strs_from hv', own_shape hv', hbel⟩

/-- a relation's place was made for the result -/
theorem resbox {w wr : World} {x y : Value} {T : TypeId} {B : Nat} (hB : w.heap.size < B) (h : Below B (w.alloc (.cells #[x, y] T)) wr) :
    wr.cell? ⟨w.heap.size, 0, none⟩ = some x ∧ wr.cell? ⟨w.heap.size, 1, none⟩ = some y ∧ wr.frozen? ⟨w.heap.size, 0, none⟩ = false ∧ wr.frozen? ⟨w.heap.size, 1, none⟩ = false ∧ w.heap.size < wr.heap.size := by
  have hs := h.size
  simp at hs
  refine ⟨(h.cell (p := ⟨w.heap.size, 0, none⟩) hB).trans ?_, (h.cell (p := ⟨w.heap.size, 1, none⟩) hB).trans ?_, (h.frozen (p := ⟨w.heap.size, 0, none⟩) hB).trans ?_, (h.frozen (p := ⟨w.heap.size, 1, none⟩) hB).trans ?_, by omega⟩ <;> simp
theorem StrsFrom.weaken {w : World} {base base' : Nat} {v : Value} {n : Nat} {C : Nat → ByteArray} (h : StrsFrom w base v n C) (hb : base' ≤ base) : StrsFrom w base' v n C := by
  obtain ⟨a, cap, h1, h2, h3, hn, h4⟩ := h
  refine ⟨a, cap, h1, h2, h3, hn, fun h0 => ?_⟩
  obtain ⟨b, off, h5, h6, h7, h8⟩ := h4 h0
  exact ⟨b, off, h5, h6, by omega, h8⟩
theorem nil_strs (w : World) (C : Nat → ByteArray) : StrsIs w (.slice none 0 0) 0 C := ⟨none, 0, rfl, Nat.le_refl _, Nat.zero_le _, fun _ => rfl, fun h => absurd h (Nat.lt_irrefl _)⟩
theorem nil_rows (w : World) (R : Nat → Row) : RowsIs w (.slice none 0 0) 0 R := ⟨none, 0, rfl, Nat.le_refl _, Nat.zero_le _, fun _ => rfl, fun h => absurd h (Nat.lt_irrefl _)⟩
/-- how many there are if all is well -/
def okN (F : Int) (n : Nat) : Nat := if F = 0 then n else 0

/-- what is said of two relations -/
def twoF (F G : Int) : Int := if F = 0 then G else F
set_option maxHeartbeats 1600000 in
theorem checkBoth_is (c q c' q' : Value) (n m n' m' : Nat) (C C' : Nat → ByteArray) (R R' : Nat → Row) (w : World) (hc : StrsIs w c n C) (hq : RowsIs w q m R) (hf : StrsFine n C) (hg : RowsFine m R) (hc' : StrsIs w c' n' C') (hq' : RowsIs w q' m' R') (hf' : StrsFine n' C') (hg' : RowsFine m' R') (hT : Tabs w) :
    Calls Tryz.prog 137 #[.agg #[c, q], .agg #[c', q']] w fun e w' => e = .returned (.int .i64 (twoF (relF C n R m) (relF C' n' R' m'))) ∧ Below w.heap.size w w' := by
  have C1 : Hid (∀ W, Below w.heap.size w W → Calls Tryz.prog 93 #[.agg #[c, q]] W fun e w' => e = .returned (.int .i64 (relF C n R m)) ∧ Below W.heap.size W w') := fun W hW => relCheck_is c q n m C R W (hc.below hW) (hq.below hW) hf hg (Utf8Tabs_below hT hW)
  have C2 : Hid (∀ W, Below w.heap.size w W → Calls Tryz.prog 93 #[.agg #[c', q']] W fun e w' => e = .returned (.int .i64 (relF C' n' R' m')) ∧ Below W.heap.size W w') := fun W hW => relCheck_is c' q' n' m' C' R' W (hc'.below hW) (hq'.below hW) hf' hg' (Utf8Tabs_below hT hW)
  obtain ⟨ca, ccap, rfl, _⟩ := hc
  obtain ⟨qa, qcap, rfl, _⟩ := hq
  obtain ⟨ca', ccap', rfl, _⟩ := hc'
  obtain ⟨qa', qcap', rfl, _⟩ := hq'
  clear hT hf hg hf' hg'
  have HW : Hid (twoF (relF C n R m) (relF C' n' R' m') = if relF C n R m = 0 then relF C' n' R' m' else relF C n R m) := rfl
  generalize twoF (relF C n R m) (relF C' n' R' m') = T at *
  generalize relF C n R m = F at *
  generalize relF C' n' R' m' = G at *
  by_cases h0 : F = 0
  · subst h0
    have HT : Hid (T = G) := HW.out.trans (if_pos rfl)
    clear HW
    go_enter Tryz.func137, Tryz.ntmps137
    go_wp2_with (first | (go_at_call 93; refine (C1.out _ (below_two _ _)).mono ?_; rintro e w1 ⟨rfl, hb1⟩; have HB1 : Hid (Below w.heap.size w w1) := (below_two _ _).trans (hb1.mono (by simp; omega)); obtain ⟨x0, x1, x2, x3, x4⟩ := box22 hb1; clear hb1 C1) |
      (go_at_call 93; refine (C2.out _ HB1.out).mono ?_; rintro e w2 ⟨rfl, hb2⟩))
    go_ret
    exact ⟨ret_int HT.out.symm, HB1.out.trans (hb2.mono HB1.out.size)⟩
  · have HT : Hid (T = F) := HW.out.trans (if_neg h0)
    have h1 : (F != 0) = true := by simpa using h0
    clear HW h0
    go_enter Tryz.func137, Tryz.ntmps137
    go_wp2_with (first | (go_at_call 93; refine (C1.out _ (below_two _ _)).mono ?_; rintro e w1 ⟨rfl, hb1⟩; have HB1 : Hid (Below w.heap.size w w1) := (below_two _ _).trans (hb1.mono (by simp; omega)); clear hb1 C1))
    go_ret
    exact ⟨ret_int HT.out.symm, HB1.out⟩
end Go.Proofs.YtkcejelmohameaaGreatDoor
set_option linter.unusedVariables false
namespace Go.Proofs.YtkcejelmohameaaGreatDoor
set_option maxRecDepth 100000
open Go.RowKit Go.WideShapes

theorem relF_zero {C : Nat → ByteArray} {n : Nat} {R : Nat → Row} {m : Nat} (h : relF C n R m = 0) : colsF C n = 0 ∧ m ≤ 1000000 ∧ ∀ i, i < m → rowE n R i = 0 := by
  by_cases h1 : madeF C n m = 0
  · have h2 : colsF C n = 0 := Classical.byContradiction fun h3 => by rw [madeF_cols h3] at h1; exact h3 h1
    refine ⟨h2, ?_, ?_⟩
    · rw [madeF_rows h2] at h1
      by_cases h3 : 1000000 < m
      · rw [if_pos h3] at h1; cases h1
      · omega
    · unfold relF at h
      rw [if_pos h1] at h
      exact firstE_zero h
  · rw [relF_made h1] at h
    exact absurd h h1
theorem twoF_zero {F G : Int} (h : twoF F G = 0) : F = 0 ∧ G = 0 := by
  unfold twoF at h
  by_cases h1 : F = 0
  · rw [if_pos h1] at h; exact ⟨h1, h⟩
  · rw [if_neg h1] at h; exact absurd h h1
theorem colsF_le {C : Nat → ByteArray} {n : Nat} (h : colsF C n = 0) : n ≤ 8 := by
  unfold colsF at h
  by_cases h8 : 8 < n
  · rw [if_pos h8] at h; cases h
  · omega

/-- two relations were boxed, and a place made for the result -/
theorem box3 {w wr : World} {c q c' q' x y : Value} {T : TypeId} (h : Below (w.heap.size + 3) (((w.alloc (.cells #[c, q] T)).alloc (.cells #[c', q'] T)).alloc (.cells #[x, y] T)) wr) :
    wr.cell? ⟨w.heap.size, 0, none⟩ = some c ∧ wr.cell? ⟨w.heap.size, 1, none⟩ = some q ∧ wr.cell? ⟨w.heap.size + 1, 0, none⟩ = some c' ∧ wr.cell? ⟨w.heap.size + 1, 1, none⟩ = some q' ∧
    wr.cell? ⟨w.heap.size + 1 + 1, 0, none⟩ = some x ∧ wr.cell? ⟨w.heap.size + 1 + 1, 1, none⟩ = some y ∧ wr.frozen? ⟨w.heap.size + 1 + 1, 0, none⟩ = false ∧ wr.frozen? ⟨w.heap.size + 1 + 1, 1, none⟩ = false ∧ w.heap.size + 1 + 1 < wr.heap.size := by
  have hz : ((w.alloc (.cells #[c, q] T)).alloc (.cells #[c', q'] T)).heap.size = w.heap.size + 1 + 1 := by simp
  have h2 : Below ((w.alloc (.cells #[c, q] T)).alloc (.cells #[c', q'] T)).heap.size ((w.alloc (.cells #[c, q] T)).alloc (.cells #[c', q'] T)) wr := ((Below.refl _ _).alloc (Nat.le_refl _) _).trans (h.mono (by rw [hz]; omega))
  obtain ⟨x0, x1, x2, x3, x4⟩ := box22 h2
  have h3 := resbox (w := (w.alloc (.cells #[c, q] T)).alloc (.cells #[c', q'] T)) (B := w.heap.size + 3) (by rw [hz]; omega) h
  rw [hz] at h3
  exact ⟨x0, x1, x2, x3, h3⟩
theorem below_three {w : World} (o o' o'' : Obj) : Below w.heap.size w (((w.alloc o).alloc o').alloc o'') := (below_two o o').alloc (by simp; omega) _
theorem size_three {w : World} (o o' o'' : Obj) : (((w.alloc o).alloc o').alloc o'').heap.size = w.heap.size + 3 := by simp

/-- a relation that lies wholly behind w: nothing ahead of it can turn it -/
def FreshRel (w w' : World) (c q : Value) (n m : Nat) (C : Nat → ByteArray) (R : Nat → Row) : Prop :=
  ∀ W', w'.heap.size ≤ W'.heap.size → (∀ b, w.heap.size ≤ b → b < w'.heap.size → W'.heap[b]? = w'.heap[b]?) → StrsIs W' c n C ∧ RowsIs W' q m R
theorem FreshRel.nil (w w' : World) (C : Nat → ByteArray) (R : Nat → Row) : FreshRel w w' (.slice none 0 0) (.slice none 0 0) 0 0 C R := fun W _ _ => ⟨nil_strs W C, nil_rows W R⟩
theorem FreshRel.of {w w' : World} {B T : Nat} {g : Option Nat} {c q : Value} {n m : Nat} {C : Nat → ByteArray} {R : Nat → Row} (hk : StrsKept w' B T g c n C) (hr : RowsTwo w' B T q m R) (hB : w.heap.size ≤ B) (hBT : B ≤ T) : FreshRel w w' c q n m C R := fun W hs hb =>
  ⟨(hk.keep (w' := W) (g' := g) hs (fun b h1 _ h3 h4 => ⟨hb b (by omega) h3, h4⟩)).is, (hr.keep (w' := W) hs (fun b _ h2 h3 => hb b (by omega) h3) hBT).is⟩
/-- a relation was boxed, and a place made for the result -/
theorem box2r {w wr : World} {c q x y : Value} {T : TypeId} (h : Below (w.heap.size + 2) ((w.alloc (.cells #[c, q] T)).alloc (.cells #[x, y] T)) wr) :
    wr.cell? ⟨w.heap.size, 0, none⟩ = some c ∧ wr.cell? ⟨w.heap.size, 1, none⟩ = some q ∧ wr.cell? ⟨w.heap.size + 1, 0, none⟩ = some x ∧ wr.cell? ⟨w.heap.size + 1, 1, none⟩ = some y ∧ wr.frozen? ⟨w.heap.size + 1, 0, none⟩ = false ∧ wr.frozen? ⟨w.heap.size + 1, 1, none⟩ = false ∧ w.heap.size + 1 < wr.heap.size := by
  have hz : (w.alloc (.cells #[c, q] T)).heap.size = w.heap.size + 1 := by simp
  have h2 : Below (w.heap.size + 1) (w.alloc (.cells #[c, q] T)) wr := ((Below.refl _ _).alloc (by rw [hz]; omega) _).trans (h.mono (by omega))
  obtain ⟨x0, x1, _, _, _⟩ := resbox (Nat.lt_succ_self _) h2
  have h3 := resbox (w := w.alloc (.cells #[c, q] T)) (B := w.heap.size + 2) (by rw [hz]; omega) h
  rw [hz] at h3
  exact ⟨x0, x1, h3⟩
end Go.Proofs.YtkcejelmohameaaGreatDoor
set_option linter.unusedVariables false
namespace Go.Proofs.YtkcejelmohameaaGreatDoor
set_option maxRecDepth 100000
open Go.RowKit Go.WideShapes

/-- the same columns? -/
def colsB (C C' : Nat → ByteArray) (n n' : Nat) : Bool := decide (n = n') && (List.range n).all fun i => (C i).toList == (C' i).toList
theorem colsB_len {C C' : Nat → ByteArray} {n n' : Nat} (h : n ≠ n') : colsB C C' n n' = false := by unfold colsB; rw [decide_eq_false h]; rfl
theorem colsB_no {C C' : Nat → ByteArray} {n k : Nat} (hk : k < n) (h : ((C k).toList == (C' k).toList) = false) : colsB C C' n n = false := by
  unfold colsB
  rw [Bool.and_eq_false_iff]
  right
  rw [List.all_eq_false]
  exact ⟨k, List.mem_range.2 hk, by simp [h]⟩
theorem colsB_yes {C C' : Nat → ByteArray} {n : Nat} (h : ∀ k, k < n → ((C k).toList == (C' k).toList) = true) : colsB C C' n n = true := by
  unfold colsB
  rw [decide_eq_true rfl, Bool.true_and, List.all_eq_true]
  exact fun k hk => h k (List.mem_range.1 hk)
/-- what is said of a union -/
def unF (C : Nat → ByteArray) (n : Nat) (R : Nat → Row) (m : Nat) (C' : Nat → ByteArray) (n' : Nat) (R' : Nat → Row) (m' : Nat) : Int :=
  if twoF (relF C n R m) (relF C' n' R' m') = 0 then (if colsB C C' n n' = true then madeF C n (m + m') else 9) else twoF (relF C n R m) (relF C' n' R' m')
/-- its rows -/
def unR (R R' : Nat → Row) (m i : Nat) : Row := if i < m then R i else R' (i - m)
end Go.Proofs.YtkcejelmohameaaGreatDoor
set_option linter.unusedVariables false
namespace Go.Proofs.YtkcejelmohameaaGreatDoor
set_option maxRecDepth 100000
open Go.RowKit

/-- the place of a column, or -1 -/
def colI (C : Nat → ByteArray) (n : Nat) (s : ByteArray) : Int := Lib.idxOfS ((List.range n).map C) s
theorem colI_hit {C : Nat → ByteArray} {n k : Nat} {s : ByteArray} (hk : k < n) (h : ((C k).toList == s.toList) = true) (h0 : ∀ j, j < k → ((C j).toList == s.toList) = false) : colI C n s = k := by
  have := Lib.idxOfS_hit ((List.range n).map C) n k s hk (by simp) (by simp [List.getD, hk]; exact (Lib.bytes_beq_iff _ _).1 h) (fun j hj e => by
    have e' : C j = s := by simpa [List.getD, show j < n by omega] using e
    have := h0 j hj
    rw [(Lib.bytes_beq_iff _ _).2 e'] at this
    exact absurd this (by decide))
  rwa [List.take_of_length_le (by simp)] at this
theorem colI_miss {C : Nat → ByteArray} {n : Nat} {s : ByteArray} (h0 : ∀ j, j < n → ((C j).toList == s.toList) = false) : colI C n s = -1 := by
  have := Lib.idxOfS_miss ((List.range n).map C) n s (fun j hj e => by
    have e' : C j = s := by simpa [List.getD, hj] using e
    have := h0 j hj
    rw [(Lib.bytes_beq_iff _ _).2 e'] at this
    exact absurd this (by decide))
  rwa [List.take_of_length_le (by simp)] at this
theorem colI_cases (C : Nat → ByteArray) (n : Nat) (s : ByteArray) : colI C n s = -1 ∨ ∃ k, k < n ∧ colI C n s = (k : Int) := by
  by_cases h : ∃ k, k < n ∧ ((C k).toList == s.toList) = true ∧ ∀ j, j < k → ((C j).toList == s.toList) = false
  · obtain ⟨k, h1, h2, h3⟩ := h
    exact .inr ⟨k, h1, colI_hit h1 h2 h3⟩
  · refine .inl (colI_miss ?_)
    intro j
    induction j using Nat.strongRecOn with
    | _ j ih =>
      intro hj
      cases e : ((C j).toList == s.toList)
      · rfl
      · exact absurd ⟨j, hj, e, fun i hi => ih i hi (by omega)⟩ h
/-- what is told of a column -/
def colF (C : Nat → ByteArray) (n : Nat) (s : ByteArray) : Int := if colI C n s < 0 then 9 else 0
def colV (C : Nat → ByteArray) (n : Nat) (s : ByteArray) : Int := if colI C n s < 0 then 0 else colI C n s
theorem index_is (v : Value) (n : Nat) (C : Nat → ByteArray) (s : ByteArray) (w : World) (hv : StrsIs w v n C) :
    Calls Tryz.prog 71 #[v, .string s] w fun e w' => e = .returned (.int .i64 (colI C n s)) ∧ w' = w := by
  obtain ⟨a, cap, rfl, h1, h2, _, h3⟩ := hv
  rcases Nat.eq_zero_or_pos n with hz | hz
  · subst hz
    exact Tryz.slices_Index_string_empty a cap s w
  · obtain ⟨b, off, rfl, _, h5⟩ := h3 hz
    have := Tryz.slices_Index_string b off n cap ((List.range n).map C) s w (by simp) (by unfold maxLen at h2; omega) (strs_list h5)
    rwa [List.take_of_length_le (by simp)] at this
set_option maxHeartbeats 400000 in
theorem column_is (v : Value) (n : Nat) (C : Nat → ByteArray) (s : ByteArray) (w : World) (hv : StrsIs w v n C) :
    Calls Tryz.prog 122 #[v, .string s] w fun e w' => e = .returned (.tuple #[.int .i64 (colV C n s), .int .i64 (colF C n s)]) ∧ w' = w := by
  have CI : Hid (Calls Tryz.prog 71 #[v, .string s] w fun e w' => e = .returned (.int .i64 (colI C n s)) ∧ w' = w) := index_is v n C s w hv
  obtain ⟨a, cap, rfl, _⟩ := hv
  rcases colI_cases C n s with h | ⟨k, hk, h⟩
  · have HF : Hid (colF C n s = 9 ∧ colV C n s = 0) := by
      have e : colF C n s = 9 ∧ colV C n s = 0 := by unfold colF colV; rw [h]; exact ⟨rfl, rfl⟩
      exact e
    rw [h] at CI
    clear h
    go_enter Tryz.func122, Tryz.ntmps122
    go_wp2_with (first | (go_at_call 71; refine CI.out.mono ?_; rintro e w1 ⟨rfl, rfl⟩))
    exact bodyPost_ret (v := .tuple #[.int .i64 0, .int .i64 9]) (by simp [results, Tryz.results122, go_sem]) rfl ⟨by rw [HF.out.1, HF.out.2], rfl⟩
  · have HF : Hid (colF C n s = 0 ∧ colV C n s = (k : Int)) := by
      have e : colF C n s = 0 ∧ colV C n s = (k : Int) := by unfold colF colV; rw [h, if_neg (by omega), if_neg (by omega)]; exact ⟨rfl, rfl⟩
      exact e
    have hk0 : ¬ ((k : Int) < 0) := by omega
    rw [h] at CI
    clear h hk
    go_enter Tryz.func122, Tryz.ntmps122
    go_wp2_with (first | (go_at_call 71; refine CI.out.mono ?_; rintro e w1 ⟨rfl, rfl⟩))
    exact bodyPost_ret (v := .tuple #[.int .i64 k, .int .i64 0]) (by simp [results, Tryz.results122, go_sem]) rfl ⟨by rw [HF.out.1, HF.out.2], rfl⟩
end Go.Proofs.YtkcejelmohameaaGreatDoor
set_option linter.unusedVariables false
namespace Go.Proofs.YtkcejelmohameaaGreatDoor
set_option maxRecDepth 100000
open Go.RowKit Go.WideShapes

/-- are all of them columns? -/
def foundB (C : Nat → ByteArray) (n : Nat) (O : Nat → ByteArray) (k : Nat) : Bool := (List.range k).all fun i => decide (0 ≤ colI C n (O i))
/-- where they are -/
def prP (C : Nat → ByteArray) (n : Nat) (O : Nat → ByteArray) (i : Nat) : Nat := (colI C n (O i)).toNat
theorem found_at {C : Nat → ByteArray} {n : Nat} {O : Nat → ByteArray} {i : Nat} (h : ¬ colI C n (O i) = -1) : colI C n (O i) = (prP C n O i : Int) ∧ prP C n O i < n := by
  rcases colI_cases C n (O i) with h1 | ⟨k, hk, h1⟩
  · exact absurd h1 h
  · unfold prP; rw [h1]; exact ⟨by simp, by simpa using hk⟩
theorem found_yes {C : Nat → ByteArray} {n : Nat} {O : Nat → ByteArray} {k : Nat} (h : foundB C n O k = true) : ∀ i, i < k → colI C n (O i) = (prP C n O i : Int) ∧ prP C n O i < n := by
  intro i hi
  unfold foundB at h
  rw [List.all_eq_true] at h
  have h1 := of_decide_eq_true (h i (List.mem_range.2 hi))
  exact found_at (fun e => by omega)
theorem found_no {C : Nat → ByteArray} {n : Nat} {O : Nat → ByteArray} {k : Nat} (h : foundB C n O k = false) : ∃ t, t < k ∧ colI C n (O t) = -1 ∧ ∀ i, i < t → colI C n (O i) = (prP C n O i : Int) := by
  by_cases hx : ∃ t, t < k ∧ colI C n (O t) = -1 ∧ ∀ i, i < t → ¬ colI C n (O i) = -1
  · obtain ⟨t, h1, h2, h3⟩ := hx
    exact ⟨t, h1, h2, fun i hi => (found_at (h3 i hi)).1⟩
  · exfalso
    have hall : ∀ i, i < k → ¬ colI C n (O i) = -1 := by
      intro i
      induction i using Nat.strongRecOn with
      | _ i ih => exact fun hi e => hx ⟨i, hi, e, fun j hj => ih j hj (by omega)⟩
    have : foundB C n O k = true := by
      unfold foundB
      rw [List.all_eq_true]
      intro i hi
      have := found_at (hall i (List.mem_range.1 hi))
      exact decide_eq_true (by omega)
    rw [h] at this
    exact absurd this (by decide)
theorem colF_of {C : Nat → ByteArray} {n : Nat} {s : ByteArray} {p : Nat} (h : colI C n s = (p : Int)) : colF C n s = 0 ∧ colV C n s = (p : Int) := by
  unfold colF colV; rw [h, if_neg (by omega), if_neg (by omega)]; exact ⟨rfl, rfl⟩
theorem colF_no {C : Nat → ByteArray} {n : Nat} {s : ByteArray} (h : colI C n s = -1) : colF C n s = 9 ∧ colV C n s = 0 := by
  unfold colF colV; rw [h]; exact ⟨rfl, rfl⟩
theorem found_all {C : Nat → ByteArray} {n : Nat} {O : Nat → ByteArray} {k : Nat} (h : ∀ i, i < k → ¬ colI C n (O i) = -1) : foundB C n O k = true := by
  cases e : foundB C n O k
  · obtain ⟨t, h1, h2, _⟩ := found_no e
    exact absurd h2 (h t h1)
  · rfl
theorem made_le {D : Nat → ByteArray} {k m : Nat} (h : madeF D k m = 0) : k ≤ 8 := by
  by_cases e : colsF D k = 0
  · exact colsF_le e
  · rw [madeF_err rfl e] at h; exact absurd h e
end Go.Proofs.YtkcejelmohameaaGreatDoor
set_option linter.unusedVariables false
namespace Go.Proofs.YtkcejelmohameaaGreatDoor
set_option maxRecDepth 100000
open Go.RowKit Go.WideShapes

theorem below_mid {B : Nat} {a b c : World} (k : Below b.heap.size b c) (h : Below B a b) (hB : B ≤ b.heap.size) : Below B a c := h.trans (k.mono hB)
theorem rows_less {w : World} {base base' : Nat} {v : Value} {R : Nat → Row} (h : RowsOwn w base v 0 R) (hb : base' ≤ base) : RowsOwn w base' v 0 R := by
  obtain ⟨us, h1, _⟩ := h
  refine ⟨us, ⟨h1.1, ?_⟩, fun i hi => by omega⟩
  rcases h1.2 with h2 | ⟨g, cap, cur, q0, q1, q2⟩
  · exact .inl h2
  · exact .inr ⟨g, cap, cur, q0, by omega, q2⟩
theorem make_rows (r : Nat) (hr : r ≤ 4000000) : ∃ Z : Array Value, Z.size = r * 1 ∧ ∀ W : World, (Instr.makeSlice 38 (.int .i64 0) (.int .i64 (r : Int))).run Tryz.prog W = .ok (.slice (some ⟨W.heap.size, 0, none⟩) 0 r) (W.alloc (.cells Z 94)) := by
  obtain ⟨i0, hi0, hz0, hz1, hz2⟩ := info_parts infoItems
  refine ⟨madeCells (Value.cells (.slice none 0 0)) (r * i0.size), ?_, fun W => ?_⟩
  · rw [size_madeCells, hz1]
  · have h := run_make (P := Tryz.prog) W 38 94 i0 _ Tryz.underlying38 hi0 hz0 .i64 .i64 0 r (Int.le_refl _) (by omega) (by rw [hz2]; omega) (by omega)
    simp only [Int.toNat_zero, Int.toNat_natCast] at h
    exact h
theorem made_own {W : World} {r : Nat} {Z : Array Value} {base : Nat} (R : Nat → Row) (hz : Z.size = r * 1) (hr : r ≤ 4000000) (hb : base ≤ W.heap.size) : RowsOwn (W.alloc (.cells Z 94)) base (.slice (some ⟨W.heap.size, 0, none⟩) 0 r) 0 R :=
  ⟨[], World.ownsRow_made W Z r hb (by unfold maxLen; omega) hz, fun i hi => by omega⟩

set_option maxHeartbeats 1600000 in
theorem withRoom_one (r b off cap : Nat) (u : Value) (n : Nat) (C : Nat → ByteArray) (w : World) (hr : r ≤ 4000000) (h1 : 1 ≤ cap) (hc : cap ≤ maxLen) (hb : b < w.heap.size) (hcell : w.cell? ⟨b, off, none⟩ = some u) (hu : StrsIs w u n C) (hn : n * 16 ≤ 140737488351232) (R : Nat → Row) :
    Calls Tryz.prog 133 #[.int .i64 r, .slice (some ⟨b, off, none⟩) 1 cap] w fun e w' => ∃ c' q', e = .returned (.agg #[c', q']) ∧ StrsKept w' w.heap.size w'.heap.size q'.ownBlock c' n C ∧ RowsOwn w' w.heap.size q' 0 R ∧ (∃ a1 k1, c' = .slice a1 n k1) ∧ (∃ a2 k2, q' = .slice a2 0 k2) ∧ Below w.heap.size w w' := by
  have CC : Hid (∀ W, Below w.heap.size w W → Calls Tryz.prog 98 #[.slice (some ⟨b, off, none⟩) 1 cap] W fun e w' => ∃ v, e = .returned v ∧ StrsFrom w' W.heap.size v n C ∧ (∃ a' c', v = .slice a' n c') ∧ Below W.heap.size W w') := fun W hW => concatS_one b off cap u n C W h1 hc (Nat.lt_of_lt_of_le hb hW.size) ((hW.cell (p := ⟨b, off, none⟩) hb).trans hcell) (hu.below hW) hn
  obtain ⟨Z, hZ, hmk⟩ := make_rows r hr
  clear hu hcell hc
  go_enter Tryz.func133, Tryz.ntmps133
  go_upto_region 1 with fail
  go_region_with (go_at_call 98; refine (CC.out _ ?_).mono ?_; (first | exact (((Below.refl _ _).alloc (Nat.le_refl _) _).drew) | exact ((((Below.refl _ _).alloc (Nat.le_refl _) _).drew).alloc (by simp) _)); rintro e w5 ⟨v5, rfl, hv5, hsh5, hb5⟩; obtain ⟨va5, vc5, rfl⟩ := hsh5; have HV5 : Hid (StrsFrom w5 _ (.slice va5 n vc5) n C) := hv5; have HB5 : Hid (Below _ _ w5) := hb5; have hbx : Below (w.heap.size + 1) (w.alloc (.cells #[.slice none 0 0, .slice none 0 0] 40)) w5 := (below_mid hb5 (by first | exact (Below.refl _ _).drew | exact ((Below.refl _ _).drew).alloc (by simp) _) (by simp)); have HBX : Hid (Below (w.heap.size + 1) (w.alloc (.cells #[.slice none 0 0, .slice none 0 0] 40)) w5) := hbx; obtain ⟨x0, x1, x2, x3, x4⟩ := resbox (by omega) hbx; clear hv5 hb5 hbx)
  · go_wp2
    have HBW : Hid (Below w.heap.size w w5) := ((Below.refl _ _).alloc (Nat.le_refl _) _).trans (HBX.out.mono (Nat.le_succ _))
    have hsz : ((w5.setCell ⟨w.heap.size, 0, none⟩ (.slice va5 n vc5)).setCell ⟨w.heap.size, 1, none⟩ (.slice (some ⟨w5.heap.size, 0, none⟩) 0 r)).heap.size = w5.heap.size := by simp
    have hm := made_own (W := (w5.setCell ⟨w.heap.size, 0, none⟩ (.slice va5 n vc5)).setCell ⟨w.heap.size, 1, none⟩ (.slice (some ⟨w5.heap.size, 0, none⟩) 0 r)) (base := w.heap.size) R hZ hr (by rw [hsz]; omega)
    rw [hsz] at hm
    refine bodyPost_ret (v := .agg #[.slice va5 n vc5, .slice (some ⟨w5.heap.size, 0, none⟩) 0 r]) (by simp [results, Tryz.results133, go_sem, x0, x1, x4]) rfl ⟨_, _, rfl, ?_, hm, ⟨_, _, rfl⟩, ⟨_, _, rfl⟩, ?_⟩
    · have hv : StrsFrom w5 (w.heap.size + 1) (.slice va5 n vc5) n C := HV5.out.weaken (by simp)
      refine StrsKept.mono (B := w.heap.size + 1) (T := w5.heap.size) (StrsKept.below (StrsKept.of ((hv.setCell (Nat.lt_succ_self _) _).setCell (Nat.lt_succ_self _) _) (Nat.le_refl _) (by rw [hsz]; exact Nat.le_refl _) (fun k hk => .inr (by rw [hsz]; simp [Value.ownBlock] at hk; omega))) ((Below.refl _ _).alloc (Nat.le_refl _) _)) (Nat.le_succ _) (by simp [hsz])
    · exact ((HBW.out.setCell (Nat.le_refl _) _).setCell (Nat.le_refl _) _).alloc (by rw [hsz]; omega) _
  · go_wp2
    have HBW : Hid (Below w.heap.size w w5) := ((Below.refl _ _).alloc (Nat.le_refl _) _).trans (HBX.out.mono (Nat.le_succ _))
    have hsz : (w.alloc (.cells #[.slice none 0 0, .slice none 0 0] 40)).heap.size = w.heap.size + 1 := by simp
    have hm := made_own (W := w.alloc (.cells #[.slice none 0 0, .slice none 0 0] 40)) (base := w.heap.size + 1) R hZ hr (by rw [hsz]; exact Nat.le_refl _)
    rw [hsz] at hm
    have hm5 : RowsOwn w5 (w.heap.size + 1) (.slice (some ⟨w.heap.size + 1, 0, none⟩) 0 r) 0 R := rows_behind HB5.out rfl hm
    refine bodyPost_ret (v := .agg #[.slice va5 n vc5, .slice (some ⟨w.heap.size + 1, 0, none⟩) 0 r]) (by simp [results, Tryz.results133, go_sem, x0, x1]) rfl ⟨_, _, rfl, ?_, ?_, ⟨_, _, rfl⟩, ⟨_, _, rfl⟩, ?_⟩
    · have hv : StrsFrom w5 (w.heap.size + 2) (.slice va5 n vc5) n C := HV5.out.weaken (by simp)
      exact StrsKept.of ((hv.setCell (by simp) _).setCell (by simp) _) (by omega) (Nat.le_refl _) (fun k hk => .inl (by simp [Value.ownBlock] at hk; omega))
    · exact rows_less ((hm5.setCell (Nat.lt_succ_self _) _).setCell (Nat.lt_succ_self _) _) (Nat.le_succ _)
    · exact (HBW.out.setCell (Nat.le_refl _) _).setCell (Nat.le_refl _) _
end Go.Proofs.YtkcejelmohameaaGreatDoor
set_option linter.unusedVariables false
namespace Go.Proofs.YtkcejelmohameaaGreatDoor
set_option maxRecDepth 100000
open Go.RowKit Go.WideShapes

/-- the places that are kept, of those ahead of k -/
def keptL (K : Nat → Bool) (k : Nat) : List Nat := (List.range k).filter K
def keptN (K : Nat → Bool) (k : Nat) : Nat := (keptL K k).length
def keptAt (K : Nat → Bool) (m i : Nat) : Nat := (keptL K m).getD i 0
def keptR (K : Nat → Bool) (m : Nat) (R : Nat → Row) (i : Nat) : Row := R (keptAt K m i)
theorem keptL_yes {K : Nat → Bool} {k : Nat} (h : K k = true) : keptL K (k + 1) = keptL K k ++ [k] := by
  unfold keptL
  rw [List.range_succ, List.filter_append]
  simp [h]
theorem keptL_no {K : Nat → Bool} {k : Nat} (h : K k = false) : keptL K (k + 1) = keptL K k := by
  unfold keptL
  rw [List.range_succ, List.filter_append]
  simp [h]
theorem keptN_yes {K : Nat → Bool} {k : Nat} (h : K k = true) : keptN K (k + 1) = keptN K k + 1 := by unfold keptN; rw [keptL_yes h]; simp
theorem keptN_no {K : Nat → Bool} {k : Nat} (h : K k = false) : keptN K (k + 1) = keptN K k := by unfold keptN; rw [keptL_no h]
theorem keptN_le (K : Nat → Bool) (k : Nat) : keptN K k ≤ k := by
  have := List.length_filter_le K (List.range k)
  simpa [keptN, keptL] using this
theorem keptL_pre {K : Nat → Bool} (k d : Nat) : ∃ r, keptL K (k + d) = keptL K k ++ r := by
  induction d with
  | zero => exact ⟨[], by simp⟩
  | succ d ih =>
    obtain ⟨r, hr⟩ := ih
    cases h : K (k + d)
    · exact ⟨r, by rw [← Nat.add_assoc, keptL_no h, hr]⟩
    · exact ⟨r ++ [k + d], by rw [← Nat.add_assoc, keptL_yes h, hr, List.append_assoc]⟩
theorem keptAt_at {K : Nat → Bool} {k m : Nat} (hk : k < m) (h : K k = true) : keptAt K m (keptN K k) = k := by
  obtain ⟨r, hr⟩ := keptL_pre (K := K) (k + 1) (m - (k + 1))
  rw [show k + 1 + (m - (k + 1)) = m by omega] at hr
  unfold keptAt keptN
  rw [hr, keptL_yes h]
  simp
theorem keptR_at {K : Nat → Bool} {k m : Nat} (R : Nat → Row) (hk : k < m) (h : K k = true) : keptR K m R (keptN K k) = R k := by unfold keptR; rw [keptAt_at hk h]
theorem keptL_congr {K L : Nat → Bool} {m : Nat} (h : ∀ i, i < m → K i = L i) : keptL K m = keptL L m := by
  unfold keptL
  exact List.filter_congr (fun i hi => h i (List.mem_range.1 hi))

/-- a row of a relation that may be: as long as there are columns -/
theorem row_len {C : Nat → ByteArray} {n : Nat} {R : Nat → Row} {m : Nat} (h : relF C n R m = 0) : ∀ i, i < m → (R i).len = n := fun i hi => by
  have h := (relF_zero h).2.2 i hi
  unfold rowE at h
  by_cases e : (R i).len = n
  · exact e
  · rw [if_neg e] at h; exact absurd h (by decide)
/-- what lies from B on is as it was -/
def Upper (B : Nat) (W W' : World) : Prop := W.heap.size ≤ W'.heap.size ∧ ∀ b, B ≤ b → b < W.heap.size → W'.heap[b]? = W.heap[b]?
theorem Upper.of {B : Nat} {W W' : World} (h : Below W.heap.size W W') : Upper B W W' := ⟨h.size, fun b _ hb => h.block b hb⟩
theorem Upper.cell {B : Nat} {W W' : World} (h : Upper B W W') {p : Addr} (h1 : B ≤ p.block) (h2 : p.block < W.heap.size) : W'.cell? p = W.cell? p := World.cell?_of_block (h.2 _ h1 h2)
theorem Upper.frozen {B : Nat} {W W' : World} (h : Upper B W W') {p : Addr} (h1 : B ≤ p.block) (h2 : p.block < W.heap.size) : W'.frozen? p = W.frozen? p := World.frozen?_of_block (h.2 _ h1 h2)
theorem RowsTwo.upper {W W' : World} {B0 B T : Nat} {v : Value} {m : Nat} {R : Nat → Row} (h : RowsTwo W B T v m R) (hu : Upper B0 W W') (hB : B0 ≤ B) (hBT : B ≤ T) : RowsTwo W' B T v m R := h.keep hu.1 (fun b _ h2 h3 => hu.2 b (by omega) h3) hBT
theorem StrsKept.upper {W W' : World} {B0 B T : Nat} {g : Option Nat} {v : Value} {n : Nat} {C : Nat → ByteArray} (h : StrsKept W B T g v n C) (hu : Upper B0 W W') (hB : B0 ≤ B) : StrsKept W' B T g v n C := h.keep hu.1 (fun b h1 _ h3 hg => ⟨hu.2 b (by omega) h3, hg⟩)
end Go.Proofs.YtkcejelmohameaaGreatDoor
set_option linter.unusedVariables false
namespace Go.Proofs.YtkcejelmohameaaGreatDoor
set_option maxRecDepth 100000
open Go.RowKit Go.WideShapes

/-- an item's value -/
def itV (x : It) : Value := .agg #[.int .i64 x.kind, .int .i64 x.n, .string x.s]
theorem itV_inj {x y : It} (h : itV x = itV y) : x = y := by
  unfold itV at h
  simp only [Value.agg.injEq, Array.mk.injEq, List.cons.injEq, Value.int.injEq, Value.string.injEq, true_and, and_true] at h
  obtain ⟨a, b, c⟩ := h
  cases x
  cases y
  simp only at a b c
  rw [a, b, c]
/-- what an item must be, to be a key -/
def fitI (x : It) : Prop := (Lit.int .i64 x.kind).wf = true ∧ (Lit.int .i64 x.n).wf = true ∧ x.s.size ≤ maxLen
theorem typesFew : Nat.ble (Tryz.prog.types.size + 2) 10000 = true := by kernel_rfl
theorem typesItem : Nat.ble (67 + 1) Tryz.prog.types.size = true := by kernel_rfl
theorem itemLaw : Go.Maps.Keyed Tryz.prog 67 := Go.Maps.Keyed.of_law (deep_law_gate (by kernel_rfl) (Nat.le_of_ble_eq_true typesFew) (Nat.le_of_ble_eq_true typesItem) (by kernel_rfl) (by kernel_rfl))
theorem item_lits (d : Nat) (x : It) (h : fitI x) : Tryz.prog.keyLits (d + 2) 67 [.int .i64 x.kind, .int .i64 x.n, .string x.s] = some [.int .i64 x.kind, .int .i64 x.n, .string x.s.data.toList] := by
  obtain ⟨h1, h2, h3⟩ := h
  simp [Program.keyLits, Tryz.underlying67, Tryz.underlying3, Tryz.underlying9, cellsItem, cells3, cells9, h1, h2, h3]
theorem itV_key (x : It) (h : fitI x) : ∃ l, keyOf Tryz.prog 67 (itV x) = some l := by
  obtain ⟨d, hd⟩ : ∃ d, Tryz.prog.types.size + 1 = d + 2 := ⟨Tryz.prog.types.size - 1, by
    have := Nat.le_of_ble_eq_true typesItem
    omega⟩
  have hls := item_lits d x h
  refine ⟨.string (keyBytes [.int .i64 x.kind, .int .i64 x.n, .string x.s.data.toList]), ?_⟩
  have h1 : Tryz.prog.keyType 67 = true := by kernel_rfl
  have h2 : (itV x).formed Tryz.prog 67 = true := by
    simp [itV, Value.formed, Tryz.underlying67, cellsItem]
  have h3 : (itV x).cells.toList = [.int .i64 x.kind, .int .i64 x.n, .string x.s] := by simp [itV, Value.cells]
  simp only [keyOf, Tryz.underlying67, h1, h2, h3, hd, hls]
  rfl
theorem fit_may {x : It} (h : mayI x = true) (hs : x.s.size ≤ maxLen) : fitI x := by
  unfold mayI at h
  have hk : (1 ≤ x.kind ∧ x.kind ≤ 4) ∧ -1099511627776 ≤ x.n ∧ x.n ≤ 1099511627776 := by
    by_cases h1 : x.kind = 1
    · rw [if_pos h1] at h
      have := of_decide_eq_true h
      omega
    · rw [if_neg h1] at h
      by_cases h2 : x.kind = 2
      · rw [if_pos h2] at h
        have := of_decide_eq_true h
        omega
      · rw [if_neg h2] at h
        by_cases h3 : x.kind = 3
        · rw [if_pos h3] at h
          have := of_decide_eq_true h
          omega
        · rw [if_neg h3] at h
          by_cases h4 : x.kind = 4
          · rw [if_pos h4] at h
            have := of_decide_eq_true h
            omega
          · rw [if_neg h4] at h
            cases h
  exact ⟨WalkArith.wf_i64 (by omega), WalkArith.wf_i64 (by omega), hs⟩
/-- all items of a relation that may be can be keys -/
theorem fit_rel {C : Nat → ByteArray} {n : Nat} {R : Nat → Row} {m : Nat} (h : relF C n R m = 0) (hg : RowsFine m R) : ∀ i, i < m → ∀ t, t < n → fitI ((R i).at_ t) := by
  intro i hi t ht
  have h1 := (relF_zero h).2.2 i hi
  have h2 := row_len h i hi
  unfold rowE at h1
  rw [if_pos h2] at h1
  refine fit_may ?_ ((hg.2 i hi).2 t (by omega))
  cases e : allB (R i).at_ (R i).len
  · rw [e] at h1; exact absurd h1 (by decide)
  · unfold allB at e
    rw [List.all_eq_true] at e
    exact e t (List.mem_range.2 (by omega))
/-- are two items the same? -/
def itB (x y : It) : Bool := x.kind == y.kind && (x.n == y.n && x.s.toList == y.s.toList)
theorem itB_iff {x y : It} : itB x y = true ↔ x = y := by
  unfold itB
  simp only [Bool.and_eq_true, beq_iff_eq]
  constructor
  · rintro ⟨h1, h2, h3⟩
    cases x
    cases y
    simp only at h1 h2 h3
    rw [h1, h2, (Lib.bytes_beq_iff _ _).1 (beq_iff_eq.2 h3)]
  · rintro rfl
    exact ⟨rfl, rfl, rfl⟩
end Go.Proofs.YtkcejelmohameaaGreatDoor
set_option linter.unusedVariables false
namespace Go.Proofs.YtkcejelmohameaaGreatDoor
set_option maxRecDepth 100000
open Go.RowKit Go.WideShapes

/-- is it the first one of its part? -/
def fstB (p : Nat → It) (i : Nat) : Bool := (List.range i).all fun t => !itB (p t) (p i)
theorem fstB_yes {p : Nat → It} {i : Nat} (h : fstB p i = true) : ∀ t, t < i → p t ≠ p i := by
  intro t ht e
  unfold fstB at h
  rw [List.all_eq_true] at h
  have := h t (List.mem_range.2 ht)
  rw [itB_iff.2 e] at this
  cases this
theorem fstB_no {p : Nat → It} {i : Nat} (h : fstB p i = false) : ∃ t, t < i ∧ p t = p i := by
  unfold fstB at h
  rw [List.all_eq_false] at h
  obtain ⟨t, ht, e⟩ := h
  refine ⟨t, List.mem_range.1 ht, ?_⟩
  cases hb : itB (p t) (p i)
  · rw [hb] at e; exact absurd rfl e
  · exact itB_iff.1 hb
/-- the first one of a part -/
theorem fst_at (p : Nat → It) (i : Nat) : ∃ t, t ≤ i ∧ p t = p i ∧ fstB p t = true := by
  induction i using Nat.strongRecOn with
  | _ i ih =>
    cases h : fstB p i
    · obtain ⟨t, ht, e⟩ := fstB_no h
      obtain ⟨s, h1, h2, h3⟩ := ih t ht
      exact ⟨s, by omega, h2.trans e, h3⟩
    · exact ⟨i, Nat.le_refl _, rfl, h⟩
/-- the parts, in the order in which they come -/
def prtK (p : Nat → It) (m j : Nat) : It := p (keptAt (fstB p) m j)
def prtN (p : Nat → It) (k : Nat) : Nat := keptN (fstB p) k
theorem prtN_le (p : Nat → It) (k : Nat) : prtN p k ≤ k := keptN_le _ _
theorem prtN_yes {p : Nat → It} {k : Nat} (h : fstB p k = true) : prtN p (k + 1) = prtN p k + 1 := keptN_yes h
theorem prtN_no {p : Nat → It} {k : Nat} (h : fstB p k = false) : prtN p (k + 1) = prtN p k := keptN_no h
theorem prtK_at {p : Nat → It} {k m : Nat} (hk : k < m) (h : fstB p k = true) : prtK p m (prtN p k) = p k := by unfold prtK prtN; rw [keptAt_at hk h]
theorem keptN_mono {K : Nat → Bool} {s t : Nat} (h : s ≤ t) : keptN K s ≤ keptN K t := by
  obtain ⟨r, hr⟩ := keptL_pre (K := K) s (t - s)
  rw [show s + (t - s) = t by omega] at hr
  unfold keptN
  rw [hr, List.length_append]
  omega
theorem keptN_lt {K : Nat → Bool} {s t : Nat} (h : s < t) (hs : K s = true) : keptN K s < keptN K t := by
  have := keptN_mono (K := K) (s := s + 1) (t := t) (by omega)
  rw [keptN_yes hs] at this
  omega
/-- the j-th one that is kept -/
theorem kept_at {K : Nat → Bool} {k j : Nat} (hj : j < keptN K k) : ∃ t, t < k ∧ K t = true ∧ keptN K t = j := by
  induction k with
  | zero => simp [keptN, keptL] at hj
  | succ k ih =>
    cases h : K k
    · rw [keptN_no h] at hj
      obtain ⟨t, h1, h2⟩ := ih hj
      exact ⟨t, by omega, h2⟩
    · rw [keptN_yes h] at hj
      by_cases e : j = keptN K k
      · exact ⟨k, by omega, h, e.symm⟩
      · obtain ⟨t, h1, h2⟩ := ih (by omega)
        exact ⟨t, by omega, h2⟩
/-- a row's part has a place, if it came ahead -/
theorem prt_place {p : Nat → It} {k m : Nat} (hk : k < m) (h : fstB p k = false) : ∃ i, i < prtN p k ∧ prtK p m i = p k := by
  obtain ⟨t, h1, h2, h3⟩ := fst_at p k
  have h4 : t < k := by
    rcases Nat.lt_or_ge t k with h' | h'
    · exact h'
    · obtain rfl : t = k := by omega
      rw [h] at h3; cases h3
  exact ⟨prtN p t, keptN_lt h4 h3, by rw [prtK_at (by omega) h3, h2]⟩
/-- .. and none else has it -/
theorem prt_inj {p : Nat → It} {m k i j : Nat} (hk : k ≤ m) (hi : i < prtN p k) (hj : j < prtN p k) (h : prtK p m i = prtK p m j) : i = j := by
  obtain ⟨s, s1, s2, rfl⟩ := kept_at hi
  obtain ⟨t, t1, t2, rfl⟩ := kept_at hj
  have e1 : prtK p m (prtN p s) = p s := prtK_at (by omega) s2
  have e2 : prtK p m (prtN p t) = p t := prtK_at (by omega) t2
  have e : p s = p t := by rw [← e1, ← e2]; exact h
  rcases Nat.lt_trichotomy s t with hl | hl | hl
  · exact absurd e (fstB_yes t2 s hl)
  · rw [hl]
  · exact absurd e.symm (fstB_yes s2 t hl)
theorem prt_new {p : Nat → It} {k m : Nat} (hk : k < m) (h : fstB p k = true) : ∀ j, j < prtN p k → prtK p m j ≠ p k := by
  intro j hj e
  obtain ⟨s, s1, s2, rfl⟩ := kept_at hj
  have e1 : prtK p m (prtN p s) = p s := prtK_at (by omega) s2
  exact fstB_yes h s s1 (by rw [← e1]; exact e)
/-- what is added up, of those of k that are Q -/
def agS (num : Nat → Int) (op : Int → Int → Int) (Q : Nat → Bool) : Nat → Option Int
  | 0 => none
  | k + 1 => if Q k = true then some (match agS num op Q k with | none => num k | some v => op v (num k)) else agS num op Q k
def agX (num : Nat → Int) (op : Int → Int → Int) (p : Nat → It) (x : It) (k : Nat) : Option Int := agS num op (fun i => itB (p i) x) k
def agV (num : Nat → Int) (op : Int → Int → Int) (p : Nat → It) (x : It) (k : Nat) : Int := (agX num op p x k).getD 0
theorem agX_none {num : Nat → Int} {op : Int → Int → Int} {p : Nat → It} {x : It} {k : Nat} (h : ∀ t, t < k → p t ≠ x) : agX num op p x k = none := by
  induction k with
  | zero => rfl
  | succ k ih =>
    have hb : itB (p k) x = false := by
      cases hb : itB (p k) x
      · rfl
      · exact absurd (itB_iff.1 hb) (h k (by omega))
    have := ih (fun t ht => h t (by omega))
    unfold agX at this ⊢
    rw [agS, if_neg (by rw [hb]; decide), this]
theorem agX_some {num : Nat → Int} {op : Int → Int → Int} {p : Nat → It} {x : It} {k t : Nat} (ht : t < k) (h : p t = x) : ∃ v, agX num op p x k = some v := by
  induction k with
  | zero => omega
  | succ k ih =>
    unfold agX
    rw [agS]
    by_cases e : itB (p k) x = true
    · rw [if_pos e]; exact ⟨_, rfl⟩
    · rw [if_neg e]
      refine ih ?_
      rcases Nat.lt_or_ge t k with h' | h'
      · exact h'
      · obtain rfl : t = k := by omega
        exact absurd (itB_iff.2 h) e
theorem agV_other {num : Nat → Int} {op : Int → Int → Int} {p : Nat → It} {x : It} {k : Nat} (h : p k ≠ x) : agV num op p x (k + 1) = agV num op p x k := by
  unfold agV agX
  rw [agS, if_neg (fun e => h (itB_iff.1 e))]
theorem agV_first {num : Nat → Int} {op : Int → Int → Int} {p : Nat → It} {k : Nat} (h : fstB p k = true) : agV num op p (p k) (k + 1) = num k := by
  have h0 : agX num op p (p k) k = none := agX_none (fstB_yes h)
  unfold agX at h0
  unfold agV agX
  rw [agS, if_pos (itB_iff.2 rfl), h0]
  rfl
theorem agV_more {num : Nat → Int} {op : Int → Int → Int} {p : Nat → It} {k : Nat} (h : fstB p k = false) : agV num op p (p k) (k + 1) = op (agV num op p (p k) k) (num k) := by
  obtain ⟨t, ht, e⟩ := fstB_no h
  obtain ⟨v, hv⟩ := agX_some (num := num) (op := op) ht e
  unfold agX at hv
  unfold agV agX
  rw [agS, if_pos (itB_iff.2 rfl), hv]
  rfl
/-- a part with what was added up -/
def grR (num : Nat → Int) (op : Int → Int → Int) (p : Nat → It) (m k j : Nat) : Row := ⟨2, fun t => if t = 0 then prtK p m j else ⟨2, agV num op p (prtK p m j) k, ⟨#[]⟩⟩⟩
/-- is a row refused? -/
def refB (cnt : Bool) (knd : Nat → Int) (num : Nat → Int) (op : Int → Int → Int) (p : Nat → It) (k : Nat) : Bool :=
  (!cnt && knd k != 2) || (!fstB p k && !decide (-1099511627776 ≤ op (agV num op p (p k) k) (num k) ∧ op (agV num op p (p k) k) (num k) ≤ 1099511627776))
theorem refB_no {cnt : Bool} {knd num : Nat → Int} {op : Int → Int → Int} {p : Nat → It} {k : Nat} (h : refB cnt knd num op p k = false) : (cnt = true ∨ knd k = 2) ∧ (fstB p k = false → -1099511627776 ≤ op (agV num op p (p k) k) (num k) ∧ op (agV num op p (p k) k) (num k) ≤ 1099511627776) := by
  unfold refB at h
  rw [Bool.or_eq_false_iff] at h
  refine ⟨?_, fun hf => ?_⟩
  · cases cnt
    · right
      have h1 := h.1
      simp at h1
      exact h1
    · left; rfl
  · have h2 := h.2
    rw [hf] at h2
    simpa using h2
theorem refB_yes1 {cnt : Bool} {knd num : Nat → Int} {op : Int → Int → Int} {p : Nat → It} {k : Nat} (h1 : cnt = false) (h2 : ¬ knd k = 2) : refB cnt knd num op p k = true := by
  unfold refB
  rw [h1]
  simp [h2]
theorem refB_mk {cnt : Bool} {knd num : Nat → Int} {op : Int → Int → Int} {p : Nat → It} {k : Nat} (h1 : cnt = true ∨ knd k = 2) (h2 : fstB p k = true ∨ (-1099511627776 ≤ op (agV num op p (p k) k) (num k) ∧ op (agV num op p (p k) k) (num k) ≤ 1099511627776)) : refB cnt knd num op p k = false := by
  unfold refB
  rw [Bool.or_eq_false_iff]
  constructor
  · rcases h1 with h1 | h1
    · rw [h1]; rfl
    · rw [h1]; simp
  · rcases h2 with h2 | h2
    · rw [h2]; rfl
    · simp [h2]
theorem refB_yes2 {cnt : Bool} {knd num : Nat → Int} {op : Int → Int → Int} {p : Nat → It} {k : Nat} (h1 : fstB p k = false) (h2 : ¬ (-1099511627776 ≤ op (agV num op p (p k) k) (num k) ∧ op (agV num op p (p k) k) (num k) ≤ 1099511627776)) : refB cnt knd num op p k = true := by
  unfold refB
  rw [h1, decide_eq_false h2]
  simp
theorem agV_bound {cnt : Bool} {knd num : Nat → Int} {op : Int → Int → Int} {p : Nat → It} {x : It} {k : Nat} (h : ∀ i, i < k → refB cnt knd num op p i = false) (hn : ∀ i, i < k → -1099511627776 ≤ num i ∧ num i ≤ 1099511627776) : -1099511627776 ≤ agV num op p x k ∧ agV num op p x k ≤ 1099511627776 := by
  induction k with
  | zero =>
    have e : agV num op p x 0 = 0 := rfl
    rw [e]
    omega
  | succ k ih =>
    have hi := ih (fun i hi => h i (by omega)) (fun i hi => hn i (by omega))
    by_cases e : p k = x
    · subst e
      cases hf : fstB p k
      · rw [agV_more hf]
        exact (refB_no (h k (by omega))).2 hf
      · rw [agV_first hf]
        exact hn k (by omega)
    · rw [agV_other e]
      exact hi
theorem may_bound {x : It} (h : mayI x = true) : -1099511627776 ≤ x.n ∧ x.n ≤ 1099511627776 := by
  unfold mayI at h
  by_cases h1 : x.kind = 1
  · rw [if_pos h1] at h
    have := of_decide_eq_true h
    omega
  · rw [if_neg h1] at h
    by_cases h2 : x.kind = 2
    · rw [if_pos h2] at h
      have := of_decide_eq_true h
      omega
    · rw [if_neg h2] at h
      by_cases h3 : x.kind = 3
      · rw [if_pos h3] at h
        have := of_decide_eq_true h
        omega
      · rw [if_neg h3] at h
        by_cases h4 : x.kind = 4
        · rw [if_pos h4] at h
          have := of_decide_eq_true h
          omega
        · rw [if_neg h4] at h
          cases h
theorem may_rel {C : Nat → ByteArray} {n : Nat} {R : Nat → Row} {m : Nat} (h : relF C n R m = 0) : ∀ i, i < m → ∀ t, t < n → mayI ((R i).at_ t) = true := by
  intro i hi t ht
  have h1 := (relF_zero h).2.2 i hi
  have h2 := row_len h i hi
  unfold rowE at h1
  rw [if_pos h2] at h1
  cases e : allB (R i).at_ (R i).len
  · rw [e] at h1; exact absurd h1 (by decide)
  · unfold allB at e
    rw [List.all_eq_true] at e
    exact e t (List.mem_range.2 (by omega))
theorem grR_new {num : Nat → Int} {op : Int → Int → Int} {p : Nat → It} {m k j : Nat} (h : p k ≠ prtK p m j) : grR num op p m k j = grR num op p m (k + 1) j := by
  unfold grR
  rw [agV_other h]
end Go.Proofs.YtkcejelmohameaaGreatDoor
set_option linter.unusedVariables false
namespace Go.Proofs.YtkcejelmohameaaGreatDoor
set_option maxRecDepth 100000
open Go.RowKit Go.WideShapes

/-- a relation lies there -/
def CopyIs (W : World) (c q : Value) (n m : Nat) (C : Nat → ByteArray) (R : Nat → Row) : Prop := StrsIs W c n C ∧ RowsIs W q m R
/-- a later world -/
def Chain (w w' : World) : Prop := Below w.heap.size w w'
theorem Chain.refl (w : World) : Chain w w := Below.refl _ _
theorem Chain.trans {a b c : World} (h : Chain a b) (h' : Chain b c) : Chain a c := Below.trans h (Below.mono h' (Below.size h))
theorem Chain.alloc {a b : World} (h : Chain a b) (o : Obj) : Chain a (b.alloc o) := Below.alloc h (Below.size h) o
theorem Chain.setCell {a b : World} (h : Chain a b) {p : Addr} (hp : a.heap.size ≤ p.block) (u : Value) : Chain a (b.setCell p u) := Below.setCell h hp u
theorem Chain.drew {a b : World} (h : Chain a b) : Chain a b.drew := Below.drew h
theorem CopyIs.chain {w w' : World} {c q : Value} {n m : Nat} {C : Nat → ByteArray} {R : Nat → Row} (h : CopyIs w c q n m C R) (hb : Chain w w') : CopyIs w' c q n m C R := ⟨h.1.below hb, h.2.below hb⟩
theorem CopyIs.alloc {w : World} {c q : Value} {n m : Nat} {C : Nat → ByteArray} {R : Nat → Row} (h : CopyIs w c q n m C R) (o : Obj) : CopyIs (w.alloc o) c q n m C R := h.chain ((Chain.refl _).alloc o)
end Go.Proofs.YtkcejelmohameaaGreatDoor
set_option linter.unusedVariables false
namespace Go.Proofs.YtkcejelmohameaaGreatDoor
set_option maxRecDepth 100000
open Go.RowKit Go.WideShapes

/-- the value is a list of n numbers -/
def IntsIs (w : World) (v : Value) (n : Nat) (P : Nat → Nat) : Prop :=
  ∃ a cap, v = .slice a n cap ∧ n ≤ cap ∧ cap ≤ maxLen ∧ (0 < n → ∃ b off, a = some ⟨b, off, none⟩ ∧ b < w.heap.size ∧ ∀ i, i < n → w.cell? ⟨b, off + i, none⟩ = some (.int .i64 (P i : Int)))
theorem IntsIs.below {w w' : World} {v : Value} {n : Nat} {P : Nat → Nat} (h : IntsIs w v n P) (hb : Below w.heap.size w w') : IntsIs w' v n P := by
  obtain ⟨a, cap, h1, h2, h3, h4⟩ := h
  refine ⟨a, cap, h1, h2, h3, fun h0 => ?_⟩
  obtain ⟨b, off, h5, h6, h7⟩ := h4 h0
  exact ⟨b, off, h5, Nat.lt_of_lt_of_le h6 hb.size, fun i hi => (hb.cell (p := ⟨b, off + i, none⟩) h6).trans (h7 i hi)⟩
theorem set_same {w : World} {a : Addr} {u v : Value} (h : w.cell? a = some u) : (w.setCell a v).cell? a = some v := by apply World.cell?_setCell_same; exact h
theorem set_other {w : World} {a b : Addr} {v : Value} (h : a ≠ b) : (w.setCell a v).cell? b = w.cell? b := by apply World.cell?_setCell_other; exact h
/-- room for k items -/
def Room (W : World) (g k : Nat) : Prop := ∀ o, o < k * 3 → (∃ v, W.cell? ⟨g, o, none⟩ = some v) ∧ W.frozen? ⟨g, o, none⟩ = false
theorem Room.setCell {W : World} {g k : Nat} (h : Room W g k) (a : Addr) (u : Value) : Room (W.setCell a u) g k := fun o ho => by
  obtain ⟨⟨v, hv⟩, hf⟩ := h o ho
  refine ⟨?_, by rw [World.frozen?_setCell]; exact hf⟩
  by_cases e : a = ⟨g, o, none⟩
  · subst e; exact ⟨u, set_same hv⟩
  · exact ⟨v, (set_other e).trans hv⟩
theorem Room.made (w : World) (Z : Array Value) (T : TypeId) (k : Nat) (hz : Z.size = k * 3) : Room (w.alloc (.cells Z T)) w.heap.size k := fun o ho => by
  have ho' : o < Z.size := by omega
  refine ⟨⟨Z[o], ?_⟩, ?_⟩
  · simp [ho']
  · simp
theorem its_set {W : World} {g j k : Nat} {X : Nat → It} (h : ItsAt W g 0 j X) (hr : Room W g k) (hj : j < k) :
    ItsAt (((W.setCell ⟨g, j * 3, none⟩ (.int .i64 (X j).kind)).setCell ⟨g, j * 3 + 1, none⟩ (.int .i64 (X j).n)).setCell ⟨g, j * 3 + 2, none⟩ (.string (X j).s)) g 0 (j + 1) X := by
  intro i hi
  by_cases e : i = j
  · subst e
    obtain ⟨⟨v0, h0⟩, _⟩ := hr (i * 3) (by omega)
    obtain ⟨⟨v1, h1⟩, _⟩ := (hr.setCell ⟨g, i * 3, none⟩ (.int .i64 (X i).kind)) (i * 3 + 1) (by omega)
    obtain ⟨⟨v2, h2⟩, _⟩ := ((hr.setCell ⟨g, i * 3, none⟩ (.int .i64 (X i).kind)).setCell ⟨g, i * 3 + 1, none⟩ (.int .i64 (X i).n)) (i * 3 + 2) (by omega)
    rw [Nat.zero_add]
    refine ⟨?_, ?_, set_same h2⟩
    · rw [set_other (by simp), set_other (by simp)]; exact set_same h0
    · rw [set_other (by simp)]; exact set_same h1
  · obtain ⟨h0, h1, h2⟩ := h i (by omega)
    refine ⟨?_, ?_, ?_⟩
    · rw [set_other (by simp <;> omega), set_other (by simp <;> omega), set_other (by simp <;> omega)]; exact h0
    · rw [set_other (by simp <;> omega), set_other (by simp <;> omega), set_other (by simp <;> omega)]; exact h1
    · rw [set_other (by simp <;> omega), set_other (by simp <;> omega), set_other (by simp <;> omega)]; exact h2
theorem make_items (k : Nat) (hk : k ≤ 4000000) : ∃ Z : Array Value, Z.size = k * 3 ∧ ∀ W : World, (Instr.makeSlice 94 (.int .i64 (k : Int)) (.int .i64 (k : Int))).run Tryz.prog W = .ok (.slice (some ⟨W.heap.size, 0, none⟩) k k) (W.alloc (.cells Z 67)) := by
  obtain ⟨i0, hi0, hz0, hz1, hz2⟩ := info_parts infoItem
  refine ⟨madeCells (Value.cells (.agg #[.int .i64 0, .int .i64 0, .string ⟨#[]⟩])) (k * i0.size), ?_, fun W => ?_⟩
  · rw [size_madeCells, hz1]
  · have h := run_make (P := Tryz.prog) W 94 67 i0 _ Tryz.underlying94 hi0 hz0 .i64 .i64 k k (by omega) (Int.le_refl _) (by rw [hz2]; omega) (by omega)
    simp only [Int.toNat_natCast] at h
    exact h
end Go.Proofs.YtkcejelmohameaaGreatDoor
set_option linter.unusedVariables false
namespace Go.Proofs.YtkcejelmohameaaGreatDoor
set_option maxRecDepth 100000
open Go.RowKit Go.WideShapes

/-- the cells of numbers -/
def intCells (P : Nat → Nat) (n : Nat) : List Value := (List.range n).map fun j => .int .i64 (P j : Int)
def elemN (p : Nat) : List Value := [.int .i64 (p : Int)]
theorem intCells_succ (P : Nat → Nat) (n : Nat) : intCells P (n + 1) = intCells P n ++ elemN (P n) := by
  unfold intCells elemN
  simp [List.range_succ]
theorem elemN_in {w : World} (p : Nat) : ∀ j u, (elemN p)[j]? = some u → (w.alloc (.cells #[.int .i64 (p : Int)] 3)).cell? ((⟨w.heap.size, 0, none⟩ : Addr).add j) = some u := by
  intro j u hj
  have hj3 : j < 1 := (List.getElem?_eq_some_iff.1 hj).1
  match j, hj3 with
  | 0, _ => simp [elemN] at hj; subst hj; simp [Addr.add]
theorem elemN_one (p : Nat) : ∀ u ∈ elemN p, u.oneCell' = true := by
  intro u hu
  simp [elemN] at hu
  subst hu; rfl
theorem ints_of {w : World} {base : Nat} {v : Value} {n : Nat} {P : Nat → Nat} (h : w.ownsRow base 3 1 v n (intCells P n)) : IntsIs w v n P := by
  have h8 := h
  obtain ⟨hl, ⟨rfl, h2⟩ | ⟨b, cap, cur, rfl, q1, q2, q3, q4, _⟩⟩ := h
  · subst h2
    exact ⟨none, 0, rfl, Nat.le_refl _, Nat.zero_le _, fun h => absurd h (Nat.lt_irrefl _)⟩
  · refine ⟨_, cap, rfl, q3, q4, fun h0 => ⟨b, 0, rfl, (Array.getElem?_eq_some_iff.1 q2).1, fun i hi => ?_⟩⟩
    rw [Nat.zero_add, h8.cellAt _ (by omega)]
    simp [intCells, hi]
theorem infoInt : (Tryz.prog.info? 3).map (fun i => (i.zero, i.size, i.bytes)) = some (some (.int .i64 0), 1, 8) := by kernel_rfl
end Go.Proofs.YtkcejelmohameaaGreatDoor
set_option linter.unusedVariables false
namespace Go.Proofs.YtkcejelmohameaaGreatDoor
set_option maxRecDepth 100000
open Go.RowKit Go.WideShapes

/-- the rows that are made of the first k rows, each with its partners -/
def pairL (pn : Nat → Nat) (PR : Nat → Nat → Row) (R : Nat → Row) : Nat → List Row
  | 0 => []
  | k + 1 => pairL pn PR R k ++ (List.range (pn k)).map (fun i => appI (R k) (PR k i))
/-- how many they are -/
def pairN (pn : Nat → Nat) : Nat → Nat
  | 0 => 0
  | k + 1 => pairN pn k + pn k
def pairR (pn : Nat → Nat) (PR : Nat → Nat → Row) (R : Nat → Row) (m j : Nat) : Row := (pairL pn PR R m).getD j ⟨0, fun _ => ⟨0, 0, ⟨#[]⟩⟩⟩
theorem pairL_len (pn : Nat → Nat) (PR : Nat → Nat → Row) (R : Nat → Row) (k : Nat) : (pairL pn PR R k).length = pairN pn k := by
  induction k with
  | zero => rfl
  | succ k ih => simp [pairL, pairN, ih]
theorem pairL_pre (pn : Nat → Nat) (PR : Nat → Nat → Row) (R : Nat → Row) (k d : Nat) : ∃ r, pairL pn PR R (k + d) = pairL pn PR R k ++ r := by
  induction d with
  | zero => exact ⟨[], by simp⟩
  | succ d ih =>
    obtain ⟨r, hr⟩ := ih
    exact ⟨r ++ (List.range (pn (k + d))).map (fun i => appI (R (k + d)) (PR (k + d) i)), by rw [← Nat.add_assoc]; show pairL pn PR R (k + d) ++ _ = _; rw [hr, List.append_assoc]⟩
theorem pairR_at {pn : Nat → Nat} {PR : Nat → Nat → Row} {R : Nat → Row} {k m i : Nat} (hk : k < m) (hi : i < pn k) : pairR pn PR R m (pairN pn k + i) = appI (R k) (PR k i) := by
  obtain ⟨r, hr⟩ := pairL_pre pn PR R (k + 1) (m - (k + 1))
  rw [show k + 1 + (m - (k + 1)) = m by omega] at hr
  unfold pairR
  rw [hr, List.getD_eq_getElem?_getD, List.getElem?_append_left (by rw [pairL_len]; show pairN pn k + i < pairN pn k + pn k; omega)]
  show ((pairL pn PR R k ++ (List.range (pn k)).map (fun i => appI (R k) (PR k i)))[pairN pn k + i]?).getD _ = _
  rw [List.getElem?_append_right (by rw [pairL_len]; omega), pairL_len, show pairN pn k + i - pairN pn k = i by omega]
  simp [hi]
theorem pairN_le {pn : Nat → Nat} {b : Nat} (h : ∀ k, pn k ≤ b) (k : Nat) : pairN pn k ≤ k * b := by
  induction k with
  | zero => simp [pairN]
  | succ k ih =>
    have := h k
    show pairN pn k + pn k ≤ _
    rw [Nat.succ_mul]
    omega
theorem pairN_mono (pn : Nat → Nat) {k m : Nat} (h : k ≤ m) : pairN pn k ≤ pairN pn m := by
  induction m with
  | zero => obtain rfl : k = 0 := by omega
            exact Nat.le_refl _
  | succ m ih =>
    by_cases e : k = m + 1
    · rw [e]; exact Nat.le_refl _
    · exact Nat.le_trans (ih (by omega)) (Nat.le_add_right _ _)
theorem pairN_lt (pn : Nat → Nat) {k m i : Nat} (hk : k < m) (hi : i < pn k) : pairN pn k + i < pairN pn m := by
  have : pairN pn (k + 1) ≤ pairN pn m := pairN_mono pn hk
  have e : pairN pn (k + 1) = pairN pn k + pn k := rfl
  omega
theorem appI_nil (x : Nat → It) (a : Row) : appI ⟨0, x⟩ a = a := by
  obtain ⟨l, at_⟩ := a
  show (⟨0 + l, fun i => if i < 0 then x i else at_ (i - 0)⟩ : Row) = ⟨l, at_⟩
  rw [Nat.zero_add]
  congr 1
theorem appS_nil (x : Nat → ByteArray) (a : Txts) : appS ⟨0, x⟩ a = a := by
  obtain ⟨l, at_⟩ := a
  show (⟨0 + l, fun i => if i < 0 then x i else at_ (i - 0)⟩ : Txts) = ⟨l, at_⟩
  rw [Nat.zero_add]
  congr 1
theorem catI_two (A B : Row) : catI (fun i => if i = 0 then A else B) 2 = appI A B := by
  show appI (appI ⟨0, _⟩ A) B = _
  rw [appI_nil]
theorem catS_two (A B : Txts) : catS (fun i => if i = 0 then A else B) 2 = appS A B := by
  show appS (appS ⟨0, _⟩ A) B = _
  rw [appS_nil]
theorem two_at {w : World} {b off : Nat} {u v : Value} (h : w.cell? ⟨b, off, none⟩ = some u) (h' : w.cell? ⟨b, off + 1, none⟩ = some v) : ∀ i, i < 2 → w.cell? ⟨b, off + i, none⟩ = some (if i = 0 then u else v) := by
  intro i hi
  obtain rfl | rfl : i = 0 ∨ i = 1 := by omega
  · exact h
  · exact h'
theorem seqsI_two {w : World} {b off : Nat} {u v : Value} {A B : Row} (h : w.cell? ⟨b, off, none⟩ = some u) (h' : w.cell? ⟨b, off + 1, none⟩ = some v) (hu : ItsIs w u A.len A.at_) (hv : ItsIs w v B.len B.at_) : SeqsI w b off 2 (fun i => if i = 0 then A else B) := by
  intro i hi
  refine ⟨_, two_at h h' i hi, ?_⟩
  obtain rfl | rfl : i = 0 ∨ i = 1 := by omega
  · exact hu
  · exact hv
theorem seqsS_two {w : World} {b off : Nat} {u v : Value} {A B : Txts} (h : w.cell? ⟨b, off, none⟩ = some u) (h' : w.cell? ⟨b, off + 1, none⟩ = some v) (hu : StrsIs w u A.len A.at_) (hv : StrsIs w v B.len B.at_) : SeqsS w b off 2 (fun i => if i = 0 then A else B) := by
  intro i hi
  refine ⟨_, two_at h h' i hi, ?_⟩
  obtain rfl | rfl : i = 0 ∨ i = 1 := by omega
  · exact hu
  · exact hv
theorem concatI_two (b off cap : Nat) (u v : Value) (A B : Row) (w : World) (h1 : 2 ≤ cap) (hc : cap ≤ maxLen) (hb : b < w.heap.size) (h : w.cell? ⟨b, off, none⟩ = some u) (h' : w.cell? ⟨b, off + 1, none⟩ = some v) (hu : ItsIs w u A.len A.at_) (hv : ItsIs w v B.len B.at_) (hn : (appI A B).len * 32 ≤ 140737488351232) :
    Calls Tryz.prog 142 #[.slice (some ⟨b, off, none⟩) 2 cap] w fun e w' => ∃ v, e = .returned v ∧ ItsApart w' w.heap.size none v (appI A B).len (appI A B).at_ ∧ (∃ a' c', v = .slice a' (appI A B).len c') ∧ Below w.heap.size w w' := by
  refine (concatI_some b off 2 cap (fun i => if i = 0 then A else B) w h1 hc hb (seqsI_two h h' hu hv) (by rw [catI_two]; exact hn)).mono ?_
  rintro e w' ⟨v, rfl, hv, hbel⟩
  rw [catI_two] at hv
  exact ⟨v, rfl, its_new hv (fun k hk => nomatch hk), own_shape hv, hbel⟩
theorem concatS_two (b off cap : Nat) (u v : Value) (A B : Txts) (w : World) (h1 : 2 ≤ cap) (hc : cap ≤ maxLen) (hb : b < w.heap.size) (h : w.cell? ⟨b, off, none⟩ = some u) (h' : w.cell? ⟨b, off + 1, none⟩ = some v) (hu : StrsIs w u A.len A.at_) (hv : StrsIs w v B.len B.at_) (hn : (appS A B).len * 16 ≤ 140737488351232) :
    Calls Tryz.prog 98 #[.slice (some ⟨b, off, none⟩) 2 cap] w fun e w' => ∃ v, e = .returned v ∧ StrsFrom w' w.heap.size v (appS A B).len (appS A B).at_ ∧ (∃ a' c', v = .slice a' (appS A B).len c') ∧ Below w.heap.size w w' := by
  refine (concatS_some b off 2 cap (fun i => if i = 0 then A else B) w h1 hc hb (seqsS_two h h' hu hv) (by rw [catS_two]; exact hn)).mono ?_
  rintro e w' ⟨v, rfl, hv, hbel⟩
  rw [catS_two] at hv
  exact ⟨v, rfl, strs_from hv, own_shape hv, hbel⟩
theorem texts_two (b off cap : Nat) (u v : Value) (A B : Txts) (w : World) (h1 : 2 ≤ cap) (hc : cap ≤ maxLen) (hb : b < w.heap.size) (h : w.cell? ⟨b, off, none⟩ = some u) (h' : w.cell? ⟨b, off + 1, none⟩ = some v) (hu : StrsIs w u A.len A.at_) (hv : StrsIs w v B.len B.at_) (hn : (appS A B).len * 16 ≤ 140737488351232) :
    Calls Tryz.prog 16 #[.slice (some ⟨b, off, none⟩) 2 cap] w fun e w' => ∃ v, e = .returned v ∧ StrsFrom w' w.heap.size v (appS A B).len (appS A B).at_ ∧ (∃ a' c', v = .slice a' (appS A B).len c') ∧ Below w.heap.size w w' := by
  refine (listsS_some b off 2 cap (fun i => if i = 0 then A else B) w h1 hc hb (seqsS_two h h' hu hv) (by rw [catS_two]; exact hn)).mono ?_
  rintro e w' ⟨v, rfl, hv, hbel⟩
  rw [catS_two] at hv
  exact ⟨v, rfl, strs_from hv, own_shape hv, hbel⟩
end Go.Proofs.YtkcejelmohameaaGreatDoor
set_option linter.unusedVariables false
namespace Go.Proofs.YtkcejelmohameaaGreatDoor
set_option maxRecDepth 100000
open Go.RowKit Go.WideShapes

set_option maxHeartbeats 1600000 in
theorem itemsAt_is (u p : Value) (n k : Nat) (X : Nat → It) (P : Nat → Nat) (w : World) (hu : ItsIs w u n X) (hp : IntsIs w p k P) (hP : ∀ i, i < k → P i < n) (hk : k ≤ 4000000) :
    Calls Tryz.prog 134 #[u, p] w fun e w' => ∃ v, e = .returned v ∧ ItsApart w' w.heap.size none v k (fun i => X (P i)) ∧ (∃ a' c', v = .slice a' k c') ∧ Below w.heap.size w w' := by
  obtain ⟨ua, ucap, rfl, u1, u2, _, u3⟩ := hu
  obtain ⟨pa, pcap, rfl, p1, p2, p3⟩ := hp
  obtain ⟨Z, hZ, hmk⟩ := make_items k hk
  have HU : Hid (∀ W i, Below w.heap.size w W → i < k → ∃ b off pb po, ua = some ⟨b, off, none⟩ ∧ pa = some ⟨pb, po, none⟩ ∧ b < w.heap.size ∧ pb < w.heap.size ∧ W.cell? ⟨pb, po + i, none⟩ = some (.int .i64 (P i : Int)) ∧ W.cell? ⟨b, off + P i * 3, none⟩ = some (.int .i64 (X (P i)).kind) ∧ W.cell? ⟨b, off + P i * 3 + 1, none⟩ = some (.int .i64 (X (P i)).n) ∧ W.cell? ⟨b, off + P i * 3 + 2, none⟩ = some (.string (X (P i)).s) ∧ P i < n) := fun W i hW hi => by
    have hPi := hP i hi
    obtain ⟨b, off, e1, e2, e3⟩ := u3 (by omega)
    obtain ⟨pb, po, d1, d2, d3⟩ := p3 (by omega)
    obtain ⟨x0, x1, x2⟩ := e3 (P i) hPi
    exact ⟨b, off, pb, po, e1, d1, e2, d2, (hW.cell (p := ⟨pb, po + i, none⟩) d2).trans (d3 i hi), (hW.cell (p := ⟨b, off + P i * 3, none⟩) e2).trans x0, (hW.cell (p := ⟨b, off + P i * 3 + 1, none⟩) e2).trans x1, (hW.cell (p := ⟨b, off + P i * 3 + 2, none⟩) e2).trans x2, hPi⟩
  have hnn : n ≤ 9223372036854775807 := by unfold maxLen at u2; omega
  have HZ : Hid (Room (w.alloc (.cells Z 67)) w.heap.size k) := Room.made w Z _ k hZ
  clear u2 u3 p2 p3 hP
  go_enter Tryz.func134, Tryz.ntmps134
  go_wp2
  clear hmk
  go_loopw [13] (fun i wr => ∃ j : Nat, j ≤ k ∧ i = .int .i64 j ∧ Room wr w.heap.size k ∧ ItsAt wr w.heap.size 0 j (fun i => X (P i)) ∧ Below w.heap.size w wr ∧ w.heap.size < wr.heap.size) (fun i _ => k - (intOf i).toNat)
  case atStart => exact ⟨0, Nat.zero_le _, rfl, HZ.out, fun i hi => by omega, (Below.refl _ _).alloc (Nat.le_refl _) _, by simp⟩
  case round =>
    obtain ⟨j, hj, rfl, hroom, hits, hbr, hsz⟩ := hrel
    have HR : Hid (Room wr w.heap.size k) := hroom
    have HI : Hid (ItsAt wr w.heap.size 0 j (fun i => X (P i))) := hits
    have HB : Hid (Below w.heap.size w wr) := hbr
    clear hroom hits hbr
    by_cases hlt : j < k
    · obtain ⟨b, off, pb, po, rfl, rfl, hb0, hpb0, e0, e1, e2, e3, hPn⟩ := HU.out wr j HB.out hlt
      obtain ⟨⟨v0, r0⟩, f0⟩ := HR.out (j * 3) (by omega)
      obtain ⟨⟨v1, r1⟩, f1⟩ := HR.out (j * 3 + 1) (by omega)
      obtain ⟨⟨v2, r2⟩, f2⟩ := HR.out (j * 3 + 2) (by omega)
      have hji : (j : Int) < (k : Int) := by omega
      have hpi : (P j : Int) < (n : Int) := by omega
      have HS : Hid (ItsAt (((wr.setCell ⟨w.heap.size, j * 3, none⟩ (.int .i64 (X (P j)).kind)).setCell ⟨w.heap.size, j * 3 + 1, none⟩ (.int .i64 (X (P j)).n)).setCell ⟨w.heap.size, j * 3 + 2, none⟩ (.string (X (P j)).s)) w.heap.size 0 (j + 1) (fun i => X (P i))) := its_set (X := fun i => X (P i)) HI.out HR.out hlt
      generalize (X (P j)).kind = xk at *
      generalize (X (P j)).n = xn at *
      generalize (X (P j)).s = xs at *
      generalize P j = q at *
      go_wp2
      go_roundw
      case rel => exact ⟨j + 1, by omega, by go_num, ((HR.out.setCell _ _).setCell _ _).setCell _ _, HS.out, ((HB.out.setCell (Nat.le_refl _) _).setCell (Nat.le_refl _) _).setCell (Nat.le_refl _) _, by simpa using hsz⟩
      case measure => simp [intOf]; omega
    · have e : j = k := by omega
      subst e
      go_wp2
      go_ret
      exact ⟨_, rfl, ⟨_, _, rfl, Nat.le_refl _, by unfold maxLen; omega, fun h => by simp at h, fun _ => ⟨_, _, rfl, hsz, Nat.le_refl _, by simp, HI.out⟩⟩, ⟨_, _, rfl⟩, HB.out⟩
end Go.Proofs.YtkcejelmohameaaGreatDoor
set_option linter.unusedVariables false
namespace Go.Proofs.YtkcejelmohameaaGreatDoor
set_option maxRecDepth 100000
open Go.RowKit Go.WideShapes

/-- the rows that are made -/
def prR (C : Nat → ByteArray) (n : Nat) (O : Nat → ByteArray) (k : Nat) (R : Nat → Row) (i : Nat) : Row := ⟨k, fun t => (R i).at_ (prP C n O t)⟩
/-- what is told -/
def prF (C : Nat → ByteArray) (n : Nat) (R : Nat → Row) (m : Nat) (D : Nat → ByteArray) (kd : Nat) (O : Nat → ByteArray) (ko : Nat) : Int :=
  if relF C n R m = 0 then (if kd = ko ∧ foundB C n O ko = true then madeF D kd m else 9) else relF C n R m
end Go.Proofs.YtkcejelmohameaaGreatDoor
set_option linter.unusedVariables false
namespace Go.Proofs.YtkcejelmohameaaGreatDoor
set_option maxRecDepth 100000
open Go.RowKit Go.WideShapes

/-- which rows are true in a column -/
def selK (R : Nat → Row) (p i : Nat) : Bool := ((R i).at_ p).n == 1
/-- are all of them true or false there? -/
def selB (R : Nat → Row) (m p : Nat) : Bool := (List.range m).all fun i => ((R i).at_ p).kind == 4
/-- what is told -/
def selF (C : Nat → ByteArray) (n : Nat) (R : Nat → Row) (m : Nat) (s : ByteArray) : Int :=
  if relF C n R m = 0 then (if colI C n s = -1 then 9 else if selB R m (colI C n s).toNat = true then 0 else 12) else relF C n R m
theorem selB_no {R : Nat → Row} {m p k : Nat} (hk : k < m) (h : ¬ ((R k).at_ p).kind = 4) : selB R m p = false := by
  unfold selB
  rw [List.all_eq_false]
  exact ⟨k, List.mem_range.2 hk, by simpa using h⟩
theorem selB_yes {R : Nat → Row} {m p : Nat} (h : ∀ k, k < m → ((R k).at_ p).kind = 4) : selB R m p = true := by
  unfold selB
  rw [List.all_eq_true]
  exact fun k hk => by simpa using h k (List.mem_range.1 hk)
theorem selF_col {C : Nat → ByteArray} {n : Nat} {R : Nat → Row} {m : Nat} {s : ByteArray} (h0 : relF C n R m = 0) (h : colI C n s = -1) : selF C n R m s = 9 := by unfold selF; rw [if_pos h0, if_pos h]
theorem selF_no {C : Nat → ByteArray} {n : Nat} {R : Nat → Row} {m : Nat} {s : ByteArray} {p k : Nat} (h0 : relF C n R m = 0) (h : colI C n s = (p : Int)) (hk : k < m) (hx : ¬ ((R k).at_ p).kind = 4) : selF C n R m s = 12 := by
  unfold selF
  rw [if_pos h0, h, if_neg (by omega), Int.toNat_natCast, selB_no hk hx]
  rfl
theorem selF_yes {C : Nat → ByteArray} {n : Nat} {R : Nat → Row} {m : Nat} {s : ByteArray} {p : Nat} (h0 : relF C n R m = 0) (h : colI C n s = (p : Int)) (hx : ∀ k, k < m → ((R k).at_ p).kind = 4) : selF C n R m s = 0 := by
  unfold selF
  rw [if_pos h0, h, if_neg (by omega), Int.toNat_natCast, selB_yes hx]
  rfl
theorem selF_bad {C : Nat → ByteArray} {n : Nat} {R : Nat → Row} {m : Nat} {s : ByteArray} (h0 : ¬ relF C n R m = 0) : selF C n R m s = relF C n R m := if_neg h0
end Go.Proofs.YtkcejelmohameaaGreatDoor
set_option linter.unusedVariables false
namespace Go.Proofs.YtkcejelmohameaaGreatDoor
set_option maxRecDepth 100000
open Go.RowKit Go.WideShapes

set_option maxHeartbeats 1600000 in
theorem withRoom_two (r b off cap : Nat) (u u' : Value) (A B : Txts) (w : World) (hr : r ≤ 4000000) (h1 : 2 ≤ cap) (hc : cap ≤ maxLen) (hb : b < w.heap.size) (hcell : w.cell? ⟨b, off, none⟩ = some u) (hcell' : w.cell? ⟨b, off + 1, none⟩ = some u') (hu : StrsIs w u A.len A.at_) (hu' : StrsIs w u' B.len B.at_) (hn : (appS A B).len * 16 ≤ 140737488351232) (R : Nat → Row) :
    Calls Tryz.prog 133 #[.int .i64 r, .slice (some ⟨b, off, none⟩) 2 cap] w fun e w' => ∃ c' q', e = .returned (.agg #[c', q']) ∧ StrsKept w' w.heap.size w'.heap.size q'.ownBlock c' (appS A B).len (appS A B).at_ ∧ RowsOwn w' w.heap.size q' 0 R ∧ (∃ a1 k1, c' = .slice a1 (appS A B).len k1) ∧ (∃ a2 k2, q' = .slice a2 0 k2) ∧ Below w.heap.size w w' := by
  have CC : Hid (∀ W, Below w.heap.size w W → Calls Tryz.prog 98 #[.slice (some ⟨b, off, none⟩) 2 cap] W fun e w' => ∃ v, e = .returned v ∧ StrsFrom w' W.heap.size v (appS A B).len (appS A B).at_ ∧ (∃ a' c', v = .slice a' (appS A B).len c') ∧ Below W.heap.size W w') := fun W hW => concatS_two b off cap u u' A B W h1 hc (Nat.lt_of_lt_of_le hb hW.size) ((hW.cell (p := ⟨b, off, none⟩) hb).trans hcell) ((hW.cell (p := ⟨b, off + 1, none⟩) hb).trans hcell') (hu.below hW) (hu'.below hW) hn
  obtain ⟨Z, hZ, hmk⟩ := make_rows r hr
  clear hu hu' hcell hcell' hc hn
  generalize (appS A B).len = n at *
  generalize (appS A B).at_ = C at *
  go_enter Tryz.func133, Tryz.ntmps133
  go_upto_region 1 with fail
  go_region_with (go_at_call 98; refine (CC.out _ ?_).mono ?_; (first | exact (((Below.refl _ _).alloc (Nat.le_refl _) _).drew) | exact ((((Below.refl _ _).alloc (Nat.le_refl _) _).drew).alloc (by simp) _)); rintro e w5 ⟨v5, rfl, hv5, hsh5, hb5⟩; obtain ⟨va5, vc5, rfl⟩ := hsh5; have HV5 : Hid (StrsFrom w5 _ (.slice va5 n vc5) n C) := hv5; have HB5 : Hid (Below _ _ w5) := hb5; have hbx : Below (w.heap.size + 1) (w.alloc (.cells #[.slice none 0 0, .slice none 0 0] 40)) w5 := (below_mid hb5 (by first | exact (Below.refl _ _).drew | exact ((Below.refl _ _).drew).alloc (by simp) _) (by simp)); have HBX : Hid (Below (w.heap.size + 1) (w.alloc (.cells #[.slice none 0 0, .slice none 0 0] 40)) w5) := hbx; obtain ⟨x0, x1, x2, x3, x4⟩ := resbox (by omega) hbx; clear hv5 hb5 hbx)
  · go_wp2
    have HBW : Hid (Below w.heap.size w w5) := ((Below.refl _ _).alloc (Nat.le_refl _) _).trans (HBX.out.mono (Nat.le_succ _))
    have hsz : ((w5.setCell ⟨w.heap.size, 0, none⟩ (.slice va5 n vc5)).setCell ⟨w.heap.size, 1, none⟩ (.slice (some ⟨w5.heap.size, 0, none⟩) 0 r)).heap.size = w5.heap.size := by simp
    have hm := made_own (W := (w5.setCell ⟨w.heap.size, 0, none⟩ (.slice va5 n vc5)).setCell ⟨w.heap.size, 1, none⟩ (.slice (some ⟨w5.heap.size, 0, none⟩) 0 r)) (base := w.heap.size) R hZ hr (by rw [hsz]; omega)
    rw [hsz] at hm
    refine bodyPost_ret (v := .agg #[.slice va5 n vc5, .slice (some ⟨w5.heap.size, 0, none⟩) 0 r]) (by simp [results, Tryz.results133, go_sem, x0, x1, x4]) rfl ⟨_, _, rfl, ?_, hm, ⟨_, _, rfl⟩, ⟨_, _, rfl⟩, ?_⟩
    · have hv : StrsFrom w5 (w.heap.size + 1) (.slice va5 n vc5) n C := HV5.out.weaken (by simp)
      refine StrsKept.mono (B := w.heap.size + 1) (T := w5.heap.size) (StrsKept.below (StrsKept.of ((hv.setCell (Nat.lt_succ_self _) _).setCell (Nat.lt_succ_self _) _) (Nat.le_refl _) (by rw [hsz]; exact Nat.le_refl _) (fun k hk => .inr (by rw [hsz]; simp [Value.ownBlock] at hk; omega))) ((Below.refl _ _).alloc (Nat.le_refl _) _)) (Nat.le_succ _) (by simp [hsz])
    · exact ((HBW.out.setCell (Nat.le_refl _) _).setCell (Nat.le_refl _) _).alloc (by rw [hsz]; omega) _
  · go_wp2
    have HBW : Hid (Below w.heap.size w w5) := ((Below.refl _ _).alloc (Nat.le_refl _) _).trans (HBX.out.mono (Nat.le_succ _))
    have hsz : (w.alloc (.cells #[.slice none 0 0, .slice none 0 0] 40)).heap.size = w.heap.size + 1 := by simp
    have hm := made_own (W := w.alloc (.cells #[.slice none 0 0, .slice none 0 0] 40)) (base := w.heap.size + 1) R hZ hr (by rw [hsz]; exact Nat.le_refl _)
    rw [hsz] at hm
    have hm5 : RowsOwn w5 (w.heap.size + 1) (.slice (some ⟨w.heap.size + 1, 0, none⟩) 0 r) 0 R := rows_behind HB5.out rfl hm
    refine bodyPost_ret (v := .agg #[.slice va5 n vc5, .slice (some ⟨w.heap.size + 1, 0, none⟩) 0 r]) (by simp [results, Tryz.results133, go_sem, x0, x1]) rfl ⟨_, _, rfl, ?_, ?_, ⟨_, _, rfl⟩, ⟨_, _, rfl⟩, ?_⟩
    · have hv : StrsFrom w5 (w.heap.size + 2) (.slice va5 n vc5) n C := HV5.out.weaken (by simp)
      exact StrsKept.of ((hv.setCell (by simp) _).setCell (by simp) _) (by omega) (Nat.le_refl _) (fun k hk => .inl (by simp [Value.ownBlock] at hk; omega))
    · exact rows_less ((hm5.setCell (Nat.lt_succ_self _) _).setCell (Nat.lt_succ_self _) _) (Nat.le_succ _)
    · exact (HBW.out.setCell (Nat.le_refl _) _).setCell (Nat.le_refl _) _
end Go.Proofs.YtkcejelmohameaaGreatDoor
set_option linter.unusedVariables false
namespace Go.Proofs.YtkcejelmohameaaGreatDoor
set_option maxRecDepth 100000
open Go.RowKit Go.WideShapes

/-- the map: for each item its number, if it is not 0 -/
def CMap (w : World) (M : Nat) (V : It → Nat) : Prop :=
  ∃ es clock, w.heap[M]? = some (.map es clock) ∧
    (∀ (i : Nat) (e : MapEntry), es[i]? = some e → ∃ x, e.key = itV x ∧ fitI x ∧ V x ≠ 0 ∧ e.val = .int .i64 (V x : Int) ∧ e.born < clock) ∧
    (∀ (i j : Nat) (e e' : MapEntry), es[i]? = some e → es[j]? = some e' → i ≠ j → e.key ≠ e'.key ∧ e.born ≠ e'.born) ∧
    (∀ x, V x ≠ 0 → ∃ (i : Nat) (e : MapEntry), es[i]? = some e ∧ e.key = itV x)
theorem zeroInt (w : World) : (zeroValue 3).run Tryz.prog w = .ok (.int .i64 0) w := by kernel_rfl
theorem CMap.made (w : World) : CMap (w.alloc (.map #[] 0)) w.heap.size (fun _ => 0) :=
  ⟨#[], 0, heap_alloc_new w _, fun i e h => by simp at h, fun i j e e' h => by simp at h, fun x h => absurd rfl h⟩
theorem CMap.keep {w w' : World} {M : Nat} {V : It → Nat} (h : CMap w M V) (hM : w'.heap[M]? = w.heap[M]?) : CMap w' M V := by
  obtain ⟨es, clock, h1, h2⟩ := h
  exact ⟨es, clock, hM.trans h1, h2⟩
theorem CMap.lt {w : World} {M : Nat} {V : It → Nat} (h : CMap w M V) : M < w.heap.size := by
  obtain ⟨es, clock, h1, _⟩ := h
  exact (Array.getElem?_eq_some_iff.1 h1).1
theorem CMap.congr {w : World} {M : Nat} {V V' : It → Nat} (h : CMap w M V) (e : ∀ x, V x = V' x) : CMap w M V' := by
  have : V = V' := funext e
  rw [← this]; exact h
theorem ckeys {es : Array MapEntry} {clock : Nat} {V : It → Nat} (h3 : ∀ (i : Nat) (e : MapEntry), es[i]? = some e → ∃ x, e.key = itV x ∧ fitI x ∧ V x ≠ 0 ∧ e.val = .int .i64 (V x : Int) ∧ e.born < clock) : ∀ e ∈ es.toList, ∃ l, keyOf Tryz.prog 67 e.key = some l := by
  intro e he
  obtain ⟨i, hi⟩ := List.mem_iff_getElem?.1 he
  obtain ⟨x, k1, k2, _⟩ := h3 i e (by simpa using hi)
  rw [k1]
  exact itV_key x k2
theorem CMap.look {w : World} {M : Nat} {V : It → Nat} (h : CMap w M V) {x : It} (hx : fitI x) :
    (Instr.lookup 141 (.map (some M)) (itV x) false).run Tryz.prog w = .ok (.int .i64 (V x : Int)) w := by
  obtain ⟨es, clock, h1, h3, h4, h5⟩ := h
  obtain ⟨l, hk⟩ := itV_key x hx
  rcases itemLaw.find w hk es.toList (ckeys h3) with ⟨f1, f2⟩ | ⟨j, e0, f1, f2, f3⟩
  · have hV : V x = 0 := Classical.byContradiction fun hne => by
      obtain ⟨i, e, k1, k2⟩ := h5 x hne
      exact f2 e (List.mem_iff_getElem?.2 ⟨i, by simpa using k1⟩) k2
    simp [Instr.lookup, run_underlying Tryz.underlying141, MapKept.run_getObj_map h1, itemLaw.check w _ hk, f1, zeroInt w, Result.andThen, hV]
  · obtain ⟨y, k1, k2, k3, k4, _⟩ := h3 j e0 (by simpa using f2)
    have e : y = x := itV_inj (k1.symm.trans f3)
    subst e
    simp [Instr.lookup, run_underlying Tryz.underlying141, MapKept.run_getObj_map h1, itemLaw.check w _ hk, f1, Result.andThen, k4]
/-- only the map's block is turned -/
def TurnedC (w w' : World) (M : Nat) : Prop := w'.heap.size = w.heap.size ∧ (∀ c, c ≠ M → w'.heap[c]? = w.heap[c]?) ∧ w'.os = w.os ∧ w'.tape = w.tape ∧ w'.output = w.output
theorem turnedC_set {w : World} {M : Nat} {es : Array MapEntry} {clock : Nat} (h : w.heap[M]? = some (.map es clock)) (o : Obj) : TurnedC w (ChangeMaps.setBlock w M o) M :=
  ⟨by simp [ChangeMaps.setBlock], fun c hc => ChangeMaps.heap_setBlock_other h o hc, rfl, rfl, rfl⟩
theorem cstore {w2 : World} {M i clock1 N : Nat} {es1 : Array MapEntry} {V : It → Nat} {x : It} {e1 : MapEntry} (hx : fitI x) (hN : N ≠ 0)
    (hM2 : w2.heap[M]? = some (.map es1 clock1)) (hi : es1[i]? = some e1) (hk1 : e1.key = itV x) (hb1 : e1.born < clock1)
    (hA : ∀ (j : Nat) (e : MapEntry), es1[j]? = some e → j ≠ i → ∃ y, e.key = itV y ∧ fitI y ∧ V y ≠ 0 ∧ e.val = .int .i64 (V y : Int) ∧ e.born < clock1)
    (hC : ∀ (j k : Nat) (e e' : MapEntry), es1[j]? = some e → es1[k]? = some e' → j ≠ k → e.key ≠ e'.key ∧ e.born ≠ e'.born)
    (hD : ∀ y, y ≠ x → V y ≠ 0 → ∃ (j : Nat) (e : MapEntry), es1[j]? = some e ∧ e.key = itV y) :
    ∃ w3, (Instr.entryStore 141 (.map (some M)) (.int .i64 (e1.born : Int)) (.int .i64 (N : Int))).run Tryz.prog w2 = .ok () w3 ∧ CMap w3 M (fun y => if itB y x = true then N else V y) ∧ TurnedC w2 w3 M := by
  have hf : es1.findIdx? (fun e => (e.born : Int) == (e1.born : Int)) = some i := by
    rw [Array.findIdx?_eq_some_iff_getElem]
    obtain ⟨hil, hie⟩ := Array.getElem?_eq_some_iff.1 hi
    refine ⟨hil, by rw [hie]; simp, fun j hj => ?_⟩
    have h := (hC j i es1[j] e1 (Array.getElem?_eq_getElem (by omega)) hi (by omega)).2
    simp
    omega
  have hT := turnedC_set hM2 (.map (es1.modify i fun e => { e with val := .int .i64 (N : Int) }) clock1)
  have hB : itB x x = true := itB_iff.2 rfl
  refine ⟨_, ?_, ⟨es1.modify i fun e => { e with val := .int .i64 (N : Int) }, clock1, ChangeMaps.heap_setBlock_same hM2 _, ?_, ?_, ?_⟩, hT⟩
  · simp [Instr.entryStore, MapKept.run_getObj_map hM2, asInt, asIntOf, hf, MapKept.run_setObj_map _ hM2, Result.andThen, ChangeMaps.setBlock]
  · intro j e he
    rw [Array.getElem?_modify] at he
    by_cases hj : i = j
    · subst hj
      rw [if_pos rfl, hi] at he
      simp at he
      subst he
      exact ⟨x, hk1, hx, by simpa [hB] using hN, by simp [hB], hb1⟩
    · rw [if_neg hj] at he
      obtain ⟨y, q1, q2, q3, q4, q5⟩ := hA j e he (fun h => hj h.symm)
      have hyx : itB y x = false := by
        cases h : itB y x
        · rfl
        · exact absurd (by rw [q1, hk1, itB_iff.1 h]) (hC j i e e1 he hi (fun h => hj h.symm)).1
      exact ⟨y, q1, q2, by simpa [hyx] using q3, by simpa [hyx] using q4, q5⟩
  · intro j k e e' he he' hjk
    rw [Array.getElem?_modify] at he he'
    by_cases hj : i = j
    · subst hj
      rw [if_pos rfl, hi] at he
      rw [if_neg hjk] at he'
      simp at he
      subst he
      exact hC i k e1 e' hi he' hjk
    · rw [if_neg hj] at he
      by_cases hk : i = k
      · subst hk
        rw [if_pos rfl, hi] at he'
        simp at he'
        subst he'
        exact hC j i e e1 he hi hjk
      · rw [if_neg hk] at he'
        exact hC j k e e' he he' hjk
  · intro y hy
    by_cases hyx : y = x
    · subst hyx
      exact ⟨i, { e1 with val := .int .i64 (N : Int) }, by rw [Array.getElem?_modify, if_pos rfl, hi]; rfl, hk1⟩
    · have hB : itB y x = false := by
        cases h : itB y x
        · rfl
        · exact absurd (itB_iff.1 h) hyx
      have hy' : V y ≠ 0 := by simpa [hB] using hy
      obtain ⟨j, e, q1, q2⟩ := hD y hyx hy'
      have hj : i ≠ j := by
        rintro rfl
        rw [hi] at q1
        cases q1
        exact hyx (itV_inj (q2.symm.trans hk1))
      exact ⟨j, e, by rw [Array.getElem?_modify, if_neg hj]; exact q1, q2⟩
theorem CMap.entry {w : World} {M : Nat} {V : It → Nat} (h : CMap w M V) {x : It} (hx : fitI x) :
    ∃ (stamp : Int) (w1 : World), (Instr.mapEntry 141 (.map (some M)) (itV x)).run Tryz.prog w = .ok (.tuple #[.int .i64 (V x : Int), .int .i64 stamp]) w1 ∧ TurnedC w w1 M ∧ (Instr.lookup 141 (.map (some M)) (itV x) false).run Tryz.prog w1 = .ok (.int .i64 (V x : Int)) w1 ∧
      ∀ (w2 : World) (N : Nat), N ≠ 0 → w2.heap[M]? = w1.heap[M]? →
        ∃ w3, (Instr.entryStore 141 (.map (some M)) (.int .i64 stamp) (.int .i64 (N : Int))).run Tryz.prog w2 = .ok () w3 ∧ CMap w3 M (fun y => if itB y x = true then N else V y) ∧ TurnedC w2 w3 M := by
  obtain ⟨es, clock, h1, h3, h4, h5⟩ := h
  obtain ⟨l, hk⟩ := itV_key x hx
  rcases itemLaw.find w hk es.toList (ckeys h3) with ⟨f1, f2⟩ | ⟨j, e0, f1, f2, f3⟩
  · have hV : V x = 0 := Classical.byContradiction fun hne => by
      obtain ⟨i, e, k1, k2⟩ := h5 x hne
      exact f2 e (List.mem_iff_getElem?.2 ⟨i, by simpa using k1⟩) k2
    have hT := turnedC_set h1 (.map (es.push { key := itV x, val := .int .i64 0, born := clock }) (clock + 1))
    refine ⟨(clock : Int), _, ?_, hT, ?_, ?_⟩
    rotate_left
    · have h1' := ChangeMaps.heap_setBlock_same h1 (.map (es.push { key := itV x, val := .int .i64 0, born := clock }) (clock + 1))
      have hkeys : ∀ e ∈ (es.push { key := itV x, val := .int .i64 0, born := clock }).toList, ∃ l, keyOf Tryz.prog 67 e.key = some l := fun e he => by
        rw [Array.toList_push] at he
        rcases List.mem_append.1 he with he | he
        · exact ckeys h3 e he
        · rw [List.mem_singleton.1 he]; exact itV_key x hx
      rcases itemLaw.find (ChangeMaps.setBlock w M (.map (es.push { key := itV x, val := .int .i64 0, born := clock }) (clock + 1))) hk _ hkeys with ⟨g1, g2⟩ | ⟨j, e0, g1, g2, g3⟩
      · exact absurd rfl (g2 { key := itV x, val := .int .i64 0, born := clock } (by simp))
      · have hv0 : e0.val = .int .i64 0 := by
          have hm : e0 ∈ (es.push { key := itV x, val := .int .i64 0, born := clock }).toList := List.mem_iff_getElem?.2 ⟨j, g2⟩
          rw [Array.toList_push] at hm
          rcases List.mem_append.1 hm with hm | hm
          · exact absurd g3 (f2 e0 hm)
          · rw [List.mem_singleton.1 hm]
        rw [hV]
        rw [Array.toList_push] at g1
        simp [Instr.lookup, run_underlying Tryz.underlying141, MapKept.run_getObj_map h1', itemLaw.check _ _ hk, g1, Result.andThen, hv0]
    rotate_left
    · rw [hV]
      simp [Instr.mapEntry, run_underlying Tryz.underlying141, MapKept.run_getObj_map h1, itemLaw.check w _ hk, f1, zeroInt w, MapKept.run_setObj_map _ h1, Result.andThen, ChangeMaps.setBlock, goInt]
    · intro w2 N hN q1
      have hA' : ∀ (i : Nat) (e : MapEntry), (es.push { key := itV x, val := .int .i64 0, born := clock })[i]? = some e → i ≠ es.size → es[i]? = some e := fun i e he hne => by
        rw [Array.getElem?_push, if_neg hne] at he
        exact he
      have hlast : (es.push { key := itV x, val := .int .i64 0, born := clock })[es.size]? = some { key := itV x, val := .int .i64 0, born := clock } := by simp
      have hne : ∀ (i : Nat) (e : MapEntry), es[i]? = some e → e.key ≠ itV x := fun i e he => f2 e (List.mem_iff_getElem?.2 ⟨i, by simpa using he⟩)
      refine cstore (i := es.size) (e1 := { key := itV x, val := .int .i64 0, born := clock }) hx hN (q1.trans (ChangeMaps.heap_setBlock_same h1 _)) hlast rfl (Nat.lt_succ_self _) ?_ ?_ ?_
      · intro i e he hi
        obtain ⟨y, r1, r2, r3, r4, r5⟩ := h3 i e (hA' i e he hi)
        exact ⟨y, r1, r2, r3, r4, by omega⟩
      · intro i k e e' he he' hik
        by_cases hi : i = es.size
        · subst hi
          rw [hlast] at he
          cases he
          have he2 := hA' k e' he' (fun h => hik h.symm)
          obtain ⟨y, _, _, _, _, r5⟩ := h3 k e' he2
          exact ⟨fun h => hne k e' he2 h.symm, by show clock ≠ e'.born; omega⟩
        · have he1 := hA' i e he hi
          by_cases hkk : k = es.size
          · subst hkk
            rw [hlast] at he'
            cases he'
            obtain ⟨y, _, _, _, _, r5⟩ := h3 i e he1
            exact ⟨hne i e he1, by show e.born ≠ clock; omega⟩
          · exact h4 i k e e' he1 (hA' k e' he' hkk) hik
      · intro y hy hVy
        obtain ⟨i, e, r1, r2⟩ := h5 y hVy
        have hil := (Array.getElem?_eq_some_iff.1 r1).1
        exact ⟨i, e, by rw [Array.getElem?_push, if_neg (by omega)]; exact r1, r2⟩
  · have hj : es[j]? = some e0 := by simpa using f2
    obtain ⟨y, k1, k2, k3, k4, k5⟩ := h3 j e0 hj
    have e : y = x := itV_inj (k1.symm.trans f3)
    subst e
    have hsame : es.modify j (fun e => { e with key := itV y }) = es := by
      apply Array.ext_getElem?
      intro i
      rw [Array.getElem?_modify]
      by_cases hi : j = i
      · subst hi
        rw [if_pos rfl, hj]
        simp [← f3]
      · rw [if_neg hi]
    have hT := turnedC_set h1 (.map es clock)
    refine ⟨(e0.born : Int), ChangeMaps.setBlock w M (.map es clock), ?_, hT, CMap.look (⟨es, clock, ChangeMaps.heap_setBlock_same h1 _, h3, h4, h5⟩ : CMap _ M V) hx, ?_⟩
    · have hst := itemLaw.stays w hk
      simp [Instr.mapEntry, run_underlying Tryz.underlying141, MapKept.run_getObj_map h1, itemLaw.check w _ hk, f1, hj, f3, hst, hsame, MapKept.run_setObj_map _ h1, Result.andThen, ChangeMaps.setBlock, goInt, k4]
    · intro w2 N hN q1
      refine cstore (i := j) (e1 := e0) hx hN (q1.trans (ChangeMaps.heap_setBlock_same h1 _)) hj f3 k5 ?_ h4 (fun z hz hV => h5 z hV)
      intro i e' he hi
      exact h3 i e' he
end Go.Proofs.YtkcejelmohameaaGreatDoor
