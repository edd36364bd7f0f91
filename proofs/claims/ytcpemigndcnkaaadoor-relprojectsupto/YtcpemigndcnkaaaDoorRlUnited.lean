/-
  CONTRACT of the document's answer on unions (UnitedOf).
-/
import Derived.Test.YtcpemigndcnkaaaDoorRlOf
set_option linter.unusedVariables false
namespace Go.Proofs.YtcpemigndcnkaaaDoor
set_option maxRecDepth 100000
open Go.RowKit Go.WideShapes

/-- the same columns? -/
def colsB (C C' : Nat → ByteArray) (n n' : Nat) : Bool := decide (n = n') && (List.range n).all fun i => (C i).toList == (C' i).toList
theorem colsB_len {C C' : Nat → ByteArray} {n n' : Nat} (h : n ≠ n') : colsB C C' n n' = false := by unfold colsB; rw [decide_eq_false h]; rfl
theorem colsB_no {C C' : Nat → ByteArray} {n k : Nat} (hk : k < n) (h : ((C k).toList == (C' k).toList) = false) : colsB C C' n n = false := by
  unfold colsB
  rw [Bool.and_eq_false_iff]
  right
  rw [List.all_eq_false]
  exact ⟨k, List.mem_range.2 hk, by simp [h]⟩
theorem colsB_yes {C C' : Nat → ByteArray} {n : Nat} (h : ∀ k, k < n → ((C k).toList == (C' k).toList) = true) : colsB C C' n n = true := by
  unfold colsB
  rw [decide_eq_true rfl, Bool.true_and, List.all_eq_true]
  exact fun k hk => h k (List.mem_range.1 hk)
/-- what is said of a union -/
def unF (C : Nat → ByteArray) (n : Nat) (R : Nat → Row) (m : Nat) (C' : Nat → ByteArray) (n' : Nat) (R' : Nat → Row) (m' : Nat) : Int :=
  if twoF (relF C n R m) (relF C' n' R' m') = 0 then (if colsB C C' n n' = true then madeF C n (m + m') else 9) else twoF (relF C n R m) (relF C' n' R' m')
/-- its rows -/
def unR (R R' : Nat → Row) (m i : Nat) : Row := if i < m then R i else R' (i - m)
theorem relF_zero {C : Nat → ByteArray} {n : Nat} {R : Nat → Row} {m : Nat} (h : relF C n R m = 0) : colsF C n = 0 ∧ m ≤ 1000000 ∧ ∀ i, i < m → rowE n R i = 0 := by
  by_cases h1 : madeF C n m = 0
  · have h2 : colsF C n = 0 := Classical.byContradiction fun h3 => by rw [madeF_cols h3] at h1; exact h3 h1
    refine ⟨h2, ?_, ?_⟩
    · rw [madeF_rows h2] at h1
      by_cases h3 : 1000000 < m
      · rw [if_pos h3] at h1; cases h1
      · omega
    · unfold relF at h
      rw [if_pos h1] at h
      exact firstE_zero h
  · rw [relF_made h1] at h
    exact absurd h h1
theorem twoF_zero {F G : Int} (h : twoF F G = 0) : F = 0 ∧ G = 0 := by
  unfold twoF at h
  by_cases h1 : F = 0
  · rw [if_pos h1] at h; exact ⟨h1, h⟩
  · rw [if_neg h1] at h; exact absurd h h1
theorem colsF_le {C : Nat → ByteArray} {n : Nat} (h : colsF C n = 0) : n ≤ 8 := by
  unfold colsF at h
  by_cases h8 : 8 < n
  · rw [if_pos h8] at h; cases h
  · omega

/-- two relations were boxed, and a place made for the result -/
theorem box3 {w wr : World} {c q c' q' x y : Value} {T : TypeId} (h : Below (w.heap.size + 3) (((w.alloc (.cells #[c, q] T)).alloc (.cells #[c', q'] T)).alloc (.cells #[x, y] T)) wr) :
    wr.cell? ⟨w.heap.size, 0, none⟩ = some c ∧ wr.cell? ⟨w.heap.size, 1, none⟩ = some q ∧ wr.cell? ⟨w.heap.size + 1, 0, none⟩ = some c' ∧ wr.cell? ⟨w.heap.size + 1, 1, none⟩ = some q' ∧
    wr.cell? ⟨w.heap.size + 1 + 1, 0, none⟩ = some x ∧ wr.cell? ⟨w.heap.size + 1 + 1, 1, none⟩ = some y ∧ wr.frozen? ⟨w.heap.size + 1 + 1, 0, none⟩ = false ∧ wr.frozen? ⟨w.heap.size + 1 + 1, 1, none⟩ = false ∧ w.heap.size + 1 + 1 < wr.heap.size := by
  have hz : ((w.alloc (.cells #[c, q] T)).alloc (.cells #[c', q'] T)).heap.size = w.heap.size + 1 + 1 := by simp
  have h2 : Below ((w.alloc (.cells #[c, q] T)).alloc (.cells #[c', q'] T)).heap.size ((w.alloc (.cells #[c, q] T)).alloc (.cells #[c', q'] T)) wr := ((Below.refl _ _).alloc (Nat.le_refl _) _).trans (h.mono (by rw [hz]; omega))
  obtain ⟨x0, x1, x2, x3, x4⟩ := box22 h2
  have h3 := resbox (w := (w.alloc (.cells #[c, q] T)).alloc (.cells #[c', q'] T)) (B := w.heap.size + 3) (by rw [hz]; omega) h
  rw [hz] at h3
  exact ⟨x0, x1, x2, x3, h3⟩
theorem below_three {w : World} (o o' o'' : Obj) : Below w.heap.size w (((w.alloc o).alloc o').alloc o'') := (below_two o o').alloc (by simp; omega) _
theorem size_three {w : World} (o o' o'' : Obj) : (((w.alloc o).alloc o').alloc o'').heap.size = w.heap.size + 3 := by simp

set_option maxHeartbeats 6400000 in
theorem united_is (c q c' q' : Value) (n m n' m' : Nat) (C C' : Nat → ByteArray) (R R' : Nat → Row) (w : World) (hc : StrsIs w c n C) (hq : RowsIs w q m R) (hf : StrsFine n C) (hg : RowsFine m R) (hc' : StrsIs w c' n' C') (hq' : RowsIs w q' m' R') (hf' : StrsFine n' C') (hg' : RowsFine m' R') (hT : Tabs w) :
    Calls Tryd.prog 19 #[.agg #[c, q], .agg #[c', q']] w fun e w' => ∃ c1 q1, e = .returned (.tuple #[.agg #[c1, q1], .int .i64 (unF C n R m C' n' R' m')]) ∧ StrsIs w' c1 (okN (unF C n R m C' n' R' m') n) C ∧ RowsIs w' q1 (okN (unF C n R m C' n' R' m') (m + m')) (unR R R' m) ∧ Below w.heap.size w w' := by
  have C1 : Hid (∀ o o' o'', Calls Tryd.prog 38 #[.agg #[c, q], .agg #[c', q']] (((w.alloc o).alloc o').alloc o'') fun e w' => e = .returned (.int .i64 (twoF (relF C n R m) (relF C' n' R' m'))) ∧ Below (w.heap.size + 3) (((w.alloc o).alloc o').alloc o'') w') := fun o o' o'' => by
    have h := twoFault_is c q c' q' n m n' m' C C' R R' _ (hc.below (below_three o o' o'')) (hq.below (below_three o o' o'')) hf hg (hc'.below (below_three o o' o'')) (hq'.below (below_three o o' o'')) hf' hg' (Utf8Tabs_below hT (below_three o o' o''))
    rwa [size_three] at h
  have HW : Hid (∀ {W : World} {o o' o'' : Obj}, Below (w.heap.size + 3) (((w.alloc o).alloc o').alloc o'') W → Below w.heap.size w W) := fun h => (below_three _ _ _).trans (h.mono (by omega))
  have HC : Hid (∀ W, Below w.heap.size w W → StrsIs W c n C ∧ StrsIs W c' n' C') := fun W hW => ⟨hc.below hW, hc'.below hW⟩
  have HF : Hid (StrsFine n C) := hf
  obtain ⟨qa, qcap, rfl, q1, q2, _, q3⟩ := hq
  obtain ⟨qa', qcap', rfl, q1', q2', _, q3'⟩ := hq'
  have hmm : m ≤ 9223372036854775807 := by unfold maxLen at q2; omega
  have hmm' : m' ≤ 9223372036854775807 := by unfold maxLen at q2'; omega
  have HQ : Hid (∀ W i, Below w.heap.size w W → i < m → ∃ b off u, qa = some ⟨b, off, none⟩ ∧ b < w.heap.size ∧ W.cell? ⟨b, off + i, none⟩ = some u ∧ ItsIs W u (unR R R' m i).len (unR R R' m i).at_ ∧ (unR R R' m i).len * 32 ≤ 140737488351232) := fun W i hW hi => by
    obtain ⟨b, off, h1, h2, h3⟩ := q3 (by omega)
    obtain ⟨u, h4, h5⟩ := h3 i hi
    rw [show unR R R' m i = R i from if_pos hi]
    exact ⟨b, off, u, h1, h2, (hW.cell (p := ⟨b, off + i, none⟩) h2).trans h4, h5.below hW, (hg.2 i hi).1⟩
  have HQ' : Hid (∀ W i, Below w.heap.size w W → i < m' → ∃ b off u, qa' = some ⟨b, off, none⟩ ∧ b < w.heap.size ∧ W.cell? ⟨b, off + i, none⟩ = some u ∧ ItsIs W u (unR R R' m (m + i)).len (unR R R' m (m + i)).at_ ∧ (unR R R' m (m + i)).len * 32 ≤ 140737488351232) := fun W i hW hi => by
    obtain ⟨b, off, h1, h2, h3⟩ := q3' (by omega)
    obtain ⟨u, h4, h5⟩ := h3 i hi
    rw [show unR R R' m (m + i) = R' i by unfold unR; rw [if_neg (by omega), show m + i - m = i by omega]]
    exact ⟨b, off, u, h1, h2, (hW.cell (p := ⟨b, off + i, none⟩) h2).trans h4, h5.below hW, (hg'.2 i hi).1⟩
  obtain ⟨ca, ccap, rfl, c1, c2, _, c3⟩ := hc
  obtain ⟨ca', ccap', rfl, c1', c2', _, c3'⟩ := hc'
  have hnn : n ≤ 9223372036854775807 := by unfold maxLen at c2; omega
  have hnn' : n' ≤ 9223372036854775807 := by unfold maxLen at c2'; omega
  have HCC : Hid (∀ W i, Below w.heap.size w W → i < n → n = n' → ∃ b off b' off', ca = some ⟨b, off, none⟩ ∧ ca' = some ⟨b', off', none⟩ ∧ b < w.heap.size ∧ b' < w.heap.size ∧ W.cell? ⟨b, off + i, none⟩ = some (.string (C i)) ∧ W.cell? ⟨b', off' + i, none⟩ = some (.string (C' i))) := fun W i hW hi hnn => by
    obtain ⟨b, off, h1, h2, h3⟩ := c3 (by omega)
    obtain ⟨b', off', h1', h2', h3'⟩ := c3' (by omega)
    exact ⟨b, off, b', off', h1, h1', h2, h2', (hW.cell (p := ⟨b, off + i, none⟩) h2).trans (h3 i hi), (hW.cell (p := ⟨b', off' + i, none⟩) h2').trans (h3' i (by omega))⟩
  clear hf hg hf' hg' hT q2 q2' q3 q3' c2 c2' c3 c3'
  by_cases h0 : twoF (relF C n R m) (relF C' n' R' m') = 0
  · obtain ⟨k1, k2⟩ := twoF_zero h0
    obtain ⟨k3, k4, _⟩ := relF_zero k1
    obtain ⟨_, k5, _⟩ := relF_zero k2
    have hn8 := colsF_le k3
    rw [h0] at C1
    by_cases hln : n = n'
    · subst hln
      have hne : ((n : Int) != (n : Int)) = false := by simp
      have HUF : Hid (unF C n R m C' n R' m' = if colsB C C' n n = true then madeF C n (m + m') else 9) := if_pos h0
      clear h0 k1 k2 k3
      generalize unF C n R m C' n R' m' = F at *
      go_enter Tryd.func19, Tryd.ntmps19
      go_wp2_with (first | (go_at_call 38; refine (C1.out _ _ _).mono ?_; rintro e w1 ⟨rfl, hb1⟩; have HB1 : Hid (Below (w.heap.size + 3) _ w1) := hb1; obtain ⟨x0, x1, x2, x3, x4, x5, x6, x7, x8⟩ := box3 hb1; clear hb1))
      go_loopw [7] (fun i wr => ∃ k : Nat, k ≤ n ∧ i = .int .i64 k ∧ (∀ j, j < k → ((C j).toList == (C' j).toList) = true) ∧ Below (w.heap.size + 3) (((w.alloc (.cells #[.slice ca n ccap, .slice qa m qcap] 25)).alloc (.cells #[.slice ca' n ccap', .slice qa' m' qcap'] 25)).alloc (.cells #[.slice none 0 0, .slice none 0 0] 25)) wr) (fun i _ => n - (intOf i).toNat)
      case atStart => exact ⟨0, Nat.zero_le _, rfl, fun j hj => by omega, HB1.out⟩
      case round =>
        obtain ⟨k, hk, rfl, hok, hbr⟩ := hrel
        clear x0 x1 x2 x3 x4 x5 x6 x7 x8
        obtain ⟨x0, x1, x2, x3, x4, x5, x6, x7, x8⟩ := box3 hbr
        have HOK : Hid (∀ j, j < k → ((C j).toList == (C' j).toList) = true) := hok
        have HBR : Hid (Below (w.heap.size + 3) (((w.alloc (.cells #[.slice ca n ccap, .slice qa m qcap] 25)).alloc (.cells #[.slice ca' n ccap', .slice qa' m' qcap'] 25)).alloc (.cells #[.slice none 0 0, .slice none 0 0] 25)) wr) := hbr
        have HBW : Hid (Below w.heap.size w wr) := HW.out hbr
        clear hok hbr
        by_cases hlt : k < n
        · obtain ⟨b, off, b', off', rfl, rfl, hb0, hb0', e1, e2⟩ := HCC.out wr k HBW.out hlt (by first | rfl | trivial)
          have hbz : b < wr.heap.size := by omega
          have hbz' : b' < wr.heap.size := by omega
          have hki : (k : Int) < (n : Int) := by omega
          cases hs : ((C k).toList == (C' k).toList)
          · have HFF : Hid (F = 9) := by
              have h : F = 9 := by rw [HUF.out, colsB_no hlt hs]; rfl
              exact h
            go_wp2
            go_quiet (fail)
            go_wp2
            refine bodyPost_ret (v := .tuple #[.agg #[.slice none 0 0, .slice none 0 0], .int .i64 9]) (by simp [results, Tryd.results19, go_sem, x4, x5]) rfl ⟨_, _, by rw [HFF.out], ?_, ?_, ((below_drawn HBW.out _).setCell (by simp; omega) _).setCell (by simp; omega) _⟩
            · rw [HFF.out]; exact nil_strs _ _
            · rw [HFF.out]; exact nil_rows _ _
          · have HS : Hid (((C k).toList == (C' k).toList) = true) := hs
            go_wp2
            go_quiet (fail)
            go_wp2
            go_roundw
            case rel =>
              refine ⟨k + 1, by omega, by go_num, fun j hj => ?_, below_drawn HBR.out _⟩
              by_cases e : j = k
              · rw [e]; exact HS.out
              · exact HOK.out j (by omega)
            case measure => simp [intOf]; omega
        · have e : k = n := by omega
          subst e
          have HFF : Hid (F = madeF C k (m + m')) := by
            have h : F = madeF C k (m + m') := by rw [HUF.out, colsB_yes HOK.out]; rfl
            exact h
          have hmi : ((m + m' : Nat) : Int) ≤ 2000000 := by omega
          go_wp2
          go_loopw [8, 9] (fun v i wr => ∃ j : Nat, j ≤ m + m' ∧ i = .int .i64 j ∧ RowsOwn wr (w.heap.size + 3) v j (unR R R' m) ∧ Below (w.heap.size + 3) (((w.alloc (.cells #[.slice ca k ccap, .slice qa m qcap] 25)).alloc (.cells #[.slice ca' k ccap', .slice qa' m' qcap'] 25)).alloc (.cells #[.slice none 0 0, .slice none 0 0] 25)) wr) (fun _ i _ => m + m' - (intOf i).toNat)
          case atStart => exact ⟨0, Nat.zero_le _, rfl, RowsOwn.nil _ _ _, HBR.out⟩
          case round =>
            obtain ⟨j, hj, rfl, hrow, hbr⟩ := hrel
            clear x0 x1 x2 x3 x4 x5 x6 x7 x8
            obtain ⟨x0, x1, x2, x3, x4, x5, x6, x7, x8⟩ := box3 hbr
            obtain ⟨ra, rc, rfl⟩ := hrow.shape
            have HROW : Hid (RowsOwn wr (w.heap.size + 3) (.slice ra j rc) j (unR R R' m)) := hrow
            have HB2 : Hid (Below (w.heap.size + 3) (((w.alloc (.cells #[.slice ca k ccap, .slice qa m qcap] 25)).alloc (.cells #[.slice ca' k ccap', .slice qa' m' qcap'] 25)).alloc (.cells #[.slice none 0 0, .slice none 0 0] 25)) wr) := hbr
            have HBW2 : Hid (Below w.heap.size w wr) := HW.out hbr
            clear hrow hbr
            by_cases hjl : j < m + m'
            · by_cases hjm : j < m
              · obtain ⟨b, off, u, rfl, hb0, e1, hu, hu32⟩ := HQ.out wr j HBW2.out hjm
                have hbz : b < wr.heap.size := by omega
                have hji : (j : Int) < (m : Int) := by omega
                have HU : Hid (ItsIs wr u (unR R R' m j).len (unR R R' m j).at_) := hu
                obtain ⟨ua, ucap, rfl, _⟩ := hu
                go_wp2_with (first | (go_at_call 34; refine (items_one wr.heap.size 0 1 (.slice ua (unR R R' m j).len ucap) (unR R R' m j).len (unR R R' m j).at_ _ (Nat.le_refl _) (by unfold maxLen; omega) (by simp) (by simp) (HU.out.alloc _) hu32).mono ?_; rintro e w5 ⟨v5, rfl, hi5, hsh5, hb5⟩; obtain ⟨va5, vc5, rfl⟩ := hsh5; have HI5 : Hid (ItsApart w5 (w.heap.size + 3) (Value.slice ra j rc).ownBlock (.slice va5 (unR R R' m j).len vc5) (unR R R' m j).len (unR R R' m j).at_) := hi5.weaken (by simp; omega) (fun z hz => by have := (HROW.out.lt z hz).2; simp; omega); have HR5 : Hid (RowsOwn w5 (w.heap.size + 3) (.slice ra j rc) j (unR R R' m)) := (HROW.out.alloc _).below hb5; have HB5 : Hid (Below (w.heap.size + 3) wr w5) := ((Below.refl _ _).alloc (by omega) _).trans (hb5.mono (by simp; omega)); have hz5 : w.heap.size + 3 ≤ w5.heap.size := (by have := HB5.out.size; omega); clear hi5 hb5) |
                  (at_builtin; refine wpList_push_row rfl (.tmp 79) (.tmp 81) rfl (w.heap.size + 3) j (.slice ra j rc) (unR R R' m) rfl (HR5.out.alloc _) (by simp; omega) ⟨w5.heap.size, 0, none⟩ 1 (.slice va5 (unR R R' m j).len vc5) rfl (by simp) (HI5.out.alloc _) (by omega) ?_; intro v6 w6 hr6 hsh6 hg6; obtain ⟨va6, vc6, rfl⟩ := hsh6; have HR6 : Hid (RowsOwn w6 (w.heap.size + 3) (.slice va6 (j + 1) vc6) (j + 1) (unR R R' m)) := hr6; have HB6 : Hid (Below (w.heap.size + 3) wr w6) := (HB5.out.alloc (by omega) _).grown hg6 (by simp; omega) (fun z hz => (HROW.out.lt z hz).1); clear hr6 hg6))
                go_roundw
                case rel => exact ⟨j + 1, by omega, by go_num, HR6.out, HB2.out.trans HB6.out⟩
                case measure => simp [intOf]; omega
              · obtain ⟨i, rfl⟩ : ∃ i, j = m + i := ⟨j - m, by omega⟩
                obtain ⟨b, off, u, rfl, hb0, e1, hu, hu32⟩ := HQ'.out wr i HBW2.out (by omega)
                have hbz : b < wr.heap.size := by omega
                have hji : ¬ ((m : Int) + (i : Int) < (m : Int)) := by omega
                have hii : (i : Int) < (m' : Int) := by omega
                have HU : Hid (ItsIs wr u (unR R R' m (m + i)).len (unR R R' m (m + i)).at_) := hu
                obtain ⟨ua, ucap, rfl, _⟩ := hu
                go_wp2_with (first | (go_at_call 34; refine (items_one wr.heap.size 0 1 (.slice ua (unR R R' m (m + i)).len ucap) (unR R R' m (m + i)).len (unR R R' m (m + i)).at_ _ (Nat.le_refl _) (by unfold maxLen; omega) (by simp) (by simp) (HU.out.alloc _) hu32).mono ?_; rintro e w5 ⟨v5, rfl, hi5, hsh5, hb5⟩; obtain ⟨va5, vc5, rfl⟩ := hsh5; have HI5 : Hid (ItsApart w5 (w.heap.size + 3) (Value.slice ra (m + i) rc).ownBlock (.slice va5 (unR R R' m (m + i)).len vc5) (unR R R' m (m + i)).len (unR R R' m (m + i)).at_) := hi5.weaken (by simp; omega) (fun z hz => by have := (HROW.out.lt z hz).2; simp; omega); have HR5 : Hid (RowsOwn w5 (w.heap.size + 3) (.slice ra (m + i) rc) (m + i) (unR R R' m)) := (HROW.out.alloc _).below hb5; have HB5 : Hid (Below (w.heap.size + 3) wr w5) := ((Below.refl _ _).alloc (by omega) _).trans (hb5.mono (by simp; omega)); have hz5 : w.heap.size + 3 ≤ w5.heap.size := (by have := HB5.out.size; omega); clear hi5 hb5) |
                  (at_builtin; refine wpList_push_row rfl (.tmp 79) (.tmp 81) rfl (w.heap.size + 3) (m + i) (.slice ra (m + i) rc) (unR R R' m) rfl (HR5.out.alloc _) (by simp; omega) ⟨w5.heap.size, 0, none⟩ 1 (.slice va5 (unR R R' m (m + i)).len vc5) rfl (by simp) (HI5.out.alloc _) (by omega) ?_; intro v6 w6 hr6 hsh6 hg6; obtain ⟨va6, vc6, rfl⟩ := hsh6; have HR6 : Hid (RowsOwn w6 (w.heap.size + 3) (.slice va6 (m + i + 1) vc6) (m + i + 1) (unR R R' m)) := hr6; have HB6 : Hid (Below (w.heap.size + 3) wr w6) := (HB5.out.alloc (by omega) _).grown hg6 (by simp; omega) (fun z hz => (HROW.out.lt z hz).1); clear hr6 hg6))
                go_roundw
                case rel => exact ⟨m + i + 1, by omega, by go_num, HR6.out, HB2.out.trans HB6.out⟩
                case measure => simp [intOf]; omega
            · have e : j = m + m' := by omega
              subst e
              have HCR := relOf_is (.slice ca k ccap) (.slice ra (m + m') rc) k (m + m') C (unR R R' m) wr (HC.out wr HBW2.out).1 HROW.out.is HF.out
              have hnl : ¬ ((m : Int) + (m' : Int) < (m : Int) + (m' : Int)) := by omega
              by_cases hF0 : madeF C k (m + m') = 0
              · have HF0 : Hid (F = 0) := HFF.out.trans hF0
                rw [hF0] at HCR
                have HR : Hid (Calls Tryd.prog 28 #[.slice ca k ccap, .slice ra (m + m') rc] wr fun e w' => ∃ c' q', e = .returned (.tuple #[.agg #[c', q'], .int .i64 0]) ∧ StrsFrom w' wr.heap.size c' (okN 0 k) C ∧ q' = keptV 0 (.slice ra (m + m') rc) ∧ Below wr.heap.size wr w') := HCR
                clear HCR hF0
                go_wp2_with (first | (go_at_call 28; refine HR.out.mono ?_; rintro e w5 ⟨c5, q5, rfl, hc5, hq5, hb5⟩; have hq6 : q5 = .slice ra (m + m') rc := hq5; subst hq6; have HC5 : Hid (StrsFrom w5 (w.heap.size + 3) c5 k C) := StrsFrom.weaken hc5 (by omega); have HR5 : Hid (RowsOwn w5 (w.heap.size + 3) (.slice ra (m + m') rc) (m + m') (unR R R' m)) := HROW.out.below hb5; have HB5 : Hid (Below (w.heap.size + 3) _ w5) := HB2.out.trans (hb5.mono (by omega)); obtain ⟨x0, x1, x2, x3, x4, x5, x6, x7, x8⟩ := box3 HB5.out; obtain ⟨ca5, cc5, rfl, _⟩ := hc5; clear hb5 hq5 HR))
                refine bodyPost_ret (v := .tuple #[.agg #[.slice ca5 (okN 0 k) cc5, .slice ra (m + m') rc], .int .i64 0]) (by simp [results, Tryd.results19, go_sem, x4, x5]) rfl ⟨_, _, by rw [HF0.out], ?_, ?_, (((HW.out HB5.out)).setCell (by simp; omega) _).setCell (by simp; omega) _⟩
                · rw [HF0.out]; exact ((HC5.out.setCell (by simp) _).setCell (by simp) _).is
                · rw [HF0.out]; exact ((HR5.out.setCell (by simp) _).setCell (by simp) _).is
              · have HNZ : Hid (¬ madeF C k (m + m') = 0) := hF0
                have HR : Hid (Calls Tryd.prog 28 #[.slice ca k ccap, .slice ra (m + m') rc] wr fun e w' => ∃ c' q', e = .returned (.tuple #[.agg #[c', q'], .int .i64 (madeF C k (m + m'))]) ∧ StrsFrom w' wr.heap.size c' (okN (madeF C k (m + m')) k) C ∧ q' = keptV (madeF C k (m + m')) (.slice ra (m + m') rc) ∧ Below wr.heap.size wr w') := HCR
                clear HCR hF0
                generalize madeF C k (m + m') = M at *
                go_wp2_with (first | (go_at_call 28; refine HR.out.mono ?_; rintro e w5 ⟨c5, q5, rfl, hc5, hq5, hb5⟩; have hq6 : q5 = .slice none 0 0 := hq5.trans (if_neg HNZ.out); subst hq6; have HC5 : Hid (StrsFrom w5 (w.heap.size + 3) c5 (okN M k) C) := StrsFrom.weaken hc5 (by omega); have HB5 : Hid (Below (w.heap.size + 3) _ w5) := HB2.out.trans (hb5.mono (by omega)); obtain ⟨x0, x1, x2, x3, x4, x5, x6, x7, x8⟩ := box3 HB5.out; obtain ⟨ca5, cc5, rfl, _⟩ := hc5; clear hb5 hq5 HR))
                refine bodyPost_ret (v := .tuple #[.agg #[.slice ca5 (okN M k) cc5, .slice none 0 0], .int .i64 M]) (by simp [results, Tryd.results19, go_sem, x4, x5]) rfl ⟨_, _, by rw [HFF.out], ?_, ?_, (((HW.out HB5.out)).setCell (by simp; omega) _).setCell (by simp; omega) _⟩
                · rw [HFF.out]; exact ((HC5.out.setCell (by simp) _).setCell (by simp) _).is
                · rw [HFF.out, show okN M (m + m') = 0 from if_neg HNZ.out]; exact nil_rows _ _
    · have HFF : Hid (unF C n R m C' n' R' m' = 9) := by
        have h : unF C n R m C' n' R' m' = 9 := by unfold unF; rw [if_pos h0, colsB_len hln]; rfl
        exact h
      have hne : ((n : Int) != (n' : Int)) = true := bne_iff_ne.2 (by omega)
      clear h0 k1 k2 k3 hln
      generalize unF C n R m C' n' R' m' = F at *
      go_enter Tryd.func19, Tryd.ntmps19
      go_wp2_with (first | (go_at_call 38; refine (C1.out _ _ _).mono ?_; rintro e w1 ⟨rfl, hb1⟩; have HB1 : Hid (Below (w.heap.size + 3) _ w1) := hb1; obtain ⟨x0, x1, x2, x3, x4, x5, x6, x7, x8⟩ := box3 hb1; clear hb1))
      refine bodyPost_ret (v := .tuple #[.agg #[.slice none 0 0, .slice none 0 0], .int .i64 9]) (by simp [results, Tryd.results19, go_sem, x4, x5]) rfl ⟨_, _, by rw [HFF.out], ?_, ?_, (((HW.out HB1.out)).setCell (by simp; omega) _).setCell (by simp; omega) _⟩
      · rw [HFF.out]; exact nil_strs _ _
      · rw [HFF.out]; exact nil_rows _ _
  · have HFF : Hid (unF C n R m C' n' R' m' = twoF (relF C n R m) (relF C' n' R' m')) := if_neg h0
    have HNZ : Hid (¬ twoF (relF C n R m) (relF C' n' R' m') = 0) := h0
    have h1 : (twoF (relF C n R m) (relF C' n' R' m') != 0) = true := by simpa using h0
    clear h0
    generalize unF C n R m C' n' R' m' = F at *
    generalize twoF (relF C n R m) (relF C' n' R' m') = G at *
    go_enter Tryd.func19, Tryd.ntmps19
    go_wp2_with (first | (go_at_call 38; refine (C1.out _ _ _).mono ?_; rintro e w1 ⟨rfl, hb1⟩; have HB1 : Hid (Below (w.heap.size + 3) _ w1) := hb1; obtain ⟨x0, x1, x2, x3, x4, x5, x6, x7, x8⟩ := box3 hb1; clear hb1))
    refine bodyPost_ret (v := .tuple #[.agg #[.slice none 0 0, .slice none 0 0], .int .i64 G]) (by simp [results, Tryd.results19, go_sem, x4, x5]) rfl ⟨_, _, by rw [HFF.out], ?_, ?_, (((HW.out HB1.out)).setCell (by simp; omega) _).setCell (by simp; omega) _⟩
    · rw [HFF.out, okN, if_neg HNZ.out]; exact nil_strs _ _
    · rw [HFF.out, okN, if_neg HNZ.out]; exact nil_rows _ _
end Go.Proofs.YtcpemigndcnkaaaDoor
