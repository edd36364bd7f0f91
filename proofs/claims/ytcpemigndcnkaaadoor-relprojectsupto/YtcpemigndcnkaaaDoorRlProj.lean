/-
  CONTRACT of the document's answer ProjectedOf.
-/
import Derived.Test.YtcpemigndcnkaaaDoorRlPicks
import Derived.Test.YtcpemigndcnkaaaDoorRlOf
set_option linter.unusedVariables false
namespace Go.Proofs.YtcpemigndcnkaaaDoor
set_option maxRecDepth 100000
open Go.RowKit Go.WideShapes

/-- are all of them columns? -/
def foundB (C : Nat → ByteArray) (n : Nat) (O : Nat → ByteArray) (k : Nat) : Bool := (List.range k).all fun i => decide (0 ≤ colI C n (O i))
/-- where they are -/
def prP (C : Nat → ByteArray) (n : Nat) (O : Nat → ByteArray) (i : Nat) : Nat := (colI C n (O i)).toNat
/-- the rows that are made -/
def prR (C : Nat → ByteArray) (n : Nat) (O : Nat → ByteArray) (k : Nat) (R : Nat → Row) (i : Nat) : Row := ⟨k, fun t => (R i).at_ (prP C n O t)⟩
/-- what is told -/
def prF (C : Nat → ByteArray) (n : Nat) (R : Nat → Row) (m : Nat) (D : Nat → ByteArray) (kd : Nat) (O : Nat → ByteArray) (ko : Nat) : Int :=
  if relF C n R m = 0 then (if kd = ko ∧ foundB C n O ko = true then madeF D kd m else 9) else relF C n R m
theorem found_at {C : Nat → ByteArray} {n : Nat} {O : Nat → ByteArray} {i : Nat} (h : ¬ colI C n (O i) = -1) : colI C n (O i) = (prP C n O i : Int) ∧ prP C n O i < n := by
  rcases colI_cases C n (O i) with h1 | ⟨k, hk, h1⟩
  · exact absurd h1 h
  · unfold prP; rw [h1]; exact ⟨by simp, by simpa using hk⟩
theorem found_yes {C : Nat → ByteArray} {n : Nat} {O : Nat → ByteArray} {k : Nat} (h : foundB C n O k = true) : ∀ i, i < k → colI C n (O i) = (prP C n O i : Int) ∧ prP C n O i < n := by
  intro i hi
  unfold foundB at h
  rw [List.all_eq_true] at h
  have h1 := of_decide_eq_true (h i (List.mem_range.2 hi))
  exact found_at (fun e => by omega)
theorem found_no {C : Nat → ByteArray} {n : Nat} {O : Nat → ByteArray} {k : Nat} (h : foundB C n O k = false) : ∃ t, t < k ∧ colI C n (O t) = -1 ∧ ∀ i, i < t → colI C n (O i) = (prP C n O i : Int) := by
  by_cases hx : ∃ t, t < k ∧ colI C n (O t) = -1 ∧ ∀ i, i < t → ¬ colI C n (O i) = -1
  · obtain ⟨t, h1, h2, h3⟩ := hx
    exact ⟨t, h1, h2, fun i hi => (found_at (h3 i hi)).1⟩
  · exfalso
    have hall : ∀ i, i < k → ¬ colI C n (O i) = -1 := by
      intro i
      induction i using Nat.strongRecOn with
      | _ i ih => exact fun hi e => hx ⟨i, hi, e, fun j hj => ih j hj (by omega)⟩
    have : foundB C n O k = true := by
      unfold foundB
      rw [List.all_eq_true]
      intro i hi
      have := found_at (hall i (List.mem_range.1 hi))
      exact decide_eq_true (by omega)
    rw [h] at this
    exact absurd this (by decide)
/-- a relation was boxed, and a place made for the result -/
theorem box2r {w wr : World} {c q x y : Value} {T : TypeId} (h : Below (w.heap.size + 2) ((w.alloc (.cells #[c, q] T)).alloc (.cells #[x, y] T)) wr) :
    wr.cell? ⟨w.heap.size, 0, none⟩ = some c ∧ wr.cell? ⟨w.heap.size, 1, none⟩ = some q ∧ wr.cell? ⟨w.heap.size + 1, 0, none⟩ = some x ∧ wr.cell? ⟨w.heap.size + 1, 1, none⟩ = some y ∧ wr.frozen? ⟨w.heap.size + 1, 0, none⟩ = false ∧ wr.frozen? ⟨w.heap.size + 1, 1, none⟩ = false ∧ w.heap.size + 1 < wr.heap.size := by
  have hz : (w.alloc (.cells #[c, q] T)).heap.size = w.heap.size + 1 := by simp
  have h2 : Below (w.heap.size + 1) (w.alloc (.cells #[c, q] T)) wr := ((Below.refl _ _).alloc (by rw [hz]; omega) _).trans (h.mono (by omega))
  obtain ⟨x0, x1, _, _, _⟩ := resbox (Nat.lt_succ_self _) h2
  have h3 := resbox (w := w.alloc (.cells #[c, q] T)) (B := w.heap.size + 2) (by rw [hz]; omega) h
  rw [hz] at h3
  exact ⟨x0, x1, h3⟩
set_option maxHeartbeats 6400000 in
theorem projected_is (c q d l : Value) (n m kd ko : Nat) (C D O : Nat → ByteArray) (R : Nat → Row) (w : World) (hc : StrsIs w c n C) (hq : RowsIs w q m R) (hf : StrsFine n C) (hg : RowsFine m R) (hd : StrsIs w d kd D) (hfd : StrsFine kd D) (hl : StrsIs w l ko O) (hfl : StrsFine ko O) (hko : ko * 32 ≤ 140737488351232) (hT : Tabs w) :
    Calls Tryd.prog 10 #[.agg #[c, q], d, l] w fun e w' => ∃ c1 q1, e = .returned (.tuple #[.agg #[c1, q1], .int .i64 (prF C n R m D kd O ko)]) ∧ StrsIs w' c1 (okN (prF C n R m D kd O ko) kd) D ∧ RowsIs w' q1 (okN (prF C n R m D kd O ko) m) (prR C n O ko R) ∧ Below w.heap.size w w' := by
  have HW : Hid (∀ {W : World} {o o' : Obj}, Below (w.heap.size + 2) ((w.alloc o).alloc o') W → Below w.heap.size w W) := fun h => (below_two _ _).trans (h.mono (by omega))
  have C1 : Hid (∀ o o', Calls Tryd.prog 25 #[.agg #[c, q]] ((w.alloc o).alloc o') fun e w' => e = .returned (.int .i64 (relF C n R m)) ∧ Below (w.heap.size + 2) ((w.alloc o).alloc o') w') := fun o o' => by
    have h := relFault_is c q n m C R _ (hc.below (below_two o o')) (hq.below (below_two o o')) hf hg (Utf8Tabs_below hT (below_two o o'))
    rwa [show ((w.alloc o).alloc o').heap.size = w.heap.size + 2 by simp] at h
  have hqs : ∃ a x, q = .slice a m x := by obtain ⟨a, x, e, _⟩ := hq; exact ⟨a, x, e⟩
  have CY : Hid ((∀ i, i < ko → colI C n (O i) = (prP C n O i : Int)) → ∀ W, Below w.heap.size w W → Calls Tryd.prog 26 #[.agg #[c, q], l] W fun e w' => ∃ v, e = .returned (.tuple #[v, .bool true]) ∧ IntsIs w' v ko (prP C n O) ∧ (∃ a' c', v = .slice a' ko c') ∧ Below W.heap.size W w') := fun hP W hW => colsAt_yes c q l n m ko C O (prP C n O) W (hc.below hW) hqs (hl.below hW) hP hfl.1
  have CN : Hid (∀ t, t < ko → (∀ i, i < t → colI C n (O i) = (prP C n O i : Int)) → colI C n (O t) = -1 → ∀ W, Below w.heap.size w W → Calls Tryd.prog 26 #[.agg #[c, q], l] W fun e w' => e = .returned (.tuple #[.slice none 0 0, .bool false]) ∧ Below W.heap.size W w') := fun t ht hP hN W hW => colsAt_no c q l n m ko C O (prP C n O) W (hc.below hW) hqs (hl.below hW) t ht hP hN hfl.1
  have HD : Hid (∀ W, Below w.heap.size w W → StrsIs W d kd D) := fun W hW => hd.below hW
  have HFD : Hid (StrsFine kd D) := hfd
  obtain ⟨qa, qcap, rfl, q1, q2, _, q3⟩ := hq
  have hmm : m ≤ 9223372036854775807 := by unfold maxLen at q2; omega
  have HQ : Hid (∀ W i, Below w.heap.size w W → i < m → ∃ b off u, qa = some ⟨b, off, none⟩ ∧ b < w.heap.size ∧ W.cell? ⟨b, off + i, none⟩ = some u ∧ ItsIs W u (R i).len (R i).at_) := fun W i hW hi => by
    obtain ⟨b, off, h1, h2, h3⟩ := q3 (by omega)
    obtain ⟨u, h4, h5⟩ := h3 i hi
    exact ⟨b, off, u, h1, h2, (hW.cell (p := ⟨b, off + i, none⟩) h2).trans h4, h5.below hW⟩
  obtain ⟨ca, ccap, rfl, _⟩ := hc
  obtain ⟨da, dcap, rfl, d1, d2, _, d3⟩ := hd
  obtain ⟨la, lcap, rfl, l1, l2, _, l3⟩ := hl
  have hkd : kd ≤ 9223372036854775807 := by unfold maxLen at d2; omega
  have hkk : ko ≤ 9223372036854775807 := by omega
  clear hf hg hT hfd hfl hqs q2 q3 d2 d3 l2 l3
  by_cases h0 : relF C n R m = 0
  · obtain ⟨k3, k4, k5⟩ := relF_zero h0
    have HLEN : Hid (∀ i, i < m → (R i).len = n) := fun i hi => by
      have h := k5 i hi
      unfold rowE at h
      by_cases e : (R i).len = n
      · exact e
      · rw [if_neg e] at h; exact absurd h (by decide)
    have HUF : Hid (prF C n R m D kd O ko = if kd = ko ∧ foundB C n O ko = true then madeF D kd m else 9) := if_pos h0
    rw [h0] at C1
    clear h0 k3 k5
    generalize prF C n R m D kd O ko = F at *
    cases hfo : foundB C n O ko
    · have HFF : Hid (F = 9) := HUF.out.trans (if_neg (fun h => by rw [hfo] at h; exact absurd h.2 (by decide)))
      obtain ⟨t, t1, t2, t3⟩ := found_no hfo
      have CC : Hid (∀ W, Below w.heap.size w W → Calls Tryd.prog 26 #[.agg #[.slice ca n ccap, .slice qa m qcap], .slice la ko lcap] W fun e w' => e = .returned (.tuple #[.slice none 0 0, .bool false]) ∧ Below W.heap.size W w') := CN.out t t1 t3 t2
      clear t1 t2 t3 CY CN hfo HUF
      go_enter Tryd.func10, Tryd.ntmps10
      go_wp2_with (first | (go_at_call 25; refine (C1.out _ _).mono ?_; rintro e w1 ⟨rfl, hb1⟩; have HB1 : Hid (Below (w.heap.size + 2) _ w1) := hb1; obtain ⟨x0, x1, x2, x3, x4, x5, x6⟩ := box2r hb1; clear hb1) |
        (go_at_call 26; refine (CC.out _ (HW.out HB1.out)).mono ?_; rintro e w2 ⟨rfl, hb2⟩; have HB2 : Hid (Below (w.heap.size + 2) _ w2) := HB1.out.trans (hb2.mono (by omega)); clear x0 x1 x2 x3 x4 x5 x6; obtain ⟨x0, x1, x2, x3, x4, x5, x6⟩ := box2r HB2.out; clear hb2))
      refine bodyPost_ret (v := .tuple #[.agg #[.slice none 0 0, .slice none 0 0], .int .i64 9]) (by simp [results, Tryd.results10, go_sem, x2, x3]) rfl ⟨_, _, by rw [HFF.out], ?_, ?_, (((HW.out HB2.out)).setCell (by simp <;> omega) _).setCell (by simp <;> omega) _⟩
      · rw [HFF.out]; exact nil_strs _ _
      · rw [HFF.out]; exact nil_rows _ _
    · have CC : Hid (∀ W, Below w.heap.size w W → Calls Tryd.prog 26 #[.agg #[.slice ca n ccap, .slice qa m qcap], .slice la ko lcap] W fun e w' => ∃ v, e = .returned (.tuple #[v, .bool true]) ∧ IntsIs w' v ko (prP C n O) ∧ (∃ a' c', v = .slice a' ko c') ∧ Below W.heap.size W w') := CY.out (fun i hi => (found_yes hfo i hi).1)
      have HPN : Hid (∀ i, i < ko → prP C n O i < n) := fun i hi => (found_yes hfo i hi).2
      clear CY CN
      by_cases hln : kd = ko
      · subst hln
        have HFF : Hid (F = madeF D kd m) := HUF.out.trans (if_pos ⟨rfl, hfo⟩)
        have hne : ((kd : Int) != (kd : Int)) = false := by simp
        clear HUF hfo
        go_enter Tryd.func10, Tryd.ntmps10
        go_wp2_with (first | (go_at_call 25; refine (C1.out _ _).mono ?_; rintro e w1 ⟨rfl, hb1⟩; have HB1 : Hid (Below (w.heap.size + 2) _ w1) := hb1; obtain ⟨x0, x1, x2, x3, x4, x5, x6⟩ := box2r hb1; clear hb1) |
          (go_at_call 26; refine (CC.out _ (HW.out HB1.out)).mono ?_; rintro e w2 ⟨v2, rfl, hi2, hsh2, hb2⟩; obtain ⟨pa, pc, rfl⟩ := hsh2; have HI2 : Hid (IntsIs w2 (.slice pa kd pc) kd (prP C n O)) := hi2; have HB2 : Hid (Below (w.heap.size + 2) ((w.alloc (.cells #[.slice ca n ccap, .slice qa m qcap] 25)).alloc (.cells #[.slice none 0 0, .slice none 0 0] 25)) w2) := HB1.out.trans (hb2.mono (by omega)); clear x0 x1 x2 x3 x4 x5 x6; obtain ⟨x0, x1, x2, x3, x4, x5, x6⟩ := box2r HB2.out; clear hb2 hi2))
        have hx6 : w.heap.size + 1 < w2.heap.size := x6
        go_loopw [11, 12] (fun v i wr => ∃ j : Nat, j ≤ m ∧ i = .int .i64 j ∧ RowsOwn wr w2.heap.size v j (prR C n O kd R) ∧ Below w2.heap.size w2 wr) (fun _ i _ => m - (intOf i).toNat)
        case atStart => exact ⟨0, Nat.zero_le _, rfl, RowsOwn.nil _ _ _, Below.refl _ _⟩
        case round =>
          obtain ⟨j, hj, rfl, hrow, hbr⟩ := hrel
          have HB3 : Hid (Below w2.heap.size w2 wr) := hbr
          have HB4 : Hid (Below (w.heap.size + 2) ((w.alloc (.cells #[.slice ca n ccap, .slice qa m qcap] 25)).alloc (.cells #[.slice none 0 0, .slice none 0 0] 25)) wr) := HB2.out.trans (hbr.mono (by omega))
          have HBW : Hid (Below w.heap.size w wr) := HW.out HB4.out
          have hzr : w2.heap.size ≤ wr.heap.size := hbr.size
          clear x0 x1 x2 x3 x4 x5 x6
          obtain ⟨x0, x1, x2, x3, x4, x5, x6⟩ := box2r HB4.out
          obtain ⟨ra, rc, rfl⟩ := hrow.shape
          have HROW : Hid (RowsOwn wr w2.heap.size (.slice ra j rc) j (prR C n O kd R)) := hrow
          clear hrow hbr
          by_cases hjl : j < m
          · obtain ⟨b, off, u, rfl, hb0, e1, hu⟩ := HQ.out wr j HBW.out hjl
            have hbz : b < wr.heap.size := by omega
            have hji : (j : Int) < (m : Int) := by omega
            rw [HLEN.out j hjl] at hu
            have HU : Hid (ItsIs wr u n (R j).at_) := hu
            obtain ⟨ua, ucap, rfl, _⟩ := hu
            go_wp2_with (first | (go_at_call 27; refine (picks_is (.slice ua n ucap) (.slice pa kd pc) n kd (R j).at_ (prP C n O) _ HU.out (HI2.out.below HB3.out) HPN.out hko).mono ?_; rintro e w5 ⟨v5, rfl, hi5, hsh5, hb5⟩; obtain ⟨va5, vc5, rfl⟩ := hsh5; have HI5 : Hid (ItsApart w5 w2.heap.size (Value.slice ra j rc).ownBlock (.slice va5 (prR C n O kd R j).len vc5) (prR C n O kd R j).len (prR C n O kd R j).at_) := hi5.weaken hzr (fun z hz => (HROW.out.lt z hz).2); have HR5 : Hid (RowsOwn w5 w2.heap.size (.slice ra j rc) j (prR C n O kd R)) := HROW.out.below hb5; have HB5 : Hid (Below w2.heap.size wr w5) := hb5.mono hzr; have hz5 : wr.heap.size ≤ w5.heap.size := hb5.size; clear hi5 hb5) |
              (at_builtin; refine wpList_push_row rfl (.tmp 50) (.tmp 52) rfl w2.heap.size j (.slice ra j rc) (prR C n O kd R) rfl (HR5.out.alloc _) (by simp; omega) ⟨w5.heap.size, 0, none⟩ 1 (.slice va5 (prR C n O kd R j).len vc5) rfl (by simp [prR]) (HI5.out.alloc _) (by omega) ?_; intro v6 w6 hr6 hsh6 hg6; obtain ⟨va6, vc6, rfl⟩ := hsh6; have HR6 : Hid (RowsOwn w6 w2.heap.size (.slice va6 (j + 1) vc6) (j + 1) (prR C n O kd R)) := hr6; have HB6 : Hid (Below w2.heap.size wr w6) := (HB5.out.alloc (by omega) _).grown hg6 (by simp; omega) (fun z hz => (HROW.out.lt z hz).1); clear hr6 hg6))
            go_roundw
            case rel => exact ⟨j + 1, by omega, by go_num, HR6.out, HB3.out.trans HB6.out⟩
            case measure => simp [intOf]; omega
          · have e : j = m := by omega
            subst e
            have HCR := relOf_is (.slice da kd dcap) (.slice ra j rc) kd j D (prR C n O kd R) wr (HD.out wr HBW.out) HROW.out.is HFD.out
            by_cases hF0 : madeF D kd j = 0
            · have HF0 : Hid (F = 0) := HFF.out.trans hF0
              rw [hF0] at HCR
              have HR : Hid (Calls Tryd.prog 28 #[.slice da kd dcap, .slice ra j rc] wr fun e w' => ∃ c' q', e = .returned (.tuple #[.agg #[c', q'], .int .i64 0]) ∧ StrsFrom w' wr.heap.size c' (okN 0 kd) D ∧ q' = keptV 0 (.slice ra j rc) ∧ Below wr.heap.size wr w') := HCR
              clear HCR hF0
              go_wp2_with (first | (go_at_call 28; refine HR.out.mono ?_; rintro e w5 ⟨c5, q5, rfl, hc5, hq5, hb5⟩; have hq6 : q5 = .slice ra j rc := hq5; subst hq6; have HC5 : Hid (StrsFrom w5 (w.heap.size + 2) c5 kd D) := StrsFrom.weaken hc5 (by omega); have HR5 : Hid (RowsOwn w5 w2.heap.size (.slice ra j rc) j (prR C n O kd R)) := HROW.out.below hb5; have HB5 : Hid (Below (w.heap.size + 2) _ w5) := HB4.out.trans (hb5.mono (by omega)); clear x0 x1 x2 x3 x4 x5 x6; obtain ⟨x0, x1, x2, x3, x4, x5, x6⟩ := box2r HB5.out; obtain ⟨ca5, cc5, rfl, _⟩ := hc5; clear hb5 hq5 HR))
              refine bodyPost_ret (v := .tuple #[.agg #[.slice ca5 (okN 0 kd) cc5, .slice ra j rc], .int .i64 0]) (by simp [results, Tryd.results10, go_sem, x2, x3]) rfl ⟨_, _, by rw [HF0.out], ?_, ?_, (((HW.out HB5.out)).setCell (by simp <;> omega) _).setCell (by simp <;> omega) _⟩
              · rw [HF0.out]; exact ((HC5.out.setCell (by simp) _).setCell (by simp) _).is
              · rw [HF0.out]; exact ((HR5.out.setCell (by simp <;> omega) _).setCell (by simp <;> omega) _).is
            · have HNZ : Hid (¬ madeF D kd j = 0) := hF0
              have HR : Hid (Calls Tryd.prog 28 #[.slice da kd dcap, .slice ra j rc] wr fun e w' => ∃ c' q', e = .returned (.tuple #[.agg #[c', q'], .int .i64 (madeF D kd j)]) ∧ StrsFrom w' wr.heap.size c' (okN (madeF D kd j) kd) D ∧ q' = keptV (madeF D kd j) (.slice ra j rc) ∧ Below wr.heap.size wr w') := HCR
              clear HCR hF0
              generalize madeF D kd j = M at *
              go_wp2_with (first | (go_at_call 28; refine HR.out.mono ?_; rintro e w5 ⟨c5, q5, rfl, hc5, hq5, hb5⟩; have hq6 : q5 = .slice none 0 0 := hq5.trans (if_neg HNZ.out); subst hq6; have HC5 : Hid (StrsFrom w5 (w.heap.size + 2) c5 (okN M kd) D) := StrsFrom.weaken hc5 (by omega); have HB5 : Hid (Below (w.heap.size + 2) _ w5) := HB4.out.trans (hb5.mono (by omega)); clear x0 x1 x2 x3 x4 x5 x6; obtain ⟨x0, x1, x2, x3, x4, x5, x6⟩ := box2r HB5.out; obtain ⟨ca5, cc5, rfl, _⟩ := hc5; clear hb5 hq5 HR))
              refine bodyPost_ret (v := .tuple #[.agg #[.slice ca5 (okN M kd) cc5, .slice none 0 0], .int .i64 M]) (by simp [results, Tryd.results10, go_sem, x2, x3]) rfl ⟨_, _, by rw [HFF.out], ?_, ?_, (((HW.out HB5.out)).setCell (by simp <;> omega) _).setCell (by simp <;> omega) _⟩
              · rw [HFF.out]; exact ((HC5.out.setCell (by simp) _).setCell (by simp) _).is
              · rw [HFF.out, show okN M j = 0 from if_neg HNZ.out]; exact nil_rows _ _
      · have HFF : Hid (F = 9) := HUF.out.trans (if_neg (fun h => hln h.1))
        have hne : ((kd : Int) != (ko : Int)) = true := bne_iff_ne.2 (by omega)
        clear HUF hfo hln
        go_enter Tryd.func10, Tryd.ntmps10
        go_wp2_with (first | (go_at_call 25; refine (C1.out _ _).mono ?_; rintro e w1 ⟨rfl, hb1⟩; have HB1 : Hid (Below (w.heap.size + 2) _ w1) := hb1; obtain ⟨x0, x1, x2, x3, x4, x5, x6⟩ := box2r hb1; clear hb1) |
          (go_at_call 26; refine (CC.out _ (HW.out HB1.out)).mono ?_; rintro e w2 ⟨v2, rfl, hi2, hsh2, hb2⟩; obtain ⟨pa, pc, rfl⟩ := hsh2; have HB2 : Hid (Below (w.heap.size + 2) _ w2) := HB1.out.trans (hb2.mono (by omega)); clear x0 x1 x2 x3 x4 x5 x6; obtain ⟨x0, x1, x2, x3, x4, x5, x6⟩ := box2r HB2.out; clear hb2 hi2))
        refine bodyPost_ret (v := .tuple #[.agg #[.slice none 0 0, .slice none 0 0], .int .i64 9]) (by simp [results, Tryd.results10, go_sem, x2, x3]) rfl ⟨_, _, by rw [HFF.out], ?_, ?_, (((HW.out HB2.out)).setCell (by simp <;> omega) _).setCell (by simp <;> omega) _⟩
        · rw [HFF.out]; exact nil_strs _ _
        · rw [HFF.out]; exact nil_rows _ _
  · have HFF : Hid (prF C n R m D kd O ko = relF C n R m) := if_neg h0
    have HNZ : Hid (¬ relF C n R m = 0) := h0
    have h1 : (relF C n R m != 0) = true := by simpa using h0
    clear h0 CY CN
    generalize prF C n R m D kd O ko = F at *
    generalize relF C n R m = G at *
    go_enter Tryd.func10, Tryd.ntmps10
    go_wp2_with (first | (go_at_call 25; refine (C1.out _ _).mono ?_; rintro e w1 ⟨rfl, hb1⟩; have HB1 : Hid (Below (w.heap.size + 2) _ w1) := hb1; obtain ⟨x0, x1, x2, x3, x4, x5, x6⟩ := box2r hb1; clear hb1))
    refine bodyPost_ret (v := .tuple #[.agg #[.slice none 0 0, .slice none 0 0], .int .i64 G]) (by simp [results, Tryd.results10, go_sem, x2, x3]) rfl ⟨_, _, by rw [HFF.out], ?_, ?_, (((HW.out HB1.out)).setCell (by simp <;> omega) _).setCell (by simp <;> omega) _⟩
    · rw [HFF.out, show okN G kd = 0 from if_neg HNZ.out]; exact nil_strs _ _
    · rw [HFF.out, show okN G m = 0 from if_neg HNZ.out]; exact nil_rows _ _
end Go.Proofs.YtcpemigndcnkaaaDoor
