/-
  CONTRACT of the document's answer SelectedOf.
-/
import Derived.Test.YtcfjgoconmgpcaaDoorRlKept
set_option linter.unusedVariables false
namespace Go.Proofs.YtcfjgoconmgpcaaDoor
set_option maxRecDepth 100000
open Go.RowKit Go.WideShapes

/-- which rows are true in a column -/
def selK (R : Nat → Row) (p i : Nat) : Bool := ((R i).at_ p).n == 1
/-- are all of them true or false there? -/
def selB (R : Nat → Row) (m p : Nat) : Bool := (List.range m).all fun i => ((R i).at_ p).kind == 4
/-- what is told -/
def selF (C : Nat → ByteArray) (n : Nat) (R : Nat → Row) (m : Nat) (s : ByteArray) : Int :=
  if relF C n R m = 0 then (if colI C n s = -1 then 9 else if selB R m (colI C n s).toNat = true then 0 else 12) else relF C n R m
theorem selB_no {R : Nat → Row} {m p k : Nat} (hk : k < m) (h : ¬ ((R k).at_ p).kind = 4) : selB R m p = false := by
  unfold selB
  rw [List.all_eq_false]
  exact ⟨k, List.mem_range.2 hk, by simpa using h⟩
theorem selB_yes {R : Nat → Row} {m p : Nat} (h : ∀ k, k < m → ((R k).at_ p).kind = 4) : selB R m p = true := by
  unfold selB
  rw [List.all_eq_true]
  exact fun k hk => by simpa using h k (List.mem_range.1 hk)
theorem selF_col {C : Nat → ByteArray} {n : Nat} {R : Nat → Row} {m : Nat} {s : ByteArray} (h0 : relF C n R m = 0) (h : colI C n s = -1) : selF C n R m s = 9 := by unfold selF; rw [if_pos h0, if_pos h]
theorem selF_no {C : Nat → ByteArray} {n : Nat} {R : Nat → Row} {m : Nat} {s : ByteArray} {p k : Nat} (h0 : relF C n R m = 0) (h : colI C n s = (p : Int)) (hk : k < m) (hx : ¬ ((R k).at_ p).kind = 4) : selF C n R m s = 12 := by
  unfold selF
  rw [if_pos h0, h, if_neg (by omega), Int.toNat_natCast, selB_no hk hx]
  rfl
theorem selF_yes {C : Nat → ByteArray} {n : Nat} {R : Nat → Row} {m : Nat} {s : ByteArray} {p : Nat} (h0 : relF C n R m = 0) (h : colI C n s = (p : Int)) (hx : ∀ k, k < m → ((R k).at_ p).kind = 4) : selF C n R m s = 0 := by
  unfold selF
  rw [if_pos h0, h, if_neg (by omega), Int.toNat_natCast, selB_yes hx]
  rfl
theorem selF_bad {C : Nat → ByteArray} {n : Nat} {R : Nat → Row} {m : Nat} {s : ByteArray} (h0 : ¬ relF C n R m = 0) : selF C n R m s = relF C n R m := if_neg h0
/-- a row of a relation that may be: as long as there are columns -/
theorem row_len {C : Nat → ByteArray} {n : Nat} {R : Nat → Row} {m : Nat} (h : relF C n R m = 0) : ∀ i, i < m → (R i).len = n := fun i hi => by
  have h := (relF_zero h).2.2 i hi
  unfold rowE at h
  by_cases e : (R i).len = n
  · exact e
  · rw [if_neg e] at h; exact absurd h (by decide)
theorem madeF_ok {C : Nat → ByteArray} {n : Nat} {R : Nat → Row} {m k : Nat} (h : relF C n R m = 0) (hk : k ≤ m) : madeF C n k = 0 := by
  obtain ⟨h1, h2, _⟩ := relF_zero h
  rw [madeF_rows h1, if_neg (by omega)]

set_option maxHeartbeats 6400000 in
theorem selected_is (c q : Value) (n m : Nat) (C : Nat → ByteArray) (R : Nat → Row) (s : ByteArray) (w : World) (hc : StrsIs w c n C) (hq : RowsIs w q m R) (hf : StrsFine n C) (hg : RowsFine m R) (hT : Tabs w) :
    Calls Tryd.prog 13 #[.agg #[c, q], .string s] w fun e w' => ∃ c1 q1, e = .returned (.tuple #[.agg #[c1, q1], .int .i64 (selF C n R m s)]) ∧ StrsIs w' c1 (okN (selF C n R m s) n) C ∧ RowsIs w' q1 (okN (selF C n R m s) (keptN (selK R (colI C n s).toNat) m)) (keptR (selK R (colI C n s).toNat) m R) ∧ Below w.heap.size w w' := by
  have HW : Hid (∀ {W : World} {o o' : Obj}, Below (w.heap.size + 2) ((w.alloc o).alloc o') W → Below w.heap.size w W) := fun h => (below_two _ _).trans (h.mono (by omega))
  have C1 : Hid (∀ o o', Calls Tryd.prog 25 #[.agg #[c, q]] ((w.alloc o).alloc o') fun e w' => e = .returned (.int .i64 (relF C n R m)) ∧ Below (w.heap.size + 2) ((w.alloc o).alloc o') w') := fun o o' => by
    have h := relFault_is c q n m C R _ (hc.below (below_two o o')) (hq.below (below_two o o')) hf hg (Utf8Tabs_below hT (below_two o o'))
    rwa [show ((w.alloc o).alloc o').heap.size = w.heap.size + 2 by simp] at h
  have hqs : ∃ a x, q = .slice a m x := by obtain ⟨a, x, e, _⟩ := hq; exact ⟨a, x, e⟩
  have C2 : Hid (∀ W, Below w.heap.size w W → Calls Tryd.prog 33 #[.agg #[c, q], .string s] W fun e w' => e = .returned (.int .i64 (colI C n s)) ∧ Below W.heap.size W w') := fun W hW => colAt_is c q n m C R s W (hc.below hW) hqs
  have HC : Hid (∀ W, Below w.heap.size w W → StrsIs W c n C) := fun W hW => hc.below hW
  have HF : Hid (StrsFine n C) := hf
  obtain ⟨qa, qcap, rfl, q1, q2, _, q3⟩ := hq
  have hmm : m ≤ 9223372036854775807 := by unfold maxLen at q2; omega
  have HQ : Hid (∀ W i, Below w.heap.size w W → i < m → ∃ b off u, qa = some ⟨b, off, none⟩ ∧ b < w.heap.size ∧ W.cell? ⟨b, off + i, none⟩ = some u ∧ ItsIs W u (R i).len (R i).at_ ∧ (R i).len * 32 ≤ 140737488351232) := fun W i hW hi => by
    obtain ⟨b, off, h1, h2, h3⟩ := q3 (by omega)
    obtain ⟨u, h4, h5⟩ := h3 i hi
    exact ⟨b, off, u, h1, h2, (hW.cell (p := ⟨b, off + i, none⟩) h2).trans h4, h5.below hW, (hg.2 i hi).1⟩
  obtain ⟨ca, ccap, rfl, c1, c2, _⟩ := hc
  clear hf hg hT hqs q2 q3
  by_cases h0 : relF C n R m = 0
  · have hm6 : m ≤ 1000000 := (relF_zero h0).2.1
    have HLEN : Hid (∀ i, i < m → (R i).len = n) := row_len h0
    have H0 : Hid (relF C n R m = 0) := h0
    rw [h0] at C1
    rcases colI_cases C n s with hcol | ⟨p, hp, hcol⟩
    · have HFF : Hid (selF C n R m s = 9) := selF_col h0 hcol
      rw [hcol] at C2
      clear h0 hcol
      generalize selF C n R m s = F at *
      go_enter Tryd.func13, Tryd.ntmps13
      go_wp2_with (first | (go_at_call 25; refine (C1.out _ _).mono ?_; rintro e w1 ⟨rfl, hb1⟩; have HB1 : Hid (Below (w.heap.size + 2) ((w.alloc (.cells #[.slice ca n ccap, .slice qa m qcap] 25)).alloc (.cells #[.slice none 0 0, .slice none 0 0] 25)) w1) := hb1; obtain ⟨x0, x1, x2, x3, x4, x5, x6⟩ := box2r hb1; clear hb1) |
        (go_at_call 33; refine (C2.out _ (HW.out HB1.out)).mono ?_; rintro e w2 ⟨rfl, hb2⟩; have HB2 : Hid (Below (w.heap.size + 2) ((w.alloc (.cells #[.slice ca n ccap, .slice qa m qcap] 25)).alloc (.cells #[.slice none 0 0, .slice none 0 0] 25)) w2) := HB1.out.trans (hb2.mono (by omega)); clear x0 x1 x2 x3 x4 x5 x6; obtain ⟨x0, x1, x2, x3, x4, x5, x6⟩ := box2r HB2.out; clear hb2))
      refine bodyPost_ret (v := .tuple #[.agg #[.slice none 0 0, .slice none 0 0], .int .i64 9]) (by simp [results, Tryd.results13, go_sem, x2, x3]) rfl ⟨_, _, by rw [HFF.out], ?_, ?_, (((HW.out HB2.out)).setCell (by simp <;> omega) _).setCell (by simp <;> omega) _⟩
      · rw [HFF.out]; exact nil_strs _ _
      · rw [HFF.out]; exact nil_rows _ _
    · have HNO : Hid (∀ k, k < m → ¬ ((R k).at_ p).kind = 4 → selF C n R m s = 12) := fun k hk hx => selF_no h0 hcol hk hx
      have HYES : Hid ((∀ k, k < m → ((R k).at_ p).kind = 4) → selF C n R m s = 0) := fun hx => selF_yes h0 hcol hx
      have HMADE : Hid (madeF C n (keptN (selK R p) m) = 0) := madeF_ok h0 (keptN_le _ _)
      rw [hcol, Int.toNat_natCast]
      rw [hcol] at C2
      have hp0 : ¬ ((p : Int) < 0) := by omega
      have hpi : (p : Int) < (n : Int) := by omega
      have hnn : n ≤ 9223372036854775807 := by unfold maxLen at c2; omega
      clear h0 hcol c2
      generalize selF C n R m s = F at *
      go_enter Tryd.func13, Tryd.ntmps13
      go_wp2_with (first | (go_at_call 25; refine (C1.out _ _).mono ?_; rintro e w1 ⟨rfl, hb1⟩; have HB1 : Hid (Below (w.heap.size + 2) ((w.alloc (.cells #[.slice ca n ccap, .slice qa m qcap] 25)).alloc (.cells #[.slice none 0 0, .slice none 0 0] 25)) w1) := hb1; obtain ⟨x0, x1, x2, x3, x4, x5, x6⟩ := box2r hb1; clear hb1) |
        (go_at_call 33; refine (C2.out _ (HW.out HB1.out)).mono ?_; rintro e w2 ⟨rfl, hb2⟩; have HB2 : Hid (Below (w.heap.size + 2) ((w.alloc (.cells #[.slice ca n ccap, .slice qa m qcap] 25)).alloc (.cells #[.slice none 0 0, .slice none 0 0] 25)) w2) := HB1.out.trans (hb2.mono (by omega)); clear x0 x1 x2 x3 x4 x5 x6; obtain ⟨x0, x1, x2, x3, x4, x5, x6⟩ := box2r HB2.out; clear hb2))
      have hx6 : w.heap.size + 1 < w2.heap.size := x6
      go_loopw [8, 9] (fun v i wr => ∃ j : Nat, j ≤ m ∧ i = .int .i64 j ∧ RowsOwn wr w2.heap.size v (keptN (selK R p) j) (keptR (selK R p) m R) ∧ (∀ k, k < j → ((R k).at_ p).kind = 4) ∧ Below w2.heap.size w2 wr) (fun _ i _ => m - (intOf i).toNat)
      case atStart => exact ⟨0, Nat.zero_le _, rfl, RowsOwn.nil _ _ _, fun k hk => by omega, Below.refl _ _⟩
      case round =>
        obtain ⟨j, hj, rfl, hrow, hok, hbr⟩ := hrel
        have HB3 : Hid (Below w2.heap.size w2 wr) := hbr
        have HB4 : Hid (Below (w.heap.size + 2) ((w.alloc (.cells #[.slice ca n ccap, .slice qa m qcap] 25)).alloc (.cells #[.slice none 0 0, .slice none 0 0] 25)) wr) := HB2.out.trans (hbr.mono (by omega))
        have HBW : Hid (Below w.heap.size w wr) := HW.out HB4.out
        have HOK : Hid (∀ k, k < j → ((R k).at_ p).kind = 4) := hok
        have hzr : w2.heap.size ≤ wr.heap.size := hbr.size
        clear x0 x1 x2 x3 x4 x5 x6 hok
        obtain ⟨x0, x1, x2, x3, x4, x5, x6⟩ := box2r HB4.out
        obtain ⟨ra, rc, rfl⟩ := hrow.shape
        have HROW : Hid (RowsOwn wr w2.heap.size (.slice ra (keptN (selK R p) j) rc) (keptN (selK R p) j) (keptR (selK R p) m R)) := hrow
        clear hrow hbr
        by_cases hjl : j < m
        · obtain ⟨b, off, u, rfl, hb0, e1, hu, hu32⟩ := HQ.out wr j HBW.out hjl
          have hbz : b < wr.heap.size := by omega
          have hji : (j : Int) < (m : Int) := by omega
          rw [HLEN.out j hjl] at hu hu32
          have HU : Hid (ItsIs wr u n (R j).at_) := hu
          obtain ⟨ua, ucap, rfl, _, _, _, u3⟩ := hu
          obtain ⟨ub, uo, rfl, hub, u4⟩ := u3 (by omega)
          obtain ⟨e2, e3, _⟩ := u4 p hp
          clear u3 u4
          by_cases hx : ((R j).at_ p).kind = 4
          · have HX : Hid (((R j).at_ p).kind = 4) := hx
            rw [hx] at e2
            have hkc : keptN (selK R p) j ≤ j := keptN_le _ _
            cases hK : selK R p j
            · have hxn : (((R j).at_ p).n == 1) = false := hK
              have HKK : Hid (selK R p j = false) := hK
              generalize ((R j).at_ p).n = xn at *
              clear hx
              go_wp2
              go_roundw
              case rel => exact ⟨j + 1, by omega, by go_num, by rw [keptN_no HKK.out]; exact HROW.out, fun k hk => by
                by_cases e : k = j
                · rw [e]; exact HX.out
                · exact HOK.out k (by omega), HB3.out⟩
              case measure => simp [intOf]; omega
            · have hxn : (((R j).at_ p).n == 1) = true := hK
              have HKK : Hid (selK R p j = true) := hK
              have HAT : Hid (keptR (selK R p) m R (keptN (selK R p) j) = R j) := keptR_at R hjl hK
              have HN1 : Hid (keptN (selK R p) (j + 1) = keptN (selK R p) j + 1) := keptN_yes hK
              have HLJ : Hid ((R j).len = n) := HLEN.out j hjl
              generalize ((R j).at_ p).n = xn at *
              clear hx
              go_wp2_with (first | (go_at_call 34; refine (items_one wr.heap.size 0 1 (.slice (some ⟨ub, uo, none⟩) n ucap) n (R j).at_ _ (Nat.le_refl _) (by unfold maxLen; omega) (by simp) (by simp) (HU.out.alloc _) hu32).mono ?_; rintro e w5 ⟨v5, rfl, hi5, hsh5, hb5⟩; obtain ⟨va5, vc5, rfl⟩ := hsh5; have HI5 : Hid (ItsApart w5 w2.heap.size (Value.slice ra (keptN (selK R p) j) rc).ownBlock (.slice va5 n vc5) n (R j).at_) := hi5.weaken (by simp; omega) (fun z hz => by have := (HROW.out.lt z hz).2; simp; omega); have HR5 : Hid (RowsOwn w5 w2.heap.size (.slice ra (keptN (selK R p) j) rc) (keptN (selK R p) j) (keptR (selK R p) m R)) := (HROW.out.alloc _).below hb5; have HB5 : Hid (Below w2.heap.size wr w5) := ((Below.refl _ _).alloc (by omega) _).trans (hb5.mono (by simp; omega)); have hz5 : w2.heap.size ≤ w5.heap.size := (by have := HB5.out.size; omega); clear hi5 hb5) |
                (at_builtin; refine wpList_push_row rfl (.tmp 61) (.tmp 63) rfl w2.heap.size (keptN (selK R p) j) (.slice ra (keptN (selK R p) j) rc) (keptR (selK R p) m R) rfl (HR5.out.alloc _) (by simp; omega) ⟨w5.heap.size, 0, none⟩ 1 (.slice va5 n vc5) rfl (by simp) (by rw [HAT.out, HLJ.out]; exact HI5.out.alloc _) (by omega) ?_; intro v6 w6 hr6 hsh6 hg6; obtain ⟨va6, vc6, rfl⟩ := hsh6; have HR6 : Hid (RowsOwn w6 w2.heap.size (.slice va6 (keptN (selK R p) j + 1) vc6) (keptN (selK R p) j + 1) (keptR (selK R p) m R)) := hr6; have HB6 : Hid (Below w2.heap.size wr w6) := (HB5.out.alloc (by omega) _).grown hg6 (by simp; omega) (fun z hz => (HROW.out.lt z hz).1); clear hr6 hg6))
              go_roundw
              case rel => exact ⟨j + 1, by omega, by go_num, by rw [HN1.out]; exact HR6.out, fun k hk => by
                by_cases e : k = j
                · rw [e]; exact HX.out
                · exact HOK.out k (by omega), HB3.out.trans HB6.out⟩
              case measure => simp [intOf]; omega
          · have HFF : Hid (F = 12) := HNO.out j hjl hx
            have hxx : (((R j).at_ p).kind != 4) = true := by simpa using hx
            generalize ((R j).at_ p).kind = xk at *
            clear hx
            go_wp2
            refine bodyPost_ret (v := .tuple #[.agg #[.slice none 0 0, .slice none 0 0], .int .i64 12]) (by simp [results, Tryd.results13, go_sem, x2, x3]) rfl ⟨_, _, by rw [HFF.out], ?_, ?_, (((HW.out HB4.out)).setCell (by simp <;> omega) _).setCell (by simp <;> omega) _⟩
            · rw [HFF.out]; exact nil_strs _ _
            · rw [HFF.out]; exact nil_rows _ _
        · have e : j = m := by omega
          subst e
          have HF0 : Hid (F = 0) := HYES.out HOK.out
          have HR : Hid (Calls Tryd.prog 28 #[.slice ca n ccap, .slice ra (keptN (selK R p) j) rc] wr fun e w' => ∃ c' q', e = .returned (.tuple #[.agg #[c', q'], .int .i64 0]) ∧ StrsFrom w' wr.heap.size c' (okN 0 n) C ∧ q' = keptV 0 (.slice ra (keptN (selK R p) j) rc) ∧ Below wr.heap.size wr w') := by
            have h := relOf_is (.slice ca n ccap) (.slice ra (keptN (selK R p) j) rc) n (keptN (selK R p) j) C (keptR (selK R p) j R) wr (HC.out wr HBW.out) HROW.out.is HF.out
            rwa [HMADE.out] at h
          go_wp2_with (first | (go_at_call 28; refine HR.out.mono ?_; rintro e w5 ⟨c5, q5, rfl, hc5, hq5, hb5⟩; have hq6 : q5 = .slice ra (keptN (selK R p) j) rc := hq5; subst hq6; have HC5 : Hid (StrsFrom w5 (w.heap.size + 2) c5 n C) := StrsFrom.weaken hc5 (by omega); have HR5 : Hid (RowsOwn w5 w2.heap.size (.slice ra (keptN (selK R p) j) rc) (keptN (selK R p) j) (keptR (selK R p) j R)) := HROW.out.below hb5; have HB5 : Hid (Below (w.heap.size + 2) ((w.alloc (.cells #[.slice ca n ccap, .slice qa j qcap] 25)).alloc (.cells #[.slice none 0 0, .slice none 0 0] 25)) w5) := HB4.out.trans (hb5.mono (by omega)); clear x0 x1 x2 x3 x4 x5 x6; obtain ⟨x0, x1, x2, x3, x4, x5, x6⟩ := box2r HB5.out; obtain ⟨ca5, cc5, rfl, _⟩ := hc5; clear hb5 hq5 HR))
          refine bodyPost_ret (v := .tuple #[.agg #[.slice ca5 (okN 0 n) cc5, .slice ra (keptN (selK R p) j) rc], .int .i64 0]) (by simp [results, Tryd.results13, go_sem, x2, x3]) rfl ⟨_, _, by rw [HF0.out], ?_, ?_, (((HW.out HB5.out)).setCell (by simp <;> omega) _).setCell (by simp <;> omega) _⟩
          · rw [HF0.out]; exact ((HC5.out.setCell (by simp) _).setCell (by simp) _).is
          · rw [HF0.out]; exact ((HR5.out.setCell (by simp <;> omega) _).setCell (by simp <;> omega) _).is
  · have HFF : Hid (selF C n R m s = relF C n R m) := selF_bad h0
    have HNZ : Hid (¬ relF C n R m = 0) := h0
    have h1 : (relF C n R m != 0) = true := by simpa using h0
    have h2 : (relF C n R m == 0) = false := by simpa using h0
    clear h0
    generalize keptN (selK R (colI C n s).toNat) m = N1 at *
    generalize keptR (selK R (colI C n s).toNat) m R = U at *
    generalize selF C n R m s = F at *
    generalize relF C n R m = G at *
    generalize colI C n s = J at *
    go_enter Tryd.func13, Tryd.ntmps13
    go_wp2_with (first | (go_at_call 25; refine (C1.out _ _).mono ?_; rintro e w1 ⟨rfl, hb1⟩; have HB1 : Hid (Below (w.heap.size + 2) ((w.alloc (.cells #[.slice ca n ccap, .slice qa m qcap] 25)).alloc (.cells #[.slice none 0 0, .slice none 0 0] 25)) w1) := hb1; obtain ⟨x0, x1, x2, x3, x4, x5, x6⟩ := box2r hb1; clear hb1) |
        (go_at_call 33; refine (C2.out _ (HW.out HB1.out)).mono ?_; rintro e w2 ⟨rfl, hb2⟩; have HB2 : Hid (Below (w.heap.size + 2) ((w.alloc (.cells #[.slice ca n ccap, .slice qa m qcap] 25)).alloc (.cells #[.slice none 0 0, .slice none 0 0] 25)) w2) := HB1.out.trans (hb2.mono (by omega)); clear x0 x1 x2 x3 x4 x5 x6; obtain ⟨x0, x1, x2, x3, x4, x5, x6⟩ := box2r HB2.out; clear hb2))
    refine bodyPost_ret (v := .tuple #[.agg #[.slice none 0 0, .slice none 0 0], .int .i64 G]) (by simp [results, Tryd.results13, go_sem, x2, x3]) rfl ⟨_, _, by rw [HFF.out], ?_, ?_, (((HW.out HB2.out)).setCell (by simp <;> omega) _).setCell (by simp <;> omega) _⟩
    · rw [HFF.out, okN, if_neg HNZ.out]; exact nil_strs _ _
    · rw [HFF.out, okN, if_neg HNZ.out]; exact nil_rows _ _
end Go.Proofs.YtcfjgoconmgpcaaDoor
