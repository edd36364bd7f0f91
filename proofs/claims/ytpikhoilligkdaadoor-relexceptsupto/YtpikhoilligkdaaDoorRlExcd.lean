/-
  CONTRACT of the document's answer ExceptedOf.
-/
import Derived.Test.YtpikhoilligkdaaDoorRlUniq
import Derived.Sort.AtCall
set_option linter.unusedVariables false
namespace Go.Proofs.YtpikhoilligkdaaDoor
set_option maxRecDepth 100000
open Go.RowKit Go.WideShapes

/-- which rows are left: no row of the other one is the same there -/
def excK (R : Nat → Row) (P : Nat → Nat) (R' : Nat → Row) (P' : Nat → Nat) (m' ko i : Nat) : Bool := (List.range m').all fun j => !sameB (pickX R P i) (pickX R' P' j) ko
/-- is one of the first k the same? -/
def hitE (R : Nat → Row) (P : Nat → Nat) (R' : Nat → Row) (P' : Nat → Nat) (ko i k : Nat) : Bool := (List.range k).any fun j => sameB (pickX R P i) (pickX R' P' j) ko
theorem hitE_succ (R : Nat → Row) (P : Nat → Nat) (R' : Nat → Row) (P' : Nat → Nat) (ko i k : Nat) : hitE R P R' P' ko i (k + 1) = (hitE R P R' P' ko i k || sameB (pickX R P i) (pickX R' P' k) ko) := by
  unfold hitE
  rw [List.range_succ, List.any_append]
  simp
theorem hitE_all (R : Nat → Row) (P : Nat → Nat) (R' : Nat → Row) (P' : Nat → Nat) (ko i m' : Nat) : excK R P R' P' m' ko i = !hitE R P R' P' ko i m' := by
  unfold excK hitE
  rw [List.not_any_eq_all_not]
theorem hitE_stop {R : Nat → Row} {P : Nat → Nat} {R' : Nat → Row} {P' : Nat → Nat} {ko i k m' : Nat} (hk : k ≤ m') (h : hitE R P R' P' ko i k = true) : excK R P R' P' m' ko i = false := by
  rw [hitE_all]
  have : hitE R P R' P' ko i m' = true := by
    unfold hitE at h ⊢
    rw [List.any_eq_true] at h ⊢
    obtain ⟨j, k1, k2⟩ := h
    exact ⟨j, List.mem_range.2 (by have := List.mem_range.1 k1; omega), k2⟩
  rw [this]
  rfl
/-- what is told -/
def excF (C : Nat → ByteArray) (n : Nat) (R : Nat → Row) (m : Nat) (C' : Nat → ByteArray) (n' : Nat) (R' : Nat → Row) (m' : Nat) (O : Nat → ByteArray) (ko : Nat) : Int :=
  if twoF (relF C n R m) (relF C' n' R' m') = 0 then (if foundB C n O ko = true ∧ foundB C' n' O ko = true then 0 else 9) else twoF (relF C n R m) (relF C' n' R' m')
set_option maxHeartbeats 12800000 in
theorem exceptedOf_is (c q c' q' l : Value) (n m n' m' ko : Nat) (C C' O : Nat → ByteArray) (R R' : Nat → Row) (w : World) (hc : StrsIs w c n C) (hq : RowsIs w q m R) (hf : StrsFine n C) (hg : RowsFine m R) (hc' : StrsIs w c' n' C') (hq' : RowsIs w q' m' R') (hf' : StrsFine n' C') (hg' : RowsFine m' R') (hl : StrsIs w l ko O) (hfl : StrsFine ko O) (hko : ko * 32 ≤ 140737488351232) (hT : Tabs w) :
    Calls Tryd.prog 7 #[.agg #[c, q], .agg #[c', q'], l] w fun e w' => ∃ c1 q1, e = .returned (.tuple #[.agg #[c1, q1], .int .i64 (excF C n R m C' n' R' m' O ko)]) ∧ StrsIs w' c1 (okN (excF C n R m C' n' R' m' O ko) n) C ∧ RowsIs w' q1 (okN (excF C n R m C' n' R' m' O ko) (keptN (excK R (prP C n O) R' (prP C' n' O) m' ko) m)) (keptR (excK R (prP C n O) R' (prP C' n' O) m' ko) m R) ∧ Below w.heap.size w w' := by
  have C1 : Hid (∀ o o' o'', Calls Tryd.prog 16 #[.agg #[c, q], .agg #[c', q']] (((w.alloc o).alloc o').alloc o'') fun e w' => e = .returned (.int .i64 (twoF (relF C n R m) (relF C' n' R' m'))) ∧ Below (w.heap.size + 3) (((w.alloc o).alloc o').alloc o'') w') := fun o o' o'' => by
    have h := twoFault_is c q c' q' n m n' m' C C' R R' _ (hc.below (below_three o o' o'')) (hq.below (below_three o o' o'')) hf hg (hc'.below (below_three o o' o'')) (hq'.below (below_three o o' o'')) hf' hg' (Utf8Tabs_below hT (below_three o o' o''))
    rwa [size_three] at h
  have HW : Hid (∀ {W : World} {o o' o'' : Obj}, Below (w.heap.size + 3) (((w.alloc o).alloc o').alloc o'') W → Below w.heap.size w W) := fun h => (below_three _ _ _).trans (h.mono (by omega))
  have hqs : ∃ a x, q = .slice a m x := by obtain ⟨a, x, e, _⟩ := hq; exact ⟨a, x, e⟩
  have hqs' : ∃ a x, q' = .slice a m' x := by obtain ⟨a, x, e, _⟩ := hq'; exact ⟨a, x, e⟩
  have CY : Hid (foundB C n O ko = true → ∀ W, Below w.heap.size w W → Calls Tryd.prog 17 #[.agg #[c, q], l] W fun e w' => ∃ v, e = .returned (.tuple #[v, .bool true]) ∧ IntsIs w' v ko (prP C n O) ∧ (∃ a' c', v = .slice a' ko c') ∧ Below W.heap.size W w') := fun hP W hW => colsAt_yes c q l n m ko C O (prP C n O) W (hc.below hW) hqs (hl.below hW) (fun i hi => (found_yes hP i hi).1) hfl.1
  have CN : Hid (foundB C n O ko = false → ∀ W, Below w.heap.size w W → Calls Tryd.prog 17 #[.agg #[c, q], l] W fun e w' => e = .returned (.tuple #[.slice none 0 0, .bool false]) ∧ Below W.heap.size W w') := fun hP W hW => by
    obtain ⟨t, t1, t2, t3⟩ := found_no hP
    exact colsAt_no c q l n m ko C O (prP C n O) W (hc.below hW) hqs (hl.below hW) t t1 t3 t2 hfl.1
  have CY' : Hid (foundB C' n' O ko = true → ∀ W, Below w.heap.size w W → Calls Tryd.prog 17 #[.agg #[c', q'], l] W fun e w' => ∃ v, e = .returned (.tuple #[v, .bool true]) ∧ IntsIs w' v ko (prP C' n' O) ∧ (∃ a' c', v = .slice a' ko c') ∧ Below W.heap.size W w') := fun hP W hW => colsAt_yes c' q' l n' m' ko C' O (prP C' n' O) W (hc'.below hW) hqs' (hl.below hW) (fun i hi => (found_yes hP i hi).1) hfl.1
  have CN' : Hid (foundB C' n' O ko = false → ∀ W, Below w.heap.size w W → Calls Tryd.prog 17 #[.agg #[c', q'], l] W fun e w' => e = .returned (.tuple #[.slice none 0 0, .bool false]) ∧ Below W.heap.size W w') := fun hP W hW => by
    obtain ⟨t, t1, t2, t3⟩ := found_no hP
    exact colsAt_no c' q' l n' m' ko C' O (prP C' n' O) W (hc'.below hW) hqs' (hl.below hW) t t1 t3 t2 hfl.1
  have CA : Hid (∀ W, Below w.heap.size w W → Calls Tryd.prog 17 #[.agg #[c, q], l] W fun e w' => ∃ a k x bb, e = .returned (.tuple #[.slice a k x, .bool bb]) ∧ (bb = foundB C n O ko) ∧ Below W.heap.size W w') := fun W hW => by
    cases hfo : foundB C n O ko
    · exact (CN.out hfo W hW).mono (fun e w' ⟨h3, h4⟩ => ⟨_, _, _, _, h3, rfl, h4⟩)
    · exact (CY.out hfo W hW).mono (fun e w' ⟨v, h3, _, ⟨a, x, h5⟩, h4⟩ => by subst h5; exact ⟨_, _, _, _, h3, rfl, h4⟩)
  have CA' : Hid (∀ W, Below w.heap.size w W → Calls Tryd.prog 17 #[.agg #[c', q'], l] W fun e w' => ∃ a k x bb, e = .returned (.tuple #[.slice a k x, .bool bb]) ∧ (bb = foundB C' n' O ko) ∧ Below W.heap.size W w') := fun W hW => by
    cases hfo : foundB C' n' O ko
    · exact (CN'.out hfo W hW).mono (fun e w' ⟨h3, h4⟩ => ⟨_, _, _, _, h3, rfl, h4⟩)
    · exact (CY'.out hfo W hW).mono (fun e w' ⟨v, h3, _, ⟨a, x, h5⟩, h4⟩ => by subst h5; exact ⟨_, _, _, _, h3, rfl, h4⟩)
  have HC : Hid (∀ W, Below w.heap.size w W → StrsIs W c n C) := fun W hW => hc.below hW
  have HF : Hid (StrsFine n C) := hf
  obtain ⟨qa, qcap, rfl, q1, q2, _, q3⟩ := hq
  obtain ⟨qa', qcap', rfl, q1', q2', _, q3'⟩ := hq'
  have hmm : m ≤ 9223372036854775807 := by unfold maxLen at q2; omega
  have hmm' : m' ≤ 9223372036854775807 := by unfold maxLen at q2'; omega
  have HQ : Hid (∀ W i, Below w.heap.size w W → i < m → ∃ b off u, qa = some ⟨b, off, none⟩ ∧ b < w.heap.size ∧ W.cell? ⟨b, off + i, none⟩ = some u ∧ ItsIs W u (R i).len (R i).at_ ∧ (R i).len * 32 ≤ 140737488351232) := fun W i hW hi => by
    obtain ⟨b, off, h1, h2, h3⟩ := q3 (by omega)
    obtain ⟨u, h4, h5⟩ := h3 i hi
    exact ⟨b, off, u, h1, h2, (hW.cell (p := ⟨b, off + i, none⟩) h2).trans h4, h5.below hW, (hg.2 i hi).1⟩
  have HQ' : Hid (∀ W i, Below w.heap.size w W → i < m' → ∃ b off u, qa' = some ⟨b, off, none⟩ ∧ b < w.heap.size ∧ W.cell? ⟨b, off + i, none⟩ = some u ∧ ItsIs W u (R' i).len (R' i).at_) := fun W i hW hi => by
    obtain ⟨b, off, h1, h2, h3⟩ := q3' (by omega)
    obtain ⟨u, h4, h5⟩ := h3 i hi
    exact ⟨b, off, u, h1, h2, (hW.cell (p := ⟨b, off + i, none⟩) h2).trans h4, h5.below hW⟩
  obtain ⟨ca, ccap, rfl, _⟩ := hc
  obtain ⟨ca', ccap', rfl, _⟩ := hc'
  obtain ⟨la, lcap, rfl, _⟩ := hl
  clear hf hg hf' hg' hT hqs hqs' q2 q3 q2' q3' hfl
  by_cases h0 : twoF (relF C n R m) (relF C' n' R' m') = 0
  · have hm6 : m ≤ 1000000 := (relF_zero (twoF_zero h0).1).2.1
    have HLEN : Hid (∀ i, i < m → (R i).len = n) := row_len (twoF_zero h0).1
    have HLEN' : Hid (∀ i, i < m' → (R' i).len = n') := row_len (twoF_zero h0).2
    have HMADE : Hid (∀ k, k ≤ m → madeF C n k = 0) := fun k hk => madeF_ok (twoF_zero h0).1 hk
    have HUF : Hid (excF C n R m C' n' R' m' O ko = if foundB C n O ko = true ∧ foundB C' n' O ko = true then 0 else 9) := if_pos h0
    rw [h0] at C1
    clear h0
    generalize excF C n R m C' n' R' m' O ko = F at *
    by_cases hfo : foundB C n O ko = true ∧ foundB C' n' O ko = true
    · obtain ⟨hf1, hf2⟩ := hfo
      have HPN : Hid (∀ i, i < ko → prP C n O i < n) := fun i hi => (found_yes hf1 i hi).2
      have HPN' : Hid (∀ i, i < ko → prP C' n' O i < n') := fun i hi => (found_yes hf2 i hi).2
      have HF0 : Hid (F = 0) := HUF.out.trans (if_pos ⟨hf1, hf2⟩)
      have CC := Hid.out (p := Hid (∀ W, Below w.heap.size w W → _)) (CY.out hf1)
      have CC' := Hid.out (p := Hid (∀ W, Below w.heap.size w W → _)) (CY'.out hf2)
      clear CY CN CY' CN' CA CA' HUF hf1 hf2
      generalize prP C n O = P at *
      generalize prP C' n' O = P' at *
      go_enter Tryd.func7, Tryd.ntmps7
      go_wp2_with (first
        | (go_at_call 16; refine (C1.out _ _ _).mono ?_; rintro e w1 ⟨rfl, hb1⟩; have HB1 : Hid (Below (w.heap.size + 3) (((w.alloc (.cells #[.slice ca n ccap, .slice qa m qcap] 25)).alloc (.cells #[.slice ca' n' ccap', .slice qa' m' qcap'] 25)).alloc (.cells #[.slice none 0 0, .slice none 0 0] 25)) w1) := hb1; obtain ⟨x0, x1, x2, x3, x4, x5, x6, x7, x8⟩ := box3 hb1; clear hb1)
        | (go_at_call_has 17 (Value.slice ca n ccap); refine (CC _ (HW.out HB1.out)).mono ?_; rintro e w2 ⟨v2, rfl, hi2, hsh2, hb2⟩; obtain ⟨pa, pc, rfl⟩ := hsh2; have HI2 : Hid (IntsIs w2 (.slice pa ko pc) ko P) := hi2; have HB2 : Hid (Below (w.heap.size + 3) (((w.alloc (.cells #[.slice ca n ccap, .slice qa m qcap] 25)).alloc (.cells #[.slice ca' n' ccap', .slice qa' m' qcap'] 25)).alloc (.cells #[.slice none 0 0, .slice none 0 0] 25)) w2) := HB1.out.trans (hb2.mono (by omega)); clear x0 x1 x2 x3 x4 x5 x6 x7 x8; obtain ⟨x0, x1, x2, x3, x4, x5, x6, x7, x8⟩ := box3 HB2.out; clear hb2 hi2)
        | (go_at_call_has 17 (Value.slice ca' n' ccap'); refine (CC' _ (HW.out HB2.out)).mono ?_; rintro e w3 ⟨v3, rfl, hi3, hsh3, hb3⟩; obtain ⟨pa', pc', rfl⟩ := hsh3; have HI3 : Hid (IntsIs w3 (.slice pa' ko pc') ko P') := hi3; have HW23 : Hid (Below w2.heap.size w2 w3) := hb3; have HB3 : Hid (Below (w.heap.size + 3) (((w.alloc (.cells #[.slice ca n ccap, .slice qa m qcap] 25)).alloc (.cells #[.slice ca' n' ccap', .slice qa' m' qcap'] 25)).alloc (.cells #[.slice none 0 0, .slice none 0 0] 25)) w3) := HB2.out.trans (hb3.mono (by omega)); clear x0 x1 x2 x3 x4 x5 x6 x7 x8; obtain ⟨x0, x1, x2, x3, x4, x5, x6, x7, x8⟩ := box3 HB3.out; clear hb3 hi3))
      have hx8 : w.heap.size + 1 + 1 < w3.heap.size := x8
      have hw23 : w2.heap.size ≤ w3.heap.size := HW23.out.size
      go_loopw [13, 14] (fun v i wr => ∃ j : Nat, j ≤ m ∧ i = .int .i64 j ∧ RowsOwn wr w3.heap.size v (keptN (excK R P R' P' m' ko) j) (keptR (excK R P R' P' m' ko) m R) ∧ Below w3.heap.size w3 wr) (fun _ i _ => m - (intOf i).toNat)
      case atStart => exact ⟨0, Nat.zero_le _, rfl, RowsOwn.nil _ _ _, Below.refl _ _⟩
      case round =>
        obtain ⟨j, hj, rfl, hrow, hbr⟩ := hrel
        have HB4 : Hid (Below (w.heap.size + 3) (((w.alloc (.cells #[.slice ca n ccap, .slice qa m qcap] 25)).alloc (.cells #[.slice ca' n' ccap', .slice qa' m' qcap'] 25)).alloc (.cells #[.slice none 0 0, .slice none 0 0] 25)) wr) := HB3.out.trans (hbr.mono (by omega))
        have HBR : Hid (Below w3.heap.size w3 wr) := hbr
        have hzr : w3.heap.size ≤ wr.heap.size := hbr.size
        clear x0 x1 x2 x3 x4 x5 x6 x7 x8
        obtain ⟨x0, x1, x2, x3, x4, x5, x6, x7, x8⟩ := box3 HB4.out
        obtain ⟨ra, rc, rfl⟩ := hrow.shape
        have HROW : Hid (RowsOwn wr w3.heap.size (.slice ra (keptN (excK R P R' P' m' ko) j) rc) (keptN (excK R P R' P' m' ko) j) (keptR (excK R P R' P' m' ko) m R)) := hrow
        clear hrow hbr
        by_cases hjl : j < m
        · have hji : (j : Int) < (m : Int) := by omega
          have hkc : keptN (excK R P R' P' m' ko) j ≤ j := keptN_le _ _
          go_wp2
          go_loopw [15, 16] (fun bb i wr => ∃ k : Nat, k ≤ m' ∧ i = .int .i64 k ∧ bb = .bool (hitE R P R' P' ko j k) ∧ RowsOwn wr w3.heap.size (.slice ra (keptN (excK R P R' P' m' ko) j) rc) (keptN (excK R P R' P' m' ko) j) (keptR (excK R P R' P' m' ko) m R) ∧ Below w3.heap.size w3 wr) (fun bb i _ => m' - (intOf i).toNat)
          case atStart => exact ⟨0, Nat.zero_le _, rfl, rfl, HROW.out, HBR.out⟩
          case round =>
            clear HROW HBR HB4 hzr x0 x1 x2 x3 x4 x5 x6 x7 x8
            obtain ⟨k, hk, rfl, rfl, hrow, hbr⟩ := hrel
            have HB4 : Hid (Below (w.heap.size + 3) (((w.alloc (.cells #[.slice ca n ccap, .slice qa m qcap] 25)).alloc (.cells #[.slice ca' n' ccap', .slice qa' m' qcap'] 25)).alloc (.cells #[.slice none 0 0, .slice none 0 0] 25)) wr) := HB3.out.trans (hbr.mono (by omega))
            have HBR : Hid (Below w3.heap.size w3 wr) := hbr
            have hzr : w3.heap.size ≤ wr.heap.size := hbr.size
            have HROW : Hid (RowsOwn wr w3.heap.size (.slice ra (keptN (excK R P R' P' m' ko) j) rc) (keptN (excK R P R' P' m' ko) j) (keptR (excK R P R' P' m' ko) m R)) := hrow
            clear hrow hbr
            obtain ⟨x0, x1, x2, x3, x4, x5, x6, x7, x8⟩ := box3 HB4.out
            obtain ⟨b, off, u, rfl, hb0, e1, hu, hu32⟩ := HQ.out wr j (HW.out HB4.out) hjl
            have hbz : b < wr.heap.size := by omega
            rw [HLEN.out j hjl] at hu hu32
            have HU : Hid (ItsIs wr u n (R j).at_) := hu
            obtain ⟨ua, ucap, rfl, _⟩ := HU.out
            clear hu
            cases hh : hitE R P R' P' ko j k
            · by_cases hkl : k < m'
              · obtain ⟨g, go, u2, rfl, hgz0, e2, hu2⟩ := HQ'.out wr k (HW.out HB4.out) hkl
                rw [HLEN'.out k hkl] at hu2
                have hgz : g < wr.heap.size := by omega
                have HU2 : Hid (ItsIs wr u2 n' (R' k).at_) := hu2
                obtain ⟨ua2, ucap2, rfl, _⟩ := HU2.out
                have hki : (k : Int) < (m' : Int) := by omega
                have HNX : Hid (∀ s, s = sameB (pickX R P j) (pickX R' P' k) ko → hitE R P R' P' ko j (k + 1) = s) := fun s hs => by rw [hitE_succ, hh, Bool.false_or, hs]
                have HCW : Hid (∀ W, Chain wr W → Below w3.heap.size w3 W) := fun W h => HBR.out.trans (Below.mono h hzr)
                have CP1 : Hid (∀ W, Chain wr W → Calls Tryd.prog 19 #[.slice ua n ucap, .slice pa ko pc] W fun e w' => ∃ a x, e = .returned (.slice a ko x) ∧ ItsIs w' (.slice a ko x) ko (pickX R P j) ∧ Chain W w' ∧ Chain wr w') := fun W h => (picks_is (.slice ua n ucap) (.slice pa ko pc) n ko (R j).at_ P W (HU.out.below h) ((HI2.out.below HW23.out).below (HCW.out W h)) HPN.out hko).mono (fun e w' ⟨v, h1, h2, ⟨a, x, h3⟩, h4⟩ => by subst h3; exact ⟨a, x, h1, h2.is, h4, h.trans h4⟩)
                have CP2 : Hid (∀ W, Chain wr W → Calls Tryd.prog 19 #[.slice ua2 n' ucap2, .slice pa' ko pc'] W fun e w' => ∃ a x, e = .returned (.slice a ko x) ∧ ItsIs w' (.slice a ko x) ko (pickX R' P' k) ∧ Chain W w' ∧ Chain wr w') := fun W h => (picks_is (.slice ua2 n' ucap2) (.slice pa' ko pc') n' ko (R' k).at_ P' W (HU2.out.below h) (HI3.out.below (HCW.out W h)) HPN'.out hko).mono (fun e w' ⟨v, h1, h2, ⟨a, x, h3⟩, h4⟩ => by subst h3; exact ⟨a, x, h1, h2.is, h4, h.trans h4⟩)
                have CS : Hid (∀ W v5 v6, Chain wr W → ItsIs W v5 ko (pickX R P j) → ItsIs W v6 ko (pickX R' P' k) → Calls Tryd.prog 18 #[v5, v6] W fun e w' => e = .returned (.bool (sameB (pickX R P j) (pickX R' P' k) ko)) ∧ Chain wr w') := fun W v5 v6 h h1 h2 => (refSame_is v5 v6 ko _ _ W h1 h2).mono (fun e w' ⟨h3, h4⟩ => ⟨h3, h.trans h4⟩)
                have HS : Hid (∀ W, Chain wr W → W.cell? ⟨w.heap.size, 1, none⟩ = some (.slice (some ⟨b, off, none⟩) m qcap) ∧ W.cell? ⟨w.heap.size + 1, 1, none⟩ = some (.slice (some ⟨g, go, none⟩) m' qcap') ∧ W.cell? ⟨b, off + j, none⟩ = some (.slice ua n ucap) ∧ W.cell? ⟨g, go + k, none⟩ = some (.slice ua2 n' ucap2)) := fun W h => ⟨(Below.cell h (p := ⟨w.heap.size, 1, none⟩) (by show w.heap.size < wr.heap.size; omega)).trans x1, (Below.cell h (p := ⟨w.heap.size + 1, 1, none⟩) (by show w.heap.size + 1 < wr.heap.size; omega)).trans x3, (Below.cell h (p := ⟨b, off + j, none⟩) hbz).trans e1, (Below.cell h (p := ⟨g, go + k, none⟩) hgz).trans e2⟩
                have HB0 : Hid (Chain wr wr.drew) := (Chain.refl _).drew
                have HRC : Hid (∀ W, Chain wr W → RowsOwn W w3.heap.size (.slice ra (keptN (excK R P R' P' m' ko) j) rc) (keptN (excK R P R' P' m' ko) j) (keptR (excK R P R' P' m' ko) m R)) := fun W h => HROW.out.below h
                generalize sameB (pickX R P j) (pickX R' P' k) ko = sb at *
                generalize pickX R' P' k = Y2 at *
                generalize pickX R P j = Y1 at *
                clear hu2 hh
                go_upto_region 16 with fail
                go_region_held3 (fun W => W.cell? ⟨w.heap.size, 1, none⟩ = some (.slice (some ⟨b, off, none⟩) m qcap) ∧ W.cell? ⟨w.heap.size + 1, 1, none⟩ = some (.slice (some ⟨g, go, none⟩) m' qcap') ∧ W.cell? ⟨b, off + j, none⟩ = some (.slice ua n ucap) ∧ W.cell? ⟨g, go + k, none⟩ = some (.slice ua2 n' ucap2))
                  ((refine HS.out _ ?_; repeat (first | exact Hid.out (by assumption) | exact Chain.refl _ | refine Chain.drew ?_)))
                  (first
                    | (go_at_call_has 19 (Value.slice ua n ucap); refine (CP1.out _ ?_).mono ?_; (focus (repeat (first | exact Hid.out (by assumption) | exact Chain.refl _ | refine Chain.alloc ?_ _ | refine Chain.drew ?_))); rintro e w5 ⟨va5, vc5, rfl, hi5, hb5, hn5⟩; have HI5 : Hid (ItsIs w5 (.slice va5 ko vc5) ko Y1) := hi5; have HCH5 : Hid (Chain _ w5) := hb5; have HN5 : Hid (Chain wr w5) := hn5; clear hi5 hb5 hn5)
                    | (go_at_call_has 19 (Value.slice ua2 n' ucap2); refine (CP2.out _ ?_).mono ?_; (focus (repeat (first | exact Hid.out (by assumption) | exact Chain.refl _ | refine Chain.alloc ?_ _ | refine Chain.drew ?_))); rintro e w6 ⟨va6, vc6, rfl, hi6, hb6, hn6⟩; have HI6 : Hid (ItsIs w6 (.slice va6 ko vc6) ko Y2) := hi6; have HCH6 : Hid (Chain _ w6) := hb6; have HN6 : Hid (Chain wr w6) := hn6; clear hi6 hb6 hn6)
                    | (go_at_call 18; refine (CS.out _ _ _ ?_ ?_ ?_).mono ?_; (focus (repeat (first | exact Hid.out (by assumption) | exact Chain.refl _ | refine Chain.alloc ?_ _ | refine Chain.drew ?_))); (focus (repeat (first | exact HI5.out | refine its_chain ?_ HCH6.out))); (focus (repeat (first | exact HI6.out | refine its_chain ?_ HCH5.out))); rintro e w7 ⟨rfl, hn7⟩; have HN7 : Hid (Chain wr w7) := hn7; clear hn7))
                all_goals
                  clear HN5 HN6 HCH5 HCH6 HI5 HI6
                  go_split_ands
                  go_wp2_with fail
                  go_roundw
                  case rel => exact ⟨k + 1, by omega, by go_num, by rw [HNX.out _ rfl], HRC.out _ HN7.out, HCW.out _ HN7.out⟩
                  case measure => simp [intOf]; omega
              · have e : k = m' := by omega
                have hK : excK R P R' P' m' ko j = true := by rw [hitE_all, ← e, hh]; rfl
                have HAT : Hid (keptR (excK R P R' P' m' ko) m R (keptN (excK R P R' P' m' ko) j) = R j) := keptR_at R hjl hK
                have HN1 : Hid (keptN (excK R P R' P' m' ko) (j + 1) = keptN (excK R P R' P' m' ko) j + 1) := keptN_yes hK
                have HLJ : Hid ((R j).len = n) := HLEN.out j hjl
                have hki : ¬ ((k : Int) < (m' : Int)) := by omega
                clear e hK hh
                generalize keptN (excK R P R' P' m' ko) j = N at *
                go_wp2_with (first
                  | (go_at_call 20; refine (items_one wr.heap.size 0 1 (.slice ua n ucap) n (R j).at_ _ (Nat.le_refl _) (by unfold maxLen; omega) (by simp) (by simp) (HU.out.alloc _) hu32).mono ?_; rintro e w5 ⟨v5, rfl, hi5, hsh5, hb5⟩; obtain ⟨va5, vc5, rfl⟩ := hsh5; have HI5 : Hid (ItsApart w5 w3.heap.size (Value.slice ra N rc).ownBlock (.slice va5 n vc5) n (R j).at_) := hi5.weaken (by simp; omega) (fun z hz => by have := (HROW.out.lt z hz).2; simp; omega); have HR5 : Hid (RowsOwn w5 w3.heap.size (.slice ra N rc) N (keptR (excK R P R' P' m' ko) m R)) := (HROW.out.alloc _).below hb5; have HB5 : Hid (Below w3.heap.size wr w5) := ((Below.refl _ _).alloc (by omega) _).trans (hb5.mono (by simp; omega)); have hz5 : w3.heap.size ≤ w5.heap.size := (by have := HB5.out.size; omega); clear hi5 hb5)
                  | (at_builtin; refine wpList_push_row rfl (.tmp 89) (.tmp 91) rfl w3.heap.size N (.slice ra N rc) (keptR (excK R P R' P' m' ko) m R) rfl (HR5.out.alloc _) (by simp; omega) ⟨w5.heap.size, 0, none⟩ 1 (.slice va5 n vc5) rfl (by simp) (by rw [HAT.out, HLJ.out]; exact HI5.out.alloc _) (by omega) ?_; intro v6 w6 hr6 hsh6 hg6; obtain ⟨va6, vc6, rfl⟩ := hsh6; have HR6 : Hid (RowsOwn w6 w3.heap.size (.slice va6 (N + 1) vc6) (N + 1) (keptR (excK R P R' P' m' ko) m R)) := hr6; have HB6 : Hid (Below w3.heap.size wr w6) := (HB5.out.alloc (by omega) _).grown hg6 (by simp; omega) (fun z hz => (HROW.out.lt z hz).1); clear hr6 hg6))
                go_roundw
                case rel => exact ⟨j + 1, by omega, by go_num, by rw [HN1.out]; exact HR6.out, HBR.out.trans HB6.out⟩
                case measure => simp [intOf]; omega
            · have HKK : Hid (excK R P R' P' m' ko j = false) := hitE_stop hk hh
              by_cases hkl : k < m'
              · have hki : (k : Int) < (m' : Int) := by omega
                go_wp2
                go_roundw
                case rel => exact ⟨j + 1, by omega, by go_num, by rw [keptN_no HKK.out]; exact HROW.out, HBR.out⟩
                case measure => simp [intOf]; omega
              · have hki : ¬ ((k : Int) < (m' : Int)) := by omega
                go_wp2
                go_roundw
                case rel => exact ⟨j + 1, by omega, by go_num, by rw [keptN_no HKK.out]; exact HROW.out, HBR.out⟩
                case measure => simp [intOf]; omega
        · have e : j = m := by omega
          subst e
          have HM0 : Hid (madeF C n (keptN (excK R P R' P' m' ko) j) = 0) := HMADE.out _ (keptN_le _ _)
          have HR : Hid (Calls Tryd.prog 21 #[.slice ca n ccap, .slice ra (keptN (excK R P R' P' m' ko) j) rc] wr fun e w' => ∃ c' q', e = .returned (.tuple #[.agg #[c', q'], .int .i64 0]) ∧ StrsFrom w' wr.heap.size c' (okN 0 n) C ∧ q' = keptV 0 (.slice ra (keptN (excK R P R' P' m' ko) j) rc) ∧ Below wr.heap.size wr w') := by
            have h := relOf_is (.slice ca n ccap) (.slice ra (keptN (excK R P R' P' m' ko) j) rc) n (keptN (excK R P R' P' m' ko) j) C (keptR (excK R P R' P' m' ko) j R) wr (HC.out wr (HW.out HB4.out)) HROW.out.is HF.out
            rwa [HM0.out] at h
          go_wp2_with (first | (go_at_call 21; refine HR.out.mono ?_; rintro e w5 ⟨c5, q5, rfl, hc5, hq5, hb5⟩; have hq6 : q5 = .slice ra (keptN (excK R P R' P' m' ko) j) rc := hq5; subst hq6; have HC5 : Hid (StrsFrom w5 (w.heap.size + 3) c5 n C) := StrsFrom.weaken hc5 (by omega); have HR5 : Hid (RowsOwn w5 w3.heap.size (.slice ra (keptN (excK R P R' P' m' ko) j) rc) (keptN (excK R P R' P' m' ko) j) (keptR (excK R P R' P' m' ko) j R)) := HROW.out.below hb5; have HB5 : Hid (Below (w.heap.size + 3) (((w.alloc (.cells #[.slice ca n ccap, .slice qa j qcap] 25)).alloc (.cells #[.slice ca' n' ccap', .slice qa' m' qcap'] 25)).alloc (.cells #[.slice none 0 0, .slice none 0 0] 25)) w5) := HB4.out.trans (hb5.mono (by omega)); clear x0 x1 x2 x3 x4 x5 x6 x7 x8; obtain ⟨x0, x1, x2, x3, x4, x5, x6, x7, x8⟩ := box3 HB5.out; obtain ⟨ca5, cc5, rfl, _⟩ := hc5; clear hb5 hq5 HR))
          refine bodyPost_ret (v := .tuple #[.agg #[.slice ca5 (okN 0 n) cc5, .slice ra (keptN (excK R P R' P' m' ko) j) rc], .int .i64 0]) (by simp [results, Tryd.results7, go_sem, x4, x5]) rfl ⟨_, _, by rw [HF0.out], ?_, ?_, (((HW.out HB5.out)).setCell (by simp <;> omega) _).setCell (by simp <;> omega) _⟩
          · rw [HF0.out]; exact ((HC5.out.setCell (by simp <;> omega) _).setCell (by simp <;> omega) _).is
          · rw [HF0.out]; exact ((HR5.out.setCell (by simp <;> omega) _).setCell (by simp <;> omega) _).is
    · have HFF : Hid (F = 9) := HUF.out.trans (if_neg hfo)
      have hbb : ¬ (foundB C n O ko = true ∧ foundB C' n' O ko = true) := hfo
      clear CY CN CY' CN' HUF hfo
      generalize foundB C n O ko = b1 at *
      generalize foundB C' n' O ko = b2 at *
      generalize keptR (excK R (prP C n O) R' (prP C' n' O) m' ko) m R = U at *
      generalize keptN (excK R (prP C n O) R' (prP C' n' O) m' ko) m = N1 at *
      cases b1
      · go_enter Tryd.func7, Tryd.ntmps7
        go_wp2_with (first
          | (go_at_call 16; refine (C1.out _ _ _).mono ?_; rintro e w1 ⟨rfl, hb1⟩; have HB1 : Hid (Below (w.heap.size + 3) (((w.alloc (.cells #[.slice ca n ccap, .slice qa m qcap] 25)).alloc (.cells #[.slice ca' n' ccap', .slice qa' m' qcap'] 25)).alloc (.cells #[.slice none 0 0, .slice none 0 0] 25)) w1) := hb1; obtain ⟨x0, x1, x2, x3, x4, x5, x6, x7, x8⟩ := box3 hb1; clear hb1)
          | (go_at_call_has 17 (Value.slice ca n ccap); refine (CA.out _ (HW.out HB1.out)).mono ?_; rintro e w2 ⟨pa, pk, pc, bb2, rfl, hbb2, hb2⟩; subst hbb2; have HB2 : Hid (Below (w.heap.size + 3) (((w.alloc (.cells #[.slice ca n ccap, .slice qa m qcap] 25)).alloc (.cells #[.slice ca' n' ccap', .slice qa' m' qcap'] 25)).alloc (.cells #[.slice none 0 0, .slice none 0 0] 25)) w2) := HB1.out.trans (hb2.mono (by omega)); clear x0 x1 x2 x3 x4 x5 x6 x7 x8; obtain ⟨x0, x1, x2, x3, x4, x5, x6, x7, x8⟩ := box3 HB2.out; clear hb2)
          | (go_at_call_has 17 (Value.slice ca' n' ccap'); refine (CA'.out _ (HW.out HB2.out)).mono ?_; rintro e w3 ⟨pa', pk', pc', bb3, rfl, hbb3, hb3⟩; subst hbb3; have HB3 : Hid (Below (w.heap.size + 3) (((w.alloc (.cells #[.slice ca n ccap, .slice qa m qcap] 25)).alloc (.cells #[.slice ca' n' ccap', .slice qa' m' qcap'] 25)).alloc (.cells #[.slice none 0 0, .slice none 0 0] 25)) w3) := HB2.out.trans (hb3.mono (by omega)); clear x0 x1 x2 x3 x4 x5 x6 x7 x8; obtain ⟨x0, x1, x2, x3, x4, x5, x6, x7, x8⟩ := box3 HB3.out; clear hb3))
        refine bodyPost_ret (v := .tuple #[.agg #[.slice none 0 0, .slice none 0 0], .int .i64 9]) (by simp [results, Tryd.results7, go_sem, x4, x5]) rfl ⟨_, _, by rw [HFF.out], ?_, ?_, (((HW.out HB3.out)).setCell (by simp <;> omega) _).setCell (by simp <;> omega) _⟩
        · rw [HFF.out]; exact nil_strs _ _
        · rw [HFF.out]; exact nil_rows _ _
      · have hb2 : b2 = false := by
          cases b2
          · rfl
          · exact absurd ⟨rfl, rfl⟩ hbb
        subst hb2
        clear hbb
        go_enter Tryd.func7, Tryd.ntmps7
        go_wp2_with (first
          | (go_at_call 16; refine (C1.out _ _ _).mono ?_; rintro e w1 ⟨rfl, hb1⟩; have HB1 : Hid (Below (w.heap.size + 3) (((w.alloc (.cells #[.slice ca n ccap, .slice qa m qcap] 25)).alloc (.cells #[.slice ca' n' ccap', .slice qa' m' qcap'] 25)).alloc (.cells #[.slice none 0 0, .slice none 0 0] 25)) w1) := hb1; obtain ⟨x0, x1, x2, x3, x4, x5, x6, x7, x8⟩ := box3 hb1; clear hb1)
          | (go_at_call_has 17 (Value.slice ca n ccap); refine (CA.out _ (HW.out HB1.out)).mono ?_; rintro e w2 ⟨pa, pk, pc, bb2, rfl, hbb2, hb2⟩; subst hbb2; have HB2 : Hid (Below (w.heap.size + 3) (((w.alloc (.cells #[.slice ca n ccap, .slice qa m qcap] 25)).alloc (.cells #[.slice ca' n' ccap', .slice qa' m' qcap'] 25)).alloc (.cells #[.slice none 0 0, .slice none 0 0] 25)) w2) := HB1.out.trans (hb2.mono (by omega)); clear x0 x1 x2 x3 x4 x5 x6 x7 x8; obtain ⟨x0, x1, x2, x3, x4, x5, x6, x7, x8⟩ := box3 HB2.out; clear hb2)
          | (go_at_call_has 17 (Value.slice ca' n' ccap'); refine (CA'.out _ (HW.out HB2.out)).mono ?_; rintro e w3 ⟨pa', pk', pc', bb3, rfl, hbb3, hb3⟩; subst hbb3; have HB3 : Hid (Below (w.heap.size + 3) (((w.alloc (.cells #[.slice ca n ccap, .slice qa m qcap] 25)).alloc (.cells #[.slice ca' n' ccap', .slice qa' m' qcap'] 25)).alloc (.cells #[.slice none 0 0, .slice none 0 0] 25)) w3) := HB2.out.trans (hb3.mono (by omega)); clear x0 x1 x2 x3 x4 x5 x6 x7 x8; obtain ⟨x0, x1, x2, x3, x4, x5, x6, x7, x8⟩ := box3 HB3.out; clear hb3))
        refine bodyPost_ret (v := .tuple #[.agg #[.slice none 0 0, .slice none 0 0], .int .i64 9]) (by simp [results, Tryd.results7, go_sem, x4, x5]) rfl ⟨_, _, by rw [HFF.out], ?_, ?_, (((HW.out HB3.out)).setCell (by simp <;> omega) _).setCell (by simp <;> omega) _⟩
        · rw [HFF.out]; exact nil_strs _ _
        · rw [HFF.out]; exact nil_rows _ _
  · have HFF : Hid (excF C n R m C' n' R' m' O ko = twoF (relF C n R m) (relF C' n' R' m')) := if_neg h0
    have HNZ : Hid (¬ twoF (relF C n R m) (relF C' n' R' m') = 0) := h0
    have h1 : (twoF (relF C n R m) (relF C' n' R' m') != 0) = true := by simpa using h0
    have h2 : (twoF (relF C n R m) (relF C' n' R' m') == 0) = false := by simpa using h0
    clear h0 CY CN CY' CN'
    generalize keptR (excK R (prP C n O) R' (prP C' n' O) m' ko) m R = U at *
    generalize keptN (excK R (prP C n O) R' (prP C' n' O) m' ko) m = N1 at *
    generalize excF C n R m C' n' R' m' O ko = F at *
    generalize twoF (relF C n R m) (relF C' n' R' m') = G at *
    generalize foundB C n O ko = b1 at *
    generalize foundB C' n' O ko = b2 at *
    go_enter Tryd.func7, Tryd.ntmps7
    go_wp2_with (first
      | (go_at_call 16; refine (C1.out _ _ _).mono ?_; rintro e w1 ⟨rfl, hb1⟩; have HB1 : Hid (Below (w.heap.size + 3) (((w.alloc (.cells #[.slice ca n ccap, .slice qa m qcap] 25)).alloc (.cells #[.slice ca' n' ccap', .slice qa' m' qcap'] 25)).alloc (.cells #[.slice none 0 0, .slice none 0 0] 25)) w1) := hb1; obtain ⟨x0, x1, x2, x3, x4, x5, x6, x7, x8⟩ := box3 hb1; clear hb1)
      | (go_at_call_has 17 (Value.slice ca n ccap); refine (CA.out _ (HW.out HB1.out)).mono ?_; rintro e w2 ⟨pa, pk, pc, bb2, rfl, hbb2, hb2⟩; subst hbb2; have HB2 : Hid (Below (w.heap.size + 3) (((w.alloc (.cells #[.slice ca n ccap, .slice qa m qcap] 25)).alloc (.cells #[.slice ca' n' ccap', .slice qa' m' qcap'] 25)).alloc (.cells #[.slice none 0 0, .slice none 0 0] 25)) w2) := HB1.out.trans (hb2.mono (by omega)); clear x0 x1 x2 x3 x4 x5 x6 x7 x8; obtain ⟨x0, x1, x2, x3, x4, x5, x6, x7, x8⟩ := box3 HB2.out; clear hb2)
      | (go_at_call_has 17 (Value.slice ca' n' ccap'); refine (CA'.out _ (HW.out HB2.out)).mono ?_; rintro e w3 ⟨pa', pk', pc', bb3, rfl, hbb3, hb3⟩; subst hbb3; have HB3 : Hid (Below (w.heap.size + 3) (((w.alloc (.cells #[.slice ca n ccap, .slice qa m qcap] 25)).alloc (.cells #[.slice ca' n' ccap', .slice qa' m' qcap'] 25)).alloc (.cells #[.slice none 0 0, .slice none 0 0] 25)) w3) := HB2.out.trans (hb3.mono (by omega)); clear x0 x1 x2 x3 x4 x5 x6 x7 x8; obtain ⟨x0, x1, x2, x3, x4, x5, x6, x7, x8⟩ := box3 HB3.out; clear hb3))
    refine bodyPost_ret (v := .tuple #[.agg #[.slice none 0 0, .slice none 0 0], .int .i64 G]) (by simp [results, Tryd.results7, go_sem, x4, x5]) rfl ⟨_, _, by rw [HFF.out], ?_, ?_, (((HW.out HB3.out)).setCell (by simp <;> omega) _).setCell (by simp <;> omega) _⟩
    · rw [HFF.out, okN, if_neg HNZ.out]; exact nil_strs _ _
    · rw [HFF.out, okN, if_neg HNZ.out]; exact nil_rows _ _
end Go.Proofs.YtpikhoilligkdaaDoor
