/-
  CONTRACT of rel.Except.
-/
import Derived.Test.YtkcejelmohameaaGreatDoorRlRk
import Derived.Test.YtkcejelmohameaaGreatDoorRlCrossI
set_option linter.unusedVariables false
namespace Go.Proofs.YtkcejelmohameaaGreatDoor
set_option maxRecDepth 100000
open Go.RowKit Go.WideShapes

theorem colI_at {C : Nat → ByteArray} {n p : Nat} {s : ByteArray} (h : colI C n s = (p : Int)) : C p = s := by
  by_cases hx : ∃ k, k < n ∧ ((C k).toList == s.toList) = true ∧ ∀ j, j < k → ((C j).toList == s.toList) = false
  · obtain ⟨k, h1, h2, h3⟩ := hx
    rw [colI_hit h1 h2 h3] at h
    have e : k = p := by omega
    subst e
    exact (Lib.bytes_beq_iff _ _).1 h2
  · exfalso
    have : colI C n s = -1 := by
      refine colI_miss ?_
      intro j
      induction j using Nat.strongRecOn with
      | _ j ih =>
        intro hj
        cases e : ((C j).toList == s.toList)
        · rfl
        · exact absurd ⟨j, hj, e, fun i hi => ih i hi (by omega)⟩ hx
    omega
/-- a column's name has a place of its own -/
theorem prP_inj {C : Nat → ByteArray} {n : Nat} {O : Nat → ByteArray} {ko : Nat} (h : foundB C n O ko = true) : ∀ s t, s < ko → t < ko → (prP C n O s = prP C n O t ↔ O s = O t) := by
  intro s t hs ht
  constructor
  · intro e
    have h1 := colI_at (found_yes h s hs).1
    have h2 := colI_at (found_yes h t ht).1
    rw [e] at h1
    exact h1.symm.trans h2
  · intro e
    unfold prP
    rw [e]
/-- the keys of the first rows of the other one -/
def keysE (R' : Nat → Row) (P' : Nat → Nat) (ko k : Nat) (v : Value) : Prop := ∃ i, i < k ∧ v = keyV (keyX (R' i).at_ (dedP P' ko) (keptN (firstB P') ko))
theorem keys_exc {R R' : Nat → Row} {P P' : Nat → Nat} {ko i m' : Nat} (hPQ : ∀ s t, s < ko → t < ko → (P s = P t ↔ P' s = P' t)) (h8 : keptN (firstB P) ko ≤ 8) (h8' : keptN (firstB P') ko ≤ 8) : (¬ keysE R' P' ko m' (keyV (keyX (R i).at_ (dedP P ko) (keptN (firstB P) ko)))) ↔ excK R P R' P' m' ko i = true := by
  have hk : ∀ j, keyV (keyX (R i).at_ (dedP P ko) (keptN (firstB P) ko)) = keyV (keyX (R' j).at_ (dedP P' ko) (keptN (firstB P') ko)) ↔ sameB (pickX R P i) (pickX R' P' j) ko = true := fun j => by
    rw [sameB_iff]
    constructor
    · intro h
      refine (key_same (P := P) (Q := P') hPQ h8).1 ?_
      funext t
      by_cases ht : t < 8
      · exact keyV_inj h t ht
      · unfold keyX
        rw [if_neg (by omega), if_neg (by omega)]
    · intro h
      rw [(key_same (P := P) (Q := P') hPQ h8).2 h]
  unfold excK
  rw [List.all_eq_true]
  constructor
  · intro h j hj
    cases e : sameB (pickX R P i) (pickX R' P' j) ko
    · rfl
    · exact absurd ⟨j, List.mem_range.1 hj, (hk j).2 e⟩ h
  · rintro h ⟨j, h1, h2⟩
    have h3 := h j (List.mem_range.2 h1)
    rw [(hk j).1 h2] at h3
    exact absurd h3 (by decide)
/-- a map, and a place for it were made -/
theorem set_made2 (w3 : World) : SetIs ((w3.alloc (.map #[] 0)).alloc (.cells #[.map (some w3.heap.size)] 162)) w3.heap.size 0 (fun _ => False) ∧ ((w3.alloc (.map #[] 0)).alloc (.cells #[.map (some w3.heap.size)] 162)).cell? ⟨w3.heap.size + 1, 0, none⟩ = some (.map (some w3.heap.size)) ∧ ((w3.alloc (.map #[] 0)).alloc (.cells #[.map (some w3.heap.size)] 162)).heap.size = w3.heap.size + 2 ∧ Below w3.heap.size w3 ((w3.alloc (.map #[] 0)).alloc (.cells #[.map (some w3.heap.size)] 162)) := by
  have hs := SetIs.made w3
  have a2 := one_newQ (w3.alloc (.map #[] 0)) (.map (some w3.heap.size)) 162
  rw [show (w3.alloc (.map #[] 0)).heap.size = w3.heap.size + 1 by simp] at a2
  exact ⟨hs.keep (((Below.refl _ _).alloc (Nat.le_refl _) _).block w3.heap.size (by simp)), a2, by simp, ((Below.refl _ _).alloc (Nat.le_refl _) _).alloc (by simp) _⟩
set_option maxHeartbeats 12800000 in
theorem except_is (c q c' q' l : Value) (n m n' m' ko : Nat) (C C' O : Nat → ByteArray) (R R' : Nat → Row) (w : World) (hc : StrsIs w c n C) (hq : RowsIs w q m R) (hf : StrsFine n C) (hg : RowsFine m R) (hc' : StrsIs w c' n' C') (hq' : RowsIs w q' m' R') (hf' : StrsFine n' C') (hg' : RowsFine m' R') (hl : StrsIs w l ko O) (hfl : StrsFine ko O) (hT : Tabs w) :
    Calls Tryz.prog 104 #[.agg #[c, q], .agg #[c', q'], l] w fun e w' => ∃ c1 q1, e = .returned (.tuple #[.agg #[c1, q1], .int .i64 (excF C n R m C' n' R' m' O ko)]) ∧ FreshRel w w' c1 q1 (okN (excF C n R m C' n' R' m' O ko) n) (okN (excF C n R m C' n' R' m' O ko) (keptN (excK R (prP C n O) R' (prP C' n' O) m' ko) m)) C (keptR (excK R (prP C n O) R' (prP C' n' O) m' ko) m R) ∧ Below w.heap.size w w' := by
  have C1 : Hid (∀ o o' o'', Calls Tryz.prog 137 #[.agg #[c, q], .agg #[c', q']] (((w.alloc o).alloc o').alloc o'') fun e w' => e = .returned (.int .i64 (twoF (relF C n R m) (relF C' n' R' m'))) ∧ Below (w.heap.size + 3) (((w.alloc o).alloc o').alloc o'') w') := fun o o' o'' => by
    have h := checkBoth_is c q c' q' n m n' m' C C' R R' _ (hc.below (below_three o o' o'')) (hq.below (below_three o o' o'')) hf hg (hc'.below (below_three o o' o'')) (hq'.below (below_three o o' o'')) hf' hg' (Utf8Tabs_below hT (below_three o o' o''))
    rwa [size_three] at h
  have HW : Hid (∀ {W : World} {o o' o'' : Obj}, Below (w.heap.size + 3) (((w.alloc o).alloc o').alloc o'') W → Below w.heap.size w W) := fun h => (below_three _ _ _).trans (h.mono (by omega))
  have CY : Hid (foundB C n O ko = true → ∀ W, Below w.heap.size w W → Calls Tryz.prog 143 #[c, l] W fun e w' => ∃ v, e = .returned (.tuple #[v, .int .i64 0]) ∧ IntsIs w' v (keptN (firstB (prP C n O)) ko) (dedP (prP C n O) ko) ∧ (∃ a' c', v = .slice a' (keptN (firstB (prP C n O)) ko) c') ∧ Below W.heap.size W w') := fun hP W hW => columns_yes c l n ko C O (prP C n O) W (hc.below hW) (hl.below hW) (fun i hi => (found_yes hP i hi).1) hfl.1
  have CN : Hid (foundB C n O ko = false → ∀ W, Below w.heap.size w W → Calls Tryz.prog 143 #[c, l] W fun e w' => e = .returned (.tuple #[.slice none 0 0, .int .i64 9]) ∧ Below W.heap.size W w') := fun hP W hW => by
    obtain ⟨t, t1, t2, t3⟩ := found_no hP
    exact columns_no c l n ko C O (prP C n O) W (hc.below hW) (hl.below hW) t t1 t3 t2 hfl.1
  have CY' : Hid (foundB C' n' O ko = true → ∀ W, Below w.heap.size w W → Calls Tryz.prog 143 #[c', l] W fun e w' => ∃ v, e = .returned (.tuple #[v, .int .i64 0]) ∧ IntsIs w' v (keptN (firstB (prP C' n' O)) ko) (dedP (prP C' n' O) ko) ∧ (∃ a' c', v = .slice a' (keptN (firstB (prP C' n' O)) ko) c') ∧ Below W.heap.size W w') := fun hP W hW => columns_yes c' l n' ko C' O (prP C' n' O) W (hc'.below hW) (hl.below hW) (fun i hi => (found_yes hP i hi).1) hfl.1
  have CN' : Hid (foundB C' n' O ko = false → ∀ W, Below w.heap.size w W → Calls Tryz.prog 143 #[c', l] W fun e w' => e = .returned (.tuple #[.slice none 0 0, .int .i64 9]) ∧ Below W.heap.size W w') := fun hP W hW => by
    obtain ⟨t, t1, t2, t3⟩ := found_no hP
    exact columns_no c' l n' ko C' O (prP C' n' O) W (hc'.below hW) (hl.below hW) t t1 t3 t2 hfl.1
  have HC : Hid (∀ W, Below w.heap.size w W → StrsIs W c n C) := fun W hW => hc.below hW
  have HQR : Hid (∀ W, Below w.heap.size w W → RowsIs W q m R) := fun W hW => hq.below hW
  have HFN : Hid (n * 16 ≤ 140737488351232) := hf.1
  have HG : Hid (∀ i, i < m → (R i).len * 32 ≤ 140737488351232) := fun i hi => (hg.2 i hi).1
  have HGF : Hid (RowsFine m R) := hg
  have HGF' : Hid (RowsFine m' R') := hg'
  obtain ⟨qa, qcap, rfl, _⟩ := hq
  obtain ⟨qa', qcap', rfl, q1', q2', _, q3'⟩ := hq'
  have HQ' : Hid (∀ W i, Below w.heap.size w W → i < m' → ∃ b off u, qa' = some ⟨b, off, none⟩ ∧ b < w.heap.size ∧ W.cell? ⟨b, off + i, none⟩ = some u ∧ ItsIs W u (R' i).len (R' i).at_) := fun W i hW hi => by
    obtain ⟨b, off, h1, h2, h3⟩ := q3' (by omega)
    obtain ⟨u, h4, h5⟩ := h3 i hi
    exact ⟨b, off, u, h1, h2, (hW.cell (p := ⟨b, off + i, none⟩) h2).trans h4, h5.below hW⟩
  obtain ⟨ca, ccap, rfl, _⟩ := hc
  obtain ⟨ca', ccap', rfl, _⟩ := hc'
  obtain ⟨la, lcap, rfl, _⟩ := hl
  clear hf hg hf' hg' hT hfl q2' q3'
  by_cases h0 : twoF (relF C n R m) (relF C' n' R' m') = 0
  · obtain ⟨ha, hb⟩ := twoF_zero h0
    have hm6 : m ≤ 1000000 := (relF_zero ha).2.1
    have hm6' : m' ≤ 1000000 := (relF_zero hb).2.1
    have hn8 : n ≤ 8 := colsF_le (relF_zero ha).1
    have hn8' : n' ≤ 8 := colsF_le (relF_zero hb).1
    have HLEN : Hid (∀ i, i < m → (R i).len = n) := row_len ha
    have HLEN' : Hid (∀ i, i < m' → (R' i).len = n') := row_len hb
    have HFIT : Hid (∀ i, i < m → ∀ t, t < n → fitIQ ((R i).at_ t)) := fit_relQ ha HGF.out
    have HFIT' : Hid (∀ i, i < m' → ∀ t, t < n' → fitIQ ((R' i).at_ t)) := fit_relQ hb HGF'.out
    have HUF : Hid (excF C n R m C' n' R' m' O ko = if foundB C n O ko = true ∧ foundB C' n' O ko = true then 0 else 9) := if_pos h0
    rw [h0] at C1
    clear h0 ha hb
    generalize excF C n R m C' n' R' m' O ko = F at *
    cases hf1 : foundB C n O ko
    · have HFF : Hid (F = 9) := HUF.out.trans (if_neg (fun h => by rw [hf1] at h; exact absurd h.1 (by decide)))
      have CC : Hid (∀ W, Below w.heap.size w W → Calls Tryz.prog 143 #[.slice ca n ccap, .slice la ko lcap] W fun e w' => e = .returned (.tuple #[.slice none 0 0, .int .i64 9]) ∧ Below W.heap.size W w') := CN.out hf1
      clear CY CN CY' CN' HUF
      generalize keptR (excK R (prP C n O) R' (prP C' n' O) m' ko) m R = U at *
      generalize keptN (excK R (prP C n O) R' (prP C' n' O) m' ko) m = N1 at *
      go_enter Tryz.func104, Tryz.ntmps104
      go_wp2_with (first
        | (go_at_call 137; refine (C1.out _ _ _).mono ?_; rintro e w1 ⟨rfl, hb1⟩; have HB1 : Hid (Below (w.heap.size + 3) (((w.alloc (.cells #[.slice ca n ccap, .slice qa m qcap] 40)).alloc (.cells #[.slice ca' n' ccap', .slice qa' m' qcap'] 40)).alloc (.cells #[.slice none 0 0, .slice none 0 0] 40)) w1) := hb1; obtain ⟨x0, x1, x2, x3, x4, x5, x6, x7, x8⟩ := box3 hb1; clear hb1)
        | (go_at_call 143; refine (CC.out _ (HW.out HB1.out)).mono ?_; rintro e w2 ⟨rfl, hb2⟩; have HB2 : Hid (Below (w.heap.size + 3) (((w.alloc (.cells #[.slice ca n ccap, .slice qa m qcap] 40)).alloc (.cells #[.slice ca' n' ccap', .slice qa' m' qcap'] 40)).alloc (.cells #[.slice none 0 0, .slice none 0 0] 40)) w2) := HB1.out.trans (hb2.mono (by omega)); clear x0 x1 x2 x3 x4 x5 x6 x7 x8; obtain ⟨x0, x1, x2, x3, x4, x5, x6, x7, x8⟩ := box3 HB2.out; clear hb2))
      refine bodyPost_ret (v := .tuple #[.agg #[.slice none 0 0, .slice none 0 0], .int .i64 9]) (by simp [results, Tryz.results104, go_sem, x4, x5, x8]) rfl ⟨_, _, by rw [HFF.out], ?_, ?_⟩
      · rw [HFF.out]; exact FreshRel.nil _ _ _ _
      · exact (((HW.out HB2.out).setCell (by simp <;> omega) _).setCell (by simp <;> omega) _).alloc (by simp <;> omega) _
    · have CC : Hid (∀ W, Below w.heap.size w W → Calls Tryz.prog 143 #[.slice ca n ccap, .slice la ko lcap] W fun e w' => ∃ v, e = .returned (.tuple #[v, .int .i64 0]) ∧ IntsIs w' v (keptN (firstB (prP C n O)) ko) (dedP (prP C n O) ko) ∧ (∃ a' c', v = .slice a' (keptN (firstB (prP C n O)) ko) c') ∧ Below W.heap.size W w') := CY.out hf1
      have HPN : Hid (∀ i, i < ko → prP C n O i < n) := fun i hi => (found_yes hf1 i hi).2
      cases hf2 : foundB C' n' O ko
      · have HFF : Hid (F = 9) := HUF.out.trans (if_neg (fun h => by rw [hf2] at h; exact absurd h.2 (by decide)))
        have CC' : Hid (∀ W, Below w.heap.size w W → Calls Tryz.prog 143 #[.slice ca' n' ccap', .slice la ko lcap] W fun e w' => e = .returned (.tuple #[.slice none 0 0, .int .i64 9]) ∧ Below W.heap.size W w') := CN'.out hf2
        clear CY CN CY' CN' HUF
        generalize keptR (excK R (prP C n O) R' (prP C' n' O) m' ko) m R = U at *
        generalize keptN (excK R (prP C n O) R' (prP C' n' O) m' ko) m = N1 at *
        go_enter Tryz.func104, Tryz.ntmps104
        go_wp2_with (first
          | (go_at_call 137; refine (C1.out _ _ _).mono ?_; rintro e w1 ⟨rfl, hb1⟩; have HB1 : Hid (Below (w.heap.size + 3) (((w.alloc (.cells #[.slice ca n ccap, .slice qa m qcap] 40)).alloc (.cells #[.slice ca' n' ccap', .slice qa' m' qcap'] 40)).alloc (.cells #[.slice none 0 0, .slice none 0 0] 40)) w1) := hb1; obtain ⟨x0, x1, x2, x3, x4, x5, x6, x7, x8⟩ := box3 hb1; clear hb1)
          | (go_at_call_has 143 (Value.slice ca n ccap); refine (CC.out _ (HW.out HB1.out)).mono ?_; rintro e w2 ⟨v2, rfl, hi2, ⟨pa, pc, rfl⟩, hb2⟩; have HB2 : Hid (Below (w.heap.size + 3) (((w.alloc (.cells #[.slice ca n ccap, .slice qa m qcap] 40)).alloc (.cells #[.slice ca' n' ccap', .slice qa' m' qcap'] 40)).alloc (.cells #[.slice none 0 0, .slice none 0 0] 40)) w2) := HB1.out.trans (hb2.mono (by omega)); clear x0 x1 x2 x3 x4 x5 x6 x7 x8; obtain ⟨x0, x1, x2, x3, x4, x5, x6, x7, x8⟩ := box3 HB2.out; have x9 : w.heap.size < w2.heap.size := (by omega); have x10 : w.heap.size + 1 < w2.heap.size := (by omega); clear hb2 hi2)
          | (go_at_call_has 143 (Value.slice ca' n' ccap'); refine (CC'.out _ ((HW.out HB2.out).alloc (by omega) _)).mono ?_; rintro e w3 ⟨rfl, hb3⟩; have HB3 : Hid (Below (w.heap.size + 3) (((w.alloc (.cells #[.slice ca n ccap, .slice qa m qcap] 40)).alloc (.cells #[.slice ca' n' ccap', .slice qa' m' qcap'] 40)).alloc (.cells #[.slice none 0 0, .slice none 0 0] 40)) w3) := (HB2.out.alloc (by omega) _).trans (hb3.mono (by simp; omega)); clear x0 x1 x2 x3 x4 x5 x6 x7 x8; obtain ⟨x0, x1, x2, x3, x4, x5, x6, x7, x8⟩ := box3 HB3.out; clear hb3))
        refine bodyPost_ret (v := .tuple #[.agg #[.slice none 0 0, .slice none 0 0], .int .i64 9]) (by simp [results, Tryz.results104, go_sem, x4, x5]) rfl ⟨_, _, by rw [HFF.out], ?_, ((HW.out HB3.out).setCell (by simp <;> omega) _).setCell (by simp <;> omega) _⟩
        rw [HFF.out]; exact FreshRel.nil _ _ _ _
      · have CC' : Hid (∀ W, Below w.heap.size w W → Calls Tryz.prog 143 #[.slice ca' n' ccap', .slice la ko lcap] W fun e w' => ∃ v, e = .returned (.tuple #[v, .int .i64 0]) ∧ IntsIs w' v (keptN (firstB (prP C' n' O)) ko) (dedP (prP C' n' O) ko) ∧ (∃ a' c', v = .slice a' (keptN (firstB (prP C' n' O)) ko) c') ∧ Below W.heap.size W w') := CY'.out hf2
        have HPN' : Hid (∀ i, i < ko → prP C' n' O i < n') := fun i hi => (found_yes hf2 i hi).2
        have HPQ : Hid (∀ s t, s < ko → t < ko → (prP C n O s = prP C n O t ↔ prP C' n' O s = prP C' n' O t)) := fun s t hs ht => (prP_inj hf1 s t hs ht).trans (prP_inj hf2 s t hs ht).symm
        have HF0 : Hid (F = 0) := HUF.out.trans (if_pos ⟨hf1, hf2⟩)
        clear CY CN CY' CN' HUF hf1 hf2
        generalize prP C n O = P at *
        generalize prP C' n' O = P' at *
        have h8 : keptN (firstB P) ko ≤ 8 := Nat.le_trans (ded_le HPN.out) hn8
        have h8' : keptN (firstB P') ko ≤ 8 := Nat.le_trans (ded_le HPN'.out) hn8'
        have HPD : Hid (∀ i, i < keptN (firstB P) ko → dedP P ko i < n) := fun i hi => HPN.out _ (keptAt_mem (m := ko) (Nat.le_refl _) hi).1
        have HPD' : Hid (∀ i, i < keptN (firstB P') ko → dedP P' ko i < n') := fun i hi => HPN'.out _ (keptAt_mem (m := ko) (Nat.le_refl _) hi).1
        have hmf : ∀ (fn : Fn) (first cap : Array Value) (w : World), (Instr.makeFunc fn first cap).run Tryz.prog w = .ok (.func fn first cap) w := fun _ _ _ _ => rfl
        have hmm := @run_makeMap Tryz.prog
        go_enter Tryz.func104, Tryz.ntmps104
        go_upto_region 11 with (first
          | (go_at_call 137; refine (C1.out _ _ _).mono ?_; rintro e w1 ⟨rfl, hb1⟩; have HB1 : Hid (Below (w.heap.size + 3) (((w.alloc (.cells #[.slice ca n ccap, .slice qa m qcap] 40)).alloc (.cells #[.slice ca' n' ccap', .slice qa' m' qcap'] 40)).alloc (.cells #[.slice none 0 0, .slice none 0 0] 40)) w1) := hb1; obtain ⟨x0, x1, x2, x3, x4, x5, x6, x7, x8⟩ := box3 hb1; clear hb1)
          | (go_at_call_has 143 (Value.slice ca n ccap); refine (CC.out _ (HW.out HB1.out)).mono ?_; rintro e w2 ⟨v2, rfl, hi2, ⟨pa, pc, rfl⟩, hb2⟩; have HI2 : Hid (IntsIs w2 (.slice pa (keptN (firstB P) ko) pc) (keptN (firstB P) ko) (dedP P ko)) := hi2; have HB2 : Hid (Below (w.heap.size + 3) (((w.alloc (.cells #[.slice ca n ccap, .slice qa m qcap] 40)).alloc (.cells #[.slice ca' n' ccap', .slice qa' m' qcap'] 40)).alloc (.cells #[.slice none 0 0, .slice none 0 0] 40)) w2) := HB1.out.trans (hb2.mono (by omega)); clear x0 x1 x2 x3 x4 x5 x6 x7 x8; obtain ⟨x0, x1, x2, x3, x4, x5, x6, x7, x8⟩ := box3 HB2.out; have x9 : w.heap.size < w2.heap.size := (by omega); have x10 : w.heap.size + 1 < w2.heap.size := (by omega); clear hb2 hi2)
          | (go_at_call_has 143 (Value.slice ca' n' ccap'); refine (CC'.out _ ((HW.out HB2.out).alloc (by omega) _)).mono ?_; rintro e w3 ⟨v3, rfl, hi3, ⟨pa', pc', rfl⟩, hb3⟩; have HI3 : Hid (IntsIs w3 (.slice pa' (keptN (firstB P') ko) pc') (keptN (firstB P') ko) (dedP P' ko)) := hi3; have HB3 : Hid (Below (w.heap.size + 3) (((w.alloc (.cells #[.slice ca n ccap, .slice qa m qcap] 40)).alloc (.cells #[.slice ca' n' ccap', .slice qa' m' qcap'] 40)).alloc (.cells #[.slice none 0 0, .slice none 0 0] 40)) w3) := (HB2.out.alloc (by omega) _).trans (hb3.mono (by simp; omega)); have HW23 : Hid (Below w2.heap.size w2 w3) := ((Below.refl _ _).alloc (Nat.le_refl _) _).trans (hb3.mono (by simp)); have y0 : w3.cell? ⟨w2.heap.size, 0, none⟩ = some (.slice pa (keptN (firstB P) ko) pc) := (hb3.cell (p := ⟨w2.heap.size, 0, none⟩) (by simp)).trans (one_newQ _ _ _); have hz3 : w2.heap.size < w3.heap.size := (by have := hb3.size; simp at this; omega); have HX : Hid (w.heap.size + 1 + 1 < w2.heap.size) := x8; clear x0 x1 x2 x3 x4 x5 x6 x7 x8; obtain ⟨x0, x1, x2, x3, x4, x5, x6, x7, x8⟩ := box3 HB3.out; clear hb3 hi3 x9 x10))
        obtain ⟨s0, s1, s2, s3⟩ := set_made2 w3
        have HS0 : Hid (SetIs ((w3.alloc (.map #[] 0)).alloc (.cells #[.map (some w3.heap.size)] 162)) w3.heap.size 0 (fun _ => False)) := s0
        have HS2 : Hid ((World.heap ((w3.alloc (.map #[] 0)).alloc (.cells #[.map (some w3.heap.size)] 162))).size = w3.heap.size + 2) := s2
        have HS3 : Hid (Below w3.heap.size w3 ((w3.alloc (.map #[] 0)).alloc (.cells #[.map (some w3.heap.size)] 162))) := s3
        have z0 : World.cell? ((w3.alloc (.map #[] 0)).alloc (.cells #[.map (some w3.heap.size)] 162)) ⟨w2.heap.size, 0, none⟩ = some (.slice pa (keptN (firstB P) ko) pc) := (s3.cell (p := ⟨w2.heap.size, 0, none⟩) hz3).trans y0
        have z1 : World.cell? ((w3.alloc (.map #[] 0)).alloc (.cells #[.map (some w3.heap.size)] 162)) ⟨w.heap.size, 0, none⟩ = some (.slice ca n ccap) := (s3.cell (p := ⟨w.heap.size, 0, none⟩) (by show w.heap.size < w3.heap.size; omega)).trans x0
        have z2 : World.cell? ((w3.alloc (.map #[] 0)).alloc (.cells #[.map (some w3.heap.size)] 162)) ⟨w.heap.size, 1, none⟩ = some (.slice qa m qcap) := (s3.cell (p := ⟨w.heap.size, 1, none⟩) (by show w.heap.size < w3.heap.size; omega)).trans x1
        have z3 : World.cell? ((w3.alloc (.map #[] 0)).alloc (.cells #[.map (some w3.heap.size)] 162)) ⟨w.heap.size + 1, 1, none⟩ = some (.slice qa' m' qcap') := (s3.cell (p := ⟨w.heap.size + 1, 1, none⟩) (by show w.heap.size + 1 < w3.heap.size; omega)).trans x3
        clear s0 s2 s3 x0 x1 x2 x3 x4 x5 x6 x7 x8 y0
        generalize ((w3.alloc (.map #[] 0)).alloc (.cells #[.map (some w3.heap.size)] 162)) = w4 at *
        have HB4 : Hid (Below (w.heap.size + 3) (((w.alloc (.cells #[.slice ca n ccap, .slice qa m qcap] 40)).alloc (.cells #[.slice ca' n' ccap', .slice qa' m' qcap'] 40)).alloc (.cells #[.slice none 0 0, .slice none 0 0] 40)) w4) := HB3.out.trans (HS3.out.mono (by have := HX.out; omega))
        go_wp2
        go_loopw [48] (fun i wr => ∃ k : Nat, k ≤ m' ∧ i = .int .i64 k ∧ ButOneQ w4 wr w3.heap.size ∧ SetIs wr w3.heap.size k (keysE R' P' ko k)) (fun i _ => m' - (intOf i).toNat)
        case atStart => exact ⟨0, Nat.zero_le _, rfl, ButOneQ.refl _ _, HS0.out.congr (fun v => ⟨fun h => False.elim h, fun ⟨i, hi, _⟩ => absurd hi (by omega)⟩)⟩
        case round =>
          obtain ⟨k, hk, rfl, hbo, hst⟩ := hrel
          have HBO : Hid (ButOneQ w4 wr w3.heap.size) := hbo
          have HST : Hid (SetIs wr w3.heap.size k (keysE R' P' ko k)) := hst
          have hx := HX.out
          have hs2 := HS2.out
          have u1 : wr.cell? ⟨w3.heap.size + 1, 0, none⟩ = some (.map (some w3.heap.size)) := (hbo.cell (p := ⟨w3.heap.size + 1, 0, none⟩) (by show w3.heap.size + 1 < w4.heap.size; omega) (by show w3.heap.size + 1 ≠ _; omega)).trans s1
          have hz : w4.heap.size ≤ wr.heap.size := hbo.1
          have HBW : Hid (Below w.heap.size w wr) := (HW.out HB4.out).trans ((hbo.below (B := w.heap.size) (by omega) (by omega)))
          have HB3R : Hid (Below w3.heap.size w3 wr) := HS3.out.trans (hbo.below (Nat.le_refl _) (by omega))
          have v1 : wr.cell? ⟨w.heap.size, 0, none⟩ = some (.slice ca n ccap) := (hbo.cell (p := ⟨w.heap.size, 0, none⟩) (by show w.heap.size < w4.heap.size; omega) (by show w.heap.size ≠ _; omega)).trans z1
          have v2 : wr.cell? ⟨w.heap.size, 1, none⟩ = some (.slice qa m qcap) := (hbo.cell (p := ⟨w.heap.size, 1, none⟩) (by show w.heap.size < w4.heap.size; omega) (by show w.heap.size ≠ _; omega)).trans z2
          have HV0 : Hid (wr.cell? ⟨w2.heap.size, 0, none⟩ = some (.slice pa (keptN (firstB P) ko) pc)) := (hbo.cell (p := ⟨w2.heap.size, 0, none⟩) (by show w2.heap.size < w4.heap.size; omega) (by show w2.heap.size ≠ _; omega)).trans z0
          clear hbo hst hx
          by_cases hkm : k < m'
          · obtain ⟨b, off, u, rfl, hb0, e1, hu⟩ := HQ'.out wr k HBW.out hkm
            have hki : (k : Int) < (m' : Int) := by omega
            rw [HLEN'.out k hkm] at hu
            have CK : Hid (∀ W, Below wr.heap.size wr W → Calls Tryz.prog 144 #[u, .slice pa' (keptN (firstB P') ko) pc'] W fun e w' => ∃ v, e = .returned v ∧ v = keyV (keyX (R' k).at_ (dedP P' ko) (keptN (firstB P') ko)) ∧ Below W.heap.size W w') := key_call u _ n' (keptN (firstB P') ko) (R' k).at_ (dedP P' ko) wr hu (HI3.out.below HB3R.out) HPD'.out h8'
            obtain ⟨lk, hkey⟩ := keyV_key (keyX (R' k).at_ (dedP P' ko) (keptN (firstB P') ko)) (fit_key (HFIT'.out k hkm) HPD'.out)
            obtain ⟨ua, ucap, rfl, _⟩ := hu
            have HNX : Hid (∀ v, (keysE R' P' ko k v ∨ v = keyV (keyX (R' k).at_ (dedP P' ko) (keptN (firstB P') ko))) ↔ keysE R' P' ko (k + 1) v) := fun v => by
              constructor
              · rintro (⟨i, h1, h2⟩ | h2)
                · exact ⟨i, by omega, h2⟩
                · exact ⟨k, by omega, h2⟩
              · rintro ⟨i, h1, h2⟩
                by_cases e3 : i = k
                · subst e3; exact .inr h2
                · exact .inl ⟨i, by omega, h2⟩
            generalize keyX (R' k).at_ (dedP P' ko) (keptN (firstB P') ko) = Y at *
            have hM : w3.heap.size < wr.heap.size := by omega
            go_upto_region 14 with fail
            go_region_law (first
              | (refine step_call rfl 144 #[.slice ua n' ucap, .slice pa' (keptN (firstB P') ko) pc'] (by simp [go_sem]) (fun v w' => v = keyV Y ∧ Below _ _ w') (CK.out _ (Below.refl _ _).drew) ?_; rintro v5 w5 ⟨rfl, hb5⟩; have hbw : Below wr.heap.size wr w5 := (Below.refl _ _).drew.trans hb5; have HB5 : Hid (Below wr.heap.size wr w5) := hbw; have y0 := (hbw.cell (p := ⟨w3.heap.size + 1, 0, none⟩) (by show w3.heap.size + 1 < wr.heap.size; omega)).trans u1; obtain ⟨w6, hput, hs6, ht6⟩ := (HST.out.keep (w' := w5) (hbw.block w3.heap.size hM)).put (by unfold maxLen; omega) hkey; have HS6 : Hid (SetIs w6 w3.heap.size (k + 1) (keysE R' P' ko (k + 1))) := hs6.congr HNX.out; have HT6 : Hid (World.mapTurned w5 w6 w3.heap.size) := ht6; clear hb5 hbw hs6 ht6))
            all_goals
              go_wp2_with fail
              have HBO6 : Hid (ButOneQ w4 w6 w3.heap.size) := by
                obtain ⟨k1, k2, k3, k4, k5⟩ := turned_block HT6.out
                exact HBO.out.trans ⟨by rw [k1]; exact HB5.out.size, k3.trans HB5.out.os, k4.trans HB5.out.tape, k5.trans HB5.out.output, fun c hc hne => (k2 c hne).trans (HB5.out.block c hc)⟩
              go_roundw
              case rel => exact ⟨k + 1, by omega, by go_num, HBO6.out, HS6.out⟩
              case measure => simp [intOf]; omega
          · have e : k = m' := by omega
            subst e
            have CKP : Hid (Calls Tryz.prog 135 #[.agg #[.slice ca n ccap, .slice qa m qcap], .func (.func 145) #[] #[.pointer (some ⟨w3.heap.size + 1, 0, none⟩), .pointer (some ⟨w2.heap.size, 0, none⟩)]] wr fun e w' => ∃ c1 q1, e = .returned (.agg #[c1, q1]) ∧ FreshRel wr w' c1 q1 n (keptN (excK R P R' P' k ko) m) C (keptR (excK R P R' P' k ko) m R) ∧ Below wr.heap.size wr w') :=
              keep_gen 145 #[.pointer (some ⟨w3.heap.size + 1, 0, none⟩), .pointer (some ⟨w2.heap.size, 0, none⟩)] (fun _ W => Below wr.heap.size wr W) (excK R P R' P' k ko) (.slice ca n ccap) (.slice qa m qcap) n m C R wr
                (Below.refl _ _) (fun _ W W' _ h1 h2 => h1.trans h2) (HC.out _ HBW.out) HFN.out ⟨_, _, rfl⟩ (fun _ W h => HQR.out W (HBW.out.trans (h.mono HBW.out.size))) hm6 HG.out (fun _ _ => rfl)
                (fun i W u hi hzz h hu => by
                  rw [HLEN.out i hi] at hu
                  obtain ⟨lk, hkey⟩ := keyV_key (keyX (R i).at_ (dedP P ko) (keptN (firstB P) ko)) (fit_key (HFIT.out i hi) HPD.out)
                  refine (except1_is u (.slice pa (keptN (firstB P) ko) pc) n (keptN (firstB P) ko) w2.heap.size (w3.heap.size + 1) w3.heap.size k (R i).at_ (dedP P ko) (keysE R' P' ko k) W hu (HI2.out.below (HW23.out.trans ((HB3R.out.trans (h.mono HB3R.out.size)).mono (Nat.le_of_lt hz3)))) HPD.out h8 (by omega) (by omega) ((h.cell (p := ⟨w2.heap.size, 0, none⟩) (by show w2.heap.size < wr.heap.size; omega)).trans HV0.out) ((h.cell (p := ⟨w3.heap.size + 1, 0, none⟩) (by show w3.heap.size + 1 < wr.heap.size; omega)).trans u1) (HST.out.keep (h.block w3.heap.size HST.out.lt)) lk hkey).mono ?_
                  rintro e w' ⟨r, rfl, hr, hb⟩
                  refine ⟨?_, h.trans (hb.mono hzz), Upper.of hb, by rw [HLEN.out i hi]; exact hu.below hb⟩
                  have e2 : r = excK R P R' P' k ko i := by rw [Bool.eq_iff_iff, hr]; exact keys_exc HPQ.out h8 h8'
                  rw [e2])
            have HB4R : Hid (Below (w.heap.size + 3) (((w.alloc (.cells #[.slice ca n ccap, .slice qa m qcap] 40)).alloc (.cells #[.slice ca' n' ccap', .slice qa' k qcap'] 40)).alloc (.cells #[.slice none 0 0, .slice none 0 0] 40)) wr) := HB4.out.trans (HBO.out.below (by have := HX.out; omega) (by have := HX.out; omega))
            go_wp2_with (first | (go_at_call 135; refine CKP.out.mono ?_; rintro e w7 ⟨c7, q7, rfl, hf7, hb7⟩; have HFR : Hid (FreshRel wr w7 c7 q7 n (keptN (excK R P R' P' k ko) m) C (keptR (excK R P R' P' k ko) m R)) := hf7; obtain ⟨⟨a3, k3, rfl, _⟩, ⟨b3, l3, rfl, _⟩⟩ := hf7 w7 (Nat.le_refl _) (fun _ _ _ => rfl); have HB7 : Hid (Below (w.heap.size + 3) (((w.alloc (.cells #[.slice ca n ccap, .slice qa m qcap] 40)).alloc (.cells #[.slice ca' n' ccap', .slice qa' k qcap'] 40)).alloc (.cells #[.slice none 0 0, .slice none 0 0] 40)) w7) := HB4R.out.trans (hb7.mono (by have := HX.out; omega)); obtain ⟨x0, x1, x2, x3, x4, x5, x6, x7, x8⟩ := box3 HB7.out; clear hf7 hb7))
            have hx := HX.out
            refine bodyPost_ret (v := .tuple #[.agg #[.slice a3 n k3, .slice b3 (keptN (excK R P R' P' k ko) m) l3], .int .i64 0]) (by simp [results, Tryz.results104, go_sem, x4, x5]) rfl ⟨_, _, by rw [HF0.out], ?_, ((HW.out HB7.out).setCell (by simp <;> omega) _).setCell (by simp <;> omega) _⟩
            rw [HF0.out]
            exact fun W' hs hb => HFR.out W' (by simpa using hs) (fun b h1 h2 => by
              have hb1 := hb b (by omega) (by simpa using h2)
              rw [hb1, Below.heap_setCell _ _ _ _ (by simp; omega), Below.heap_setCell _ _ _ _ (by simp; omega)])
  · have HFF : Hid (excF C n R m C' n' R' m' O ko = twoF (relF C n R m) (relF C' n' R' m')) := if_neg h0
    have HNZ : Hid (¬ twoF (relF C n R m) (relF C' n' R' m') = 0) := h0
    have h1 : (twoF (relF C n R m) (relF C' n' R' m') != 0) = true := by simpa using h0
    clear h0 CY CN CY' CN'
    generalize keptR (excK R (prP C n O) R' (prP C' n' O) m' ko) m R = U at *
    generalize keptN (excK R (prP C n O) R' (prP C' n' O) m' ko) m = N1 at *
    generalize excF C n R m C' n' R' m' O ko = F at *
    generalize twoF (relF C n R m) (relF C' n' R' m') = G at *
    go_enter Tryz.func104, Tryz.ntmps104
    go_wp2_with (first
      | (go_at_call 137; refine (C1.out _ _ _).mono ?_; rintro e w1 ⟨rfl, hb1⟩; have HB1 : Hid (Below (w.heap.size + 3) (((w.alloc (.cells #[.slice ca n ccap, .slice qa m qcap] 40)).alloc (.cells #[.slice ca' n' ccap', .slice qa' m' qcap'] 40)).alloc (.cells #[.slice none 0 0, .slice none 0 0] 40)) w1) := hb1; obtain ⟨x0, x1, x2, x3, x4, x5, x6, x7, x8⟩ := box3 hb1; clear hb1))
    refine bodyPost_ret (v := .tuple #[.agg #[.slice none 0 0, .slice none 0 0], .int .i64 G]) (by simp [results, Tryz.results104, go_sem, x4, x5]) rfl ⟨_, _, by rw [HFF.out], ?_, (((HW.out HB1.out)).setCell (by simp; omega) _).setCell (by simp; omega) _⟩
    rw [HFF.out, okN, if_neg HNZ.out, okN, if_neg HNZ.out]; exact FreshRel.nil _ _ _ _
end Go.Proofs.YtkcejelmohameaaGreatDoor
