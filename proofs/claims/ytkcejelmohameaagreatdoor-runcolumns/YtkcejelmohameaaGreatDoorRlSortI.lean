/-
  CONTRACT of rel.Sort.
-/
import Derived.Test.YtkcejelmohameaaGreatDoorRlOrdC
import Derived.Test.YtkcejelmohameaaGreatDoorRlCMap
set_option linter.unusedVariables false
namespace Go.Proofs.YtkcejelmohameaaGreatDoor
set_option maxRecDepth 100000
open Go.RowKit Go.WideShapes

/-- what Sort answers -/
def soF (C : Nat → ByteArray) (n : Nat) (R : Nat → Row) (m : Nat) (O : Nat → ByteArray) (ko : Nat) : Int :=
  if relF C n R m = 0 then (if foundB C n O ko = true then 0 else 9) else relF C n R m
/-- the rows in their order -/
def soR (R : Nat → Row) (P : Nat → Nat) (ko m i : Nat) : Row := R (ordA (fun i t => (R i).at_ (P t)) ko m i)
theorem ordA_ded (R : Nat → Row) (P : Nat → Nat) (ko m : Nat) : ordA (fun i t => (R i).at_ (dedP P ko t)) (keptN (firstB P) ko) m = ordA (fun i t => (R i).at_ (P t)) ko m := by
  funext i
  unfold ordA
  rw [ordL_ded]
/-- blocks from T + 1 on are as they were -/
def KeptFrom (T : Nat) (w wr : World) : Prop := ∀ b, T < b → b < w.heap.size → wr.heap[b]? = w.heap[b]?
theorem KeptFrom.trans {T : Nat} {a b c : World} (h : KeptFrom T a b) (hs : a.heap.size ≤ b.heap.size) (h' : KeptFrom T b c) : KeptFrom T a c := fun k h1 h2 => (h' k h1 (by omega)).trans (h k h1 h2)
theorem KeptFrom.of {T : Nat} {a b : World} (h : Below a.heap.size a b) : KeptFrom T a b := fun k _ h2 => h.block k h2
theorem KeptFrom.setCell {T : Nat} {a b : World} (h : KeptFrom T a b) {p : Addr} (hp : p.block ≤ T) (u : Value) : KeptFrom T a (b.setCell p u) := fun k h1 h2 => (Below.heap_setCell _ _ _ _ (by omega)).trans (h k h1 h2)
/-- the own block is ahead of T, or behind w -/
def OwnAt (T : Nat) (w : World) (v : Value) : Prop := ∀ k, v.ownBlock = some k → k < T ∨ w.heap.size ≤ k
theorem own_push {T : Nat} {w w1 w2 : World} {v v' : Value} (h : OwnAt T w v) (hs : w.heap.size ≤ w1.heap.size) (hk : v'.ownBlock = v.ownBlock ∨ v'.ownBlock = some w1.heap.size) : OwnAt T w v' := fun k e => by
  rcases hk with hk | hk
  · exact h k (by rw [← hk]; exact e)
  · rw [hk] at e
    simp only [Option.some.injEq] at e
    exact .inr (by omega)
theorem kept_grown {T : Nat} {w w1 w2 : World} {v : Value} (h : OwnAt T w v) (hg : w1.grownBy w2 v.ownBlock) (hs : w.heap.size ≤ w1.heap.size) (hk : KeptFrom T w w1) : KeptFrom T w w2 := fun k h1 h2 => by
  refine (hg.block k (by omega) (fun e => ?_)).trans (hk k h1 h2)
  have := h k e.symm
  omega
theorem ints_at {T : Nat} {w wr : World} {v : Value} {n i : Nat} {P : Nat → Nat} (h : IntsFrom w (T + 1) v n P) (hk : KeptFrom T w wr) (hs : w.heap.size ≤ wr.heap.size) (hi : i < n) : ∃ b off cap, v = .slice (some ⟨b, off, none⟩) n cap ∧ b < wr.heap.size ∧ wr.cell? ⟨b, off + i, none⟩ = some (.int .i64 (P i : Int)) := by
  obtain ⟨a, cap, rfl, h1, h2, h3⟩ := h
  obtain ⟨b, off, rfl, h4, h5, h6⟩ := h3 (by omega)
  exact ⟨b, off, cap, rfl, by omega, (World.cell?_of_block (a := ⟨b, off + i, none⟩) (hk b (by omega) h5)).trans (h6 i hi)⟩
set_option maxHeartbeats 6400000 in
theorem sort_is (c q l : Value) (n m ko : Nat) (C O : Nat → ByteArray) (R : Nat → Row) (w : World) (hc : StrsIs w c n C) (hq : RowsIs w q m R) (hf : StrsFine n C) (hg : RowsFine m R) (hl : StrsIs w l ko O) (hfl : StrsFine ko O) (hT : Tabs w) :
    Calls Tryz.prog 107 #[.agg #[c, q], l] w fun e w' => ∃ c1 q1, e = .returned (.tuple #[.agg #[c1, q1], .int .i64 (soF C n R m O ko)]) ∧ FreshRel w w' c1 q1 (okN (soF C n R m O ko) n) (okN (soF C n R m O ko) m) C (soR R (prP C n O) ko m) ∧ Below w.heap.size w w' := by
  have HW : Hid (∀ {W : World} {o o' : Obj}, Below (w.heap.size + 2) ((w.alloc o).alloc o') W → Below w.heap.size w W) := fun h => (below_two _ _).trans (h.mono (by omega))
  have C1 : Hid (∀ o o', Calls Tryz.prog 93 #[.agg #[c, q]] ((w.alloc o).alloc o') fun e w' => e = .returned (.int .i64 (relF C n R m)) ∧ Below (w.heap.size + 2) ((w.alloc o).alloc o') w') := fun o o' => by
    have h := relCheck_is c q n m C R _ (hc.below (below_two o o')) (hq.below (below_two o o')) hf hg (Utf8Tabs_below hT (below_two o o'))
    rwa [show ((w.alloc o).alloc o').heap.size = w.heap.size + 2 by simp] at h
  have CY : Hid ((∀ i, i < ko → colI C n (O i) = (prP C n O i : Int)) → ∀ W, Below w.heap.size w W → Calls Tryz.prog 143 #[c, l] W fun e w' => ∃ v, e = .returned (.tuple #[v, .int .i64 0]) ∧ IntsIs w' v (keptN (firstB (prP C n O)) ko) (dedP (prP C n O) ko) ∧ (∃ a' c', v = .slice a' (keptN (firstB (prP C n O)) ko) c') ∧ Below W.heap.size W w') := fun hP W hW => columns_yes c l n ko C O (prP C n O) W (hc.below hW) (hl.below hW) hP hfl.1
  have CN : Hid (∀ t, t < ko → (∀ i, i < t → colI C n (O i) = (prP C n O i : Int)) → colI C n (O t) = -1 → ∀ W, Below w.heap.size w W → Calls Tryz.prog 143 #[c, l] W fun e w' => e = .returned (.tuple #[.slice none 0 0, .int .i64 9]) ∧ Below W.heap.size W w') := fun t ht hP hN W hW => columns_no c l n ko C O (prP C n O) W (hc.below hW) (hl.below hW) t ht hP hN hfl.1
  have CW : Hid (∀ (S : Nat → Row) W, Below w.heap.size w W → m ≤ 4000000 → Calls Tryz.prog 133 #[.int .i64 (m : Int), .slice (some ⟨W.heap.size, 0, none⟩) 1 1] (W.alloc (.cells #[c] 35)) fun e w' => ∃ c' q', e = .returned (.agg #[c', q']) ∧ StrsKept w' (W.heap.size + 1) w'.heap.size q'.ownBlock c' n C ∧ RowsOwn w' (W.heap.size + 1) q' 0 S ∧ (∃ a1 k1, c' = .slice a1 n k1) ∧ (∃ a2 k2, q' = .slice a2 0 k2) ∧ Below (W.heap.size + 1) (W.alloc (.cells #[c] 35)) w') := fun S W hW hm4 => by
    have h := withRoom_one m W.heap.size 0 1 c n C (W.alloc (.cells #[c] 35)) hm4 (Nat.le_refl _) (by unfold maxLen; omega) (by simp) (by simp) ((hc.below hW).below ((Below.refl _ _).alloc (Nat.le_refl _) _)) hf.1 S
    rwa [show (W.alloc (.cells #[c] 35)).heap.size = W.heap.size + 1 by simp] at h
  have HQR : Hid (∀ W, Below w.heap.size w W → RowsIs W q m R) := fun W hW => hq.below hW
  have HG : Hid (∀ i, i < m → (R i).len * 32 ≤ 140737488351232) := fun i hi => (hg.2 i hi).1
  obtain ⟨qa, qcap, rfl, _, _, _, q3⟩ := hq
  have HQ : Hid (∀ W i, Below w.heap.size w W → i < m → ∃ b off u, qa = some ⟨b, off, none⟩ ∧ b < w.heap.size ∧ W.cell? ⟨b, off + i, none⟩ = some u ∧ ItsIs W u (R i).len (R i).at_) := fun W i hW hi => by
    obtain ⟨b, off, e1, e2, e3⟩ := q3 (by omega)
    obtain ⟨u, e4, e5⟩ := e3 i hi
    exact ⟨b, off, u, e1, e2, (hW.cell (p := ⟨b, off + i, none⟩) e2).trans e4, e5.below hW⟩
  obtain ⟨ca, ccap, rfl, _⟩ := hc
  obtain ⟨la, lcap, rfl, _⟩ := hl
  clear hf hg hT hfl q3
  by_cases h0 : relF C n R m = 0
  · have hm6 : m ≤ 1000000 := (relF_zero h0).2.1
    have hm4 : m ≤ 4000000 := by omega
    have hn8 : n ≤ 8 := colsF_le (relF_zero h0).1
    have HLEN : Hid (∀ i, i < m → (R i).len = n) := row_len h0
    have HUF : Hid (soF C n R m O ko = if foundB C n O ko = true then 0 else 9) := if_pos h0
    rw [h0] at C1
    clear h0
    generalize soF C n R m O ko = F at *
    cases hfo : foundB C n O ko
    · have HFF : Hid (F = 9) := HUF.out.trans (if_neg (fun h => by rw [hfo] at h; exact absurd h (by decide)))
      obtain ⟨t, t1, t2, t3⟩ := found_no hfo
      have CC : Hid (∀ W, Below w.heap.size w W → Calls Tryz.prog 143 #[.slice ca n ccap, .slice la ko lcap] W fun e w' => e = .returned (.tuple #[.slice none 0 0, .int .i64 9]) ∧ Below W.heap.size W w') := CN.out t t1 t3 t2
      clear t1 t2 t3 CY CN hfo HUF CW
      go_enter Tryz.func107, Tryz.ntmps107
      go_wp2_with (first
        | (go_at_call 93; refine (C1.out _ _).mono ?_; rintro e w1 ⟨rfl, hb1⟩; have HB1 : Hid (Below (w.heap.size + 2) ((w.alloc (.cells #[.slice ca n ccap, .slice qa m qcap] 40)).alloc (.cells #[.slice none 0 0, .slice none 0 0] 40)) w1) := hb1; obtain ⟨x0, x1, x2, x3, x4, x5, x6⟩ := box2r hb1; clear hb1)
        | (go_at_call 143; refine (CC.out _ (HW.out HB1.out)).mono ?_; rintro e w2 ⟨rfl, hb2⟩; have HB2 : Hid (Below (w.heap.size + 2) ((w.alloc (.cells #[.slice ca n ccap, .slice qa m qcap] 40)).alloc (.cells #[.slice none 0 0, .slice none 0 0] 40)) w2) := HB1.out.trans (hb2.mono (by omega)); clear x0 x1 x2 x3 x4 x5 x6; obtain ⟨x0, x1, x2, x3, x4, x5, x6⟩ := box2r HB2.out; have x7 : w.heap.size < w2.heap.size := Nat.lt_of_succ_lt x6; clear hb2))
      refine bodyPost_ret (v := .tuple #[.agg #[.slice none 0 0, .slice none 0 0], .int .i64 9]) (by simp [results, Tryz.results107, go_sem, x2, x3]) rfl ⟨_, _, by rw [HFF.out], ?_, ?_⟩
      · rw [HFF.out]; exact FreshRel.nil _ _ _ _
      · exact ((HW.out HB2.out).setCell (by simp <;> omega) _).setCell (by simp <;> omega) _
    · have CC : Hid (∀ W, Below w.heap.size w W → Calls Tryz.prog 143 #[.slice ca n ccap, .slice la ko lcap] W fun e w' => ∃ v, e = .returned (.tuple #[v, .int .i64 0]) ∧ IntsIs w' v (keptN (firstB (prP C n O)) ko) (dedP (prP C n O) ko) ∧ (∃ a' c', v = .slice a' (keptN (firstB (prP C n O)) ko) c') ∧ Below W.heap.size W w') := CY.out (fun i hi => (found_yes hfo i hi).1)
      have HPN : Hid (∀ i, i < ko → prP C n O i < n) := fun i hi => (found_yes hfo i hi).2
      have HF0 : Hid (F = 0) := HUF.out.trans (if_pos hfo)
      clear CY CN hfo HUF
      generalize prP C n O = P at *
      have HPD : Hid (∀ i, i < keptN (firstB P) ko → dedP P ko i < n) := fun i hi => HPN.out _ (keptAt_mem (m := ko) (Nat.le_refl _) hi).1
      have CO : Hid (∀ W pv, Below w.heap.size w W → IntsIs W pv (keptN (firstB P) ko) (dedP P ko) → Calls Tryz.prog 149 #[.slice qa m qcap, pv] W fun e w' => ∃ v, e = .returned v ∧ IntsFrom w' W.heap.size v m (ordA (fun i t => (R i).at_ (P t)) ko m) ∧ (∃ a c, v = .slice a m c) ∧ Chain W w') := fun W pv hW hpv => by
        have h := order_is (.slice qa m qcap) pv (keptN (firstB P) ko) m n (dedP P ko) R W hpv (HQR.out W hW) hm6 HPD.out HLEN.out
        rw [ordA_ded] at h
        exact h
      have HA : Hid (∀ i, i < m → ordA (fun i t => (R i).at_ (P t)) ko m i < m) := fun i hi => ordA_lt hi
      have HSR : Hid (∀ i, soR R P ko m i = R (ordA (fun i t => (R i).at_ (P t)) ko m i)) := fun i => rfl
      generalize soR R P ko m = S at *
      generalize ordA (fun i t => (R i).at_ (P t)) ko m = σ at *
      go_enter Tryz.func107, Tryz.ntmps107
      go_wp2_with (first
        | (go_at_call 93; refine (C1.out _ _).mono ?_; rintro e w1 ⟨rfl, hb1⟩; have HB1 : Hid (Below (w.heap.size + 2) ((w.alloc (.cells #[.slice ca n ccap, .slice qa m qcap] 40)).alloc (.cells #[.slice none 0 0, .slice none 0 0] 40)) w1) := hb1; obtain ⟨x0, x1, x2, x3, x4, x5, x6⟩ := box2r hb1; clear hb1)
        | (go_at_call 143; refine (CC.out _ (HW.out HB1.out)).mono ?_; rintro e w2 ⟨v2, rfl, hi2, ⟨pa, pc, rfl⟩, hb2⟩; have HI2 : Hid (IntsIs w2 (.slice pa (keptN (firstB P) ko) pc) (keptN (firstB P) ko) (dedP P ko)) := hi2; have HB2 : Hid (Below (w.heap.size + 2) ((w.alloc (.cells #[.slice ca n ccap, .slice qa m qcap] 40)).alloc (.cells #[.slice none 0 0, .slice none 0 0] 40)) w2) := HB1.out.trans (hb2.mono (by omega)); clear x0 x1 x2 x3 x4 x5 x6; obtain ⟨x0, x1, x2, x3, x4, x5, x6⟩ := box2r HB2.out; have x7 : w.heap.size < w2.heap.size := Nat.lt_of_succ_lt x6; clear hb2 hi2)
        | (go_at_call 133; refine (CW.out S _ (HW.out HB2.out) hm4).mono ?_; rintro e w5 ⟨c5, q5, rfl, hs5, hr5, ⟨ca5, cc5, rfl⟩, ⟨qa5, qc5, rfl⟩, hb5⟩; have HS5 : Hid (StrsKept w5 (w2.heap.size + 1) w5.heap.size (Value.slice qa5 0 qc5).ownBlock (.slice ca5 n cc5) n C) := hs5; have HR5 : Hid (RowsOwn w5 (w2.heap.size + 1) (.slice qa5 0 qc5) 0 S) := hr5; have HB52 : Hid (Below w2.heap.size w2 w5) := ((Below.refl _ _).alloc (Nat.le_refl _) _).trans (hb5.mono (Nat.le_succ _)); have HB5 : Hid (Below (w.heap.size + 2) ((w.alloc (.cells #[.slice ca n ccap, .slice qa m qcap] 40)).alloc (.cells #[.slice none 0 0, .slice none 0 0] 40)) w5) := HB2.out.trans (HB52.out.mono (by omega)); have hz5 : w2.heap.size + 1 ≤ w5.heap.size := (by have := hb5.size; simpa using this); have HX6 : Hid (w.heap.size + 1 < w2.heap.size) := x6; clear x0 x1 x2 x3 x4 x5 x6 x7; obtain ⟨x0, x1, x2, x3, x4, x5, x6⟩ := box2r HB5.out; have x7 : w.heap.size < w5.heap.size := Nat.lt_of_succ_lt x6; clear hs5 hr5 hb5)
        | (go_at_call 149; refine (CO.out _ _ ((HW.out HB5.out).alloc (Nat.le_of_lt x7) _) (HI2.out.below (HB52.out.alloc (by omega) _))).mono ?_; rintro e w6 ⟨v6, rfl, hi6, ⟨oa, oc, rfl⟩, hb6⟩; have HI6 : Hid (IntsFrom w6 (w5.heap.size + 1) (.slice oa m oc) m σ) := (by rw [show (w5.alloc (.cells #[.slice ca5 n cc5, .slice qa5 0 qc5] 40)).heap.size = w5.heap.size + 1 by simp] at hi6; exact hi6); have HB6 : Hid (Chain (w5.alloc (.cells #[.slice ca5 n cc5, .slice qa5 0 qc5] 40)) w6) := hb6; clear hi6 hb6))
      have HR0 : Hid (RowsTwo w6 (w2.heap.size + 1) w5.heap.size (.slice qa5 0 qc5) 0 S) := ((RowsTwo.start HR5.out (Nat.le_refl _)).alloc hz5 _).below HB6.out hz5
      have HK0 : Hid (StrsKept w6 (w2.heap.size + 1) w5.heap.size (Value.slice qa5 0 qc5).ownBlock (.slice ca5 n cc5) n C) := (HS5.out.below ((Below.refl _ _).alloc (Nat.le_refl _) _)).below HB6.out
      have HOW0 : Hid (OwnAt w5.heap.size w6 (.slice qa5 0 qc5)) := fun k e => .inl (HR5.out.lt k e).2
      have HB26 : Hid (Below w2.heap.size w2 w6) := (HB52.out.alloc (by omega) _).trans (Below.mono HB6.out (by simp; omega))
      have hz6 : w5.heap.size < w6.heap.size := by have := Below.size HB6.out; simp at this; omega
      have HT0 : Hid (w6.cell? ⟨w5.heap.size, 0, none⟩ = some (.slice ca5 n cc5) ∧ w6.cell? ⟨w5.heap.size, 1, none⟩ = some (.slice qa5 0 qc5) ∧ w6.frozen? ⟨w5.heap.size, 1, none⟩ = false) := ⟨(Below.cell HB6.out (p := ⟨w5.heap.size, 0, none⟩) (by simp)).trans (by simp), (Below.cell HB6.out (p := ⟨w5.heap.size, 1, none⟩) (by simp)).trans (by simp), (Below.frozen HB6.out (p := ⟨w5.heap.size, 1, none⟩) (by simp)).trans (by simp)⟩
      clear x0 x1 x2 x3 x4 x5 x6 x7
      go_loopw [41] (fun i wr => ∃ (k : Nat) (rv : Value), k ≤ m ∧ i = .int .i64 k ∧ wr.cell? ⟨w5.heap.size, 0, none⟩ = some (.slice ca5 n cc5) ∧ wr.cell? ⟨w5.heap.size, 1, none⟩ = some rv ∧ wr.frozen? ⟨w5.heap.size, 1, none⟩ = false ∧ RowsTwo wr (w2.heap.size + 1) w5.heap.size rv k S ∧ StrsKept wr (w2.heap.size + 1) w5.heap.size rv.ownBlock (.slice ca5 n cc5) n C ∧ Below w2.heap.size w2 wr ∧ w6.heap.size ≤ wr.heap.size ∧ OwnAt w5.heap.size w6 rv ∧ KeptFrom w5.heap.size w6 wr) (fun i _ => m - (intOf i).toNat)
      case atStart => exact ⟨0, .slice qa5 0 qc5, by omega, rfl, HT0.out.1, HT0.out.2.1, HT0.out.2.2, HR0.out, HK0.out, HB26.out, Nat.le_refl _, HOW0.out, fun b _ _ => rfl⟩
      case round =>
        obtain ⟨k, rv, hk, rfl, t0, t1, tf, hrow, hkept, hbr, hzr, hown, hkf⟩ := hrel
        have HB4 : Hid (Below (w.heap.size + 2) ((w.alloc (.cells #[.slice ca n ccap, .slice qa m qcap] 40)).alloc (.cells #[.slice none 0 0, .slice none 0 0] 40)) wr) := HB2.out.trans (hbr.mono (by have := HX6.out; omega))
        obtain ⟨x0, x1, x2, x3, x4, x5, x7⟩ := box2r HB4.out
        have x8 : w.heap.size < wr.heap.size := by omega
        have hTz : w5.heap.size < wr.heap.size := by omega
        obtain ⟨ra, rc, rfl⟩ := hrow.shape
        have HROW : Hid (RowsTwo wr (w2.heap.size + 1) w5.heap.size (.slice ra k rc) k S) := hrow
        have HKEPT : Hid (StrsKept wr (w2.heap.size + 1) w5.heap.size (Value.slice ra k rc).ownBlock (.slice ca5 n cc5) n C) := hkept
        have HB3 : Hid (Below w2.heap.size w2 wr) := hbr
        have HOWN : Hid (OwnAt w5.heap.size w6 (.slice ra k rc)) := hown
        have HKF : Hid (KeptFrom w5.heap.size w6 wr) := hkf
        clear hrow hkept hbr hown hkf
        by_cases hkm : k < m
        · obtain ⟨ob, oo, oc', eo, hob, e0⟩ := ints_at HI6.out HKF.out hzr hkm
          simp only [Value.slice.injEq, true_and] at eo
          obtain ⟨rfl, rfl⟩ := eo
          have hsk := HA.out k hkm
          have HAT : Hid (S k = R (σ k)) := HSR.out k
          obtain ⟨b, off, u, rfl, hb0, e1, hu⟩ := HQ.out wr (σ k) (HW.out HB4.out) hsk
          have hbz : b < wr.heap.size := by omega
          have hki : (k : Int) < (m : Int) := by omega
          have hsi : (σ k : Int) < (m : Int) := by omega
          have hu32 : (R (σ k)).len * 32 ≤ 140737488351232 := HG.out (σ k) hsk
          have HU : Hid (ItsIs wr u (R (σ k)).len (R (σ k)).at_) := hu
          obtain ⟨ua, ucap, rfl, _⟩ := HU.out
          clear hu
          generalize σ k = j at *
          go_upto_region 11 with fail
          go_region_law (first
            | (refine step_call rfl 142 #[.slice (some ⟨wr.heap.size, 0, none⟩) 1 1] (by simp [go_sem]) (fun v w' => ItsApart w' _ none v (R j).len (R j).at_ ∧ (∃ a' c', v = .slice a' (R j).len c') ∧ Below _ _ w') (concatI_one wr.heap.size 0 1 (.slice ua (R j).len ucap) _ _ _ (Nat.le_refl _) (by unfold maxLen; omega) (by simp) (by simp) (by exact (HU.out.alloc _).heap rfl) hu32) ?_; rintro v7 w7 ⟨hi7, ⟨va7, vc7, rfl⟩, hb7⟩; obtain ⟨k1, k2, k3⟩ := made_facts (wr := wr) hi7 hb7 (below_heap ((Below.refl _ _).alloc (Nat.le_refl _) _) rfl rfl rfl rfl) HROW.out hz5 hTz; have HI7 : Hid (ItsApart w7 (w5.heap.size + 1) (Value.slice ra k rc).ownBlock (.slice va7 (R j).len vc7) (R j).len (R j).at_) := k1; have HB7 : Hid (Below wr.heap.size wr w7) := k2; have HR7 : Hid (RowsTwo w7 (w2.heap.size + 1) w5.heap.size (.slice ra k rc) k S) := k3; have k4 : w5.heap.size < w7.heap.size := Nat.lt_of_lt_of_le hTz k2.size; have k5 : w7.cell? ⟨w5.heap.size, 1, none⟩ = some (.slice ra k rc) := (k2.cell (p := ⟨w5.heap.size, 1, none⟩) hTz).trans t1; clear hi7 hb7 k1 k2 k3)
            | (refine step_push_two rfl (.tmp 46) (.tmp 54) rfl (w2.heap.size + 1) w5.heap.size k (.slice ra k rc) S (by simp [Act.eval]) (by exact (HR7.out.alloc hz5 _).heap rfl hz5) hz5 (by simp; omega) ⟨w7.heap.size, 0, none⟩ 1 (.slice va7 (R j).len vc7) (by simp [Act.eval]) (by simp) (by rw [HAT.out]; exact (HI7.out.alloc _).heap rfl) (by omega) ?_; intro v8 w8 hr8 hsh8 hg8 hat8; obtain ⟨va8, vc8, rfl⟩ := hsh8; have hal := alloc_below (w6 := w7) hg8 rfl rfl rfl rfl; obtain ⟨z1, z2, z3⟩ := put_facts (wr := w7) hg8 hal HR7.out hz5 k4; have HR8 : Hid (RowsTwo w8 (w2.heap.size + 1) w5.heap.size (.slice va8 (k + 1) vc8) (k + 1) S) := hr8; have HK8 : Hid (StrsKept w8 (w2.heap.size + 1) w5.heap.size (Value.slice va8 (k + 1) vc8).ownBlock (.slice ca5 n cc5) n C) := kept_push (HKEPT.out.below HB7.out) hg8 hat8 hal; have HB8 : Hid (Below w2.heap.size w2 w8) := (HB3.out.trans (HB7.out.mono (by omega))).trans (z3.mono (by omega)); have hw67 : w6.heap.size ≤ w7.heap.size := Nat.le_trans hzr HB7.out.size; have HOW8 : Hid (OwnAt w5.heap.size w6 (.slice va8 (k + 1) vc8)) := own_push (w2 := w8) HOWN.out (Nat.le_trans hw67 hal.size) hat8; have HKF8 : Hid (KeptFrom w5.heap.size w6 w8) := kept_grown HOWN.out hg8 (Nat.le_trans hw67 hal.size) ((HKF.out.trans hzr (KeptFrom.of HB7.out)).trans hw67 (KeptFrom.of hal)); have s0 : w8.cell? ⟨w5.heap.size, 0, none⟩ = some (.slice ca5 n cc5) := (World.cell?_of_block (a := ⟨w5.heap.size, 0, none⟩) z1).trans ((HB7.out.cell (p := ⟨w5.heap.size, 0, none⟩) hTz).trans t0); have s1 : w8.cell? ⟨w5.heap.size, 1, none⟩ = some (.slice ra k rc) := (World.cell?_of_block (a := ⟨w5.heap.size, 1, none⟩) z1).trans k5; have sf : w8.frozen? ⟨w5.heap.size, 1, none⟩ = false := (World.frozen?_of_block (a := ⟨w5.heap.size, 1, none⟩) z1).trans ((HB7.out.frozen (p := ⟨w5.heap.size, 1, none⟩) hTz).trans tf); have hz8 : w5.heap.size < w8.heap.size := Nat.lt_of_lt_of_le k4 z2; have hz68 : w6.heap.size ≤ w8.heap.size := Nat.le_trans hw67 z2; clear hr8 hg8 hat8 hal z1 z2 z3))
          all_goals
            go_wp2_with fail
            go_roundw
            case rel => exact ⟨k + 1, .slice va8 (k + 1) vc8, by omega, by go_num, by simp [go_sem, s0], by simp [go_sem, s1], by simp [go_sem, sf], HR8.out.setCell hz5 (.inl rfl) _, HK8.out.setCell (.inl rfl) _, HB8.out.setCell (by simp; omega) _, by simpa using hz68, HOW8.out, HKF8.out.setCell (Nat.le_refl _) _⟩
            case measure => simp [intOf]; omega
        · have e : k = m := by omega
          subst e
          go_wp2
          refine bodyPost_ret (v := .tuple #[.agg #[.slice ca5 n cc5, .slice ra k rc], .int .i64 0]) (by simp [results, Tryz.results107, go_sem, x2, x3]) rfl ⟨_, _, by rw [HF0.out], ?_, (((HW.out HB4.out)).setCell (by simp <;> omega) _).setCell (by simp <;> omega) _⟩
          have hx6 := HX6.out
          rw [HF0.out]; exact FreshRel.of ((HKEPT.out.setCell (.inr (by simp; omega)) _).setCell (.inr (by simp; omega)) _) ((HROW.out.setCell hz5 (.inr (by simp; omega)) _).setCell hz5 (.inr (by simp; omega)) _) (by omega) hz5
  · have HFF : Hid (soF C n R m O ko = relF C n R m) := if_neg h0
    have HNZ : Hid (¬ relF C n R m = 0) := h0
    have h1 : (relF C n R m != 0) = true := by simpa using h0
    clear h0
    generalize soF C n R m O ko = F at *
    generalize relF C n R m = G at *
    go_enter Tryz.func107, Tryz.ntmps107
    go_wp2_with (first | (go_at_call 93; refine (C1.out _ _).mono ?_; rintro e w1 ⟨rfl, hb1⟩; have HB1 : Hid (Below (w.heap.size + 2) _ w1) := hb1; obtain ⟨x0, x1, x2, x3, x4, x5, x6⟩ := box2r hb1; clear hb1))
    refine bodyPost_ret (v := .tuple #[.agg #[.slice none 0 0, .slice none 0 0], .int .i64 G]) (by simp [results, Tryz.results107, go_sem, x2, x3]) rfl ⟨_, _, by rw [HFF.out], ?_, (((HW.out HB1.out)).setCell (by simp <;> omega) _).setCell (by simp <;> omega) _⟩
    rw [HFF.out, okN, if_neg HNZ.out, okN, if_neg HNZ.out]; exact FreshRel.nil _ _ _ _
end Go.Proofs.YtkcejelmohameaaGreatDoor
