/-
  CONTRACT of rel.pair, for whatever function value tells the partners.
-/
import Derived.Test.YtkcejelmohameaaGreatDoorRlCMap
set_option linter.unusedVariables false
namespace Go.Proofs.YtkcejelmohameaaGreatDoor
set_option maxRecDepth 100000
open Go.RowKit Go.WideShapes

/-- the columns of both -/
def colsT (C : Nat → ByteArray) (n : Nat) (C' : Nat → ByteArray) (n' : Nat) : Nat → ByteArray := (appS ⟨n, C⟩ ⟨n', C'⟩).at_
set_option maxHeartbeats 6400000 in
theorem pair_gen (f : FuncId) (caps : Array Value) (pa : Nat → Option Addr) (px pn : Nat → Nat) (PR : Nat → Nat → Row) (c q c' q' : Value) (n m n' l' : Nat) (C C' : Nat → ByteArray) (R : Nat → Row) (w : World)
    (hc : StrsIs w c n C) (hc' : StrsIs w c' n' C') (hq : RowsIs w q m R) (hsh : ∃ a x, q' = .slice a l' x) (hf : StrsFine (n + n') (colsT C n C' n'))
    (hP : ∀ k, k < m → RowsIs w (.slice (pa k) (pn k) (px k)) (pn k) (PR k)) (hlen : ∀ k, k < m → ∀ i, i < pn k → (appI (R k) (PR k i)).len * 32 ≤ 140737488351232) (hpn : ∀ k, pn k ≤ 1000000) (hm : m ≤ 1000000)
    (hrun : ∀ (args : Array Value) (W : World), Sem.run Tryz.prog (callFunc f args) W = .ok (.enter f args) W)
    (hcall : ∀ k W u, k < m → Below w.heap.size w W → ItsIs W u (R k).len (R k).at_ → Calls Tryz.prog f (#[u] ++ caps) W fun e w' => e = .returned (.slice (pa k) (pn k) (px k)) ∧ Below W.heap.size W w') :
    Calls Tryz.prog 138 #[.agg #[c, q], .agg #[c', q'], .func (.func f) #[] caps] w fun e w' => ∃ c1 q1, e = .returned (.tuple #[.agg #[c1, q1], .int .i64 (madeF (colsT C n C' n') (n + n') (pairN pn m))]) ∧ FreshRel w w' c1 q1 (okN (madeF (colsT C n C' n') (n + n') (pairN pn m)) (n + n')) (okN (madeF (colsT C n C' n') (n + n') (pairN pn m)) (pairN pn m)) (colsT C n C' n') (pairR pn PR R m) ∧ Below w.heap.size w w' := by
  have HW : Hid (∀ {W : World} {o o' o'' : Obj}, Below (w.heap.size + 3) (((w.alloc o).alloc o').alloc o'') W → Below w.heap.size w W) := fun h => (below_three _ _ _).trans (h.mono (by omega))
  have CC : Hid (∀ W, Below w.heap.size w W → Calls Tryz.prog 98 #[.slice (some ⟨W.heap.size, 0, none⟩) 2 2] (W.alloc (.cells #[c, c'] 35)) fun e w' => ∃ a x, e = .returned (.slice a (n + n') x) ∧ StrsIs w' (.slice a (n + n') x) (n + n') (colsT C n C' n') ∧ Below W.heap.size W w') := fun W hW => by
    refine (concatS_two W.heap.size 0 2 c c' ⟨n, C⟩ ⟨n', C'⟩ (W.alloc (.cells #[c, c'] 35)) (Nat.le_refl _) (by unfold maxLen; omega) (by simp) (by simp) (by simp) ((hc.below hW).below ((Below.refl _ _).alloc (Nat.le_refl _) _)) ((hc'.below hW).below ((Below.refl _ _).alloc (Nat.le_refl _) _)) hf.1).mono ?_
    rintro e w' ⟨v, rfl, h1, ⟨a, x, rfl⟩, h3⟩
    exact ⟨a, x, rfl, h1.is, ((Below.refl _ _).alloc (Nat.le_refl _) _).trans (h3.mono (by simp))⟩
  have CM : Hid (∀ W a x, StrsIs W (.slice a (n + n') x) (n + n') (colsT C n C' n') → Calls Tryz.prog 119 #[.slice a (n + n') x, .int .i64 (pairN pn m : Int)] W fun e w' => e = .returned (.int .i64 (madeF (colsT C n C' n') (n + n') (pairN pn m))) ∧ w' = W) := fun W a x h => checkMade_is _ (n + n') (pairN pn m) (colsT C n C' n') W h hf.2 (by have := pairN_le hpn m; unfold maxLen; omega)
  have CW : Hid (∀ W, Below w.heap.size w W → pairN pn m ≤ 4000000 → Calls Tryz.prog 133 #[.int .i64 (pairN pn m : Int), .slice (some ⟨W.heap.size, 0, none⟩) 2 2] (W.alloc (.cells #[c, c'] 35)) fun e w' => ∃ c1 q1, e = .returned (.agg #[c1, q1]) ∧ StrsKept w' (W.heap.size + 1) w'.heap.size q1.ownBlock c1 (n + n') (colsT C n C' n') ∧ RowsOwn w' (W.heap.size + 1) q1 0 (pairR pn PR R m) ∧ (∃ a1 k1, c1 = .slice a1 (n + n') k1) ∧ (∃ a2 k2, q1 = .slice a2 0 k2) ∧ Below (W.heap.size + 1) (W.alloc (.cells #[c, c'] 35)) w') := fun W hW hl => by
    have h := withRoom_two (pairN pn m) W.heap.size 0 2 c c' ⟨n, C⟩ ⟨n', C'⟩ (W.alloc (.cells #[c, c'] 35)) hl (Nat.le_refl _) (by unfold maxLen; omega) (by simp) (by simp) (by simp) ((hc.below hW).below ((Below.refl _ _).alloc (Nat.le_refl _) _)) ((hc'.below hW).below ((Below.refl _ _).alloc (Nat.le_refl _) _)) hf.1 (pairR pn PR R m)
    rw [show (W.alloc (.cells #[c, c'] 35)).heap.size = W.heap.size + 1 by simp] at h
    exact h
  have HCALL : Hid (∀ k W u, k < m → Below w.heap.size w W → ItsIs W u (R k).len (R k).at_ → Calls Tryz.prog f (#[u] ++ caps) W fun e w' => e = .returned (.slice (pa k) (pn k) (px k)) ∧ Below W.heap.size W w') := hcall
  have HP : Hid (∀ k W, k < m → Below w.heap.size w W → RowsIs W (.slice (pa k) (pn k) (px k)) (pn k) (PR k)) := fun k W hk hW => (hP k hk).below hW
  have HLEN : Hid (∀ k, k < m → ∀ i, i < pn k → (appI (R k) (PR k i)).len * 32 ≤ 140737488351232) := hlen
  have HSUM : Hid (∀ k, k < m → pairN pn k + pn k ≤ 1000000000000) := fun k hk => by
    have h1 := pairN_le hpn (k + 1)
    have e : pairN pn (k + 1) = pairN pn k + pn k := rfl
    omega
  have HPN : Hid (∀ k, pn k ≤ 1000000) := hpn
  obtain ⟨qa, qcap, rfl, q1, q2, _, q3⟩ := hq
  have HQ : Hid (∀ i, i < m → ∃ b off u, qa = some ⟨b, off, none⟩ ∧ b < w.heap.size ∧ ∀ W, Below w.heap.size w W → W.cell? ⟨b, off + i, none⟩ = some u ∧ ItsIs W u (R i).len (R i).at_) := fun i hi => by
    obtain ⟨b, off, h1, h2, h3⟩ := q3 (by omega)
    obtain ⟨u, h4, h5⟩ := h3 i hi
    exact ⟨b, off, u, h1, h2, fun W hW => ⟨(hW.cell (p := ⟨b, off + i, none⟩) h2).trans h4, h5.below hW⟩⟩
  obtain ⟨ca, ccap, rfl, _⟩ := hc
  obtain ⟨ca', ccap', rfl, _⟩ := hc'
  obtain ⟨qa', qcap', rfl⟩ := hsh
  clear hf q2 q3 hcall hP hlen hpn
  go_enter Tryz.func138, Tryz.ntmps138
  go_wp2
  go_loopw [8, 20] (fun s i wr => ∃ k : Nat, k ≤ m ∧ i = .int .i64 k ∧ s = .int .i64 (pairN pn k : Int) ∧ Below (w.heap.size + 3) (((w.alloc (.cells #[.slice ca n ccap, .slice qa m qcap] 40)).alloc (.cells #[.slice ca' n' ccap', .slice qa' l' qcap'] 40)).alloc (.cells #[.slice none 0 0, .slice none 0 0] 40)) wr) (fun _ i _ => m - (intOf i).toNat)
  case atStart => exact ⟨0, Nat.zero_le _, rfl, rfl, Below.refl _ _⟩
  case round =>
    obtain ⟨k, hk, rfl, rfl, hbr⟩ := hrel
    obtain ⟨x0, x1, x2, x3, x4, x5, x6, x7, x8⟩ := box3 hbr
    have HBR : Hid (Below (w.heap.size + 3) (((w.alloc (.cells #[.slice ca n ccap, .slice qa m qcap] 40)).alloc (.cells #[.slice ca' n' ccap', .slice qa' l' qcap'] 40)).alloc (.cells #[.slice none 0 0, .slice none 0 0] 40)) wr) := hbr
    clear hbr
    by_cases hkm : k < m
    · obtain ⟨b, off, u, rfl, hb0, hall⟩ := HQ.out k hkm
      obtain ⟨e1, hu⟩ := hall wr (HW.out HBR.out)
      clear hall
      have hki : (k : Int) < (m : Int) := by omega
      have hsum : pairN pn k + pn k ≤ 1000000000000 := HSUM.out k hkm
      have CJ : Hid (Calls Tryz.prog f (#[u] ++ caps) wr fun e w' => e = .returned (.slice (pa k) (pn k) (px k)) ∧ Below wr.heap.size wr w') := HCALL.out k wr u hkm (HW.out HBR.out) hu
      obtain ⟨ua, ucap, rfl, _⟩ := hu
      have HPE : Hid (pairN pn (k + 1) = pairN pn k + pn k) := (rfl : pairN pn (k + 1) = pairN pn k + pn k)
      go_wp2_with fail
      refine CJ.out.mono ?_
      rintro e w6 ⟨rfl, hb6⟩
      have HB6 : Hid (Below wr.heap.size wr w6) := hb6
      clear hb6
      go_wp2_with fail
      go_roundw
      case rel => exact ⟨k + 1, by omega, by go_num, congrArg (Value.int .i64) (by rw [HPE.out]; omega), HBR.out.trans (HB6.out.mono (by omega))⟩
      case measure => simp [intOf]; omega
    · have e : k = m := by omega
      subst e
      have hpm : pairN pn k ≤ 1000000000000 := by
        rcases Nat.eq_zero_or_pos k with hz | hz
        · subst hz; exact Nat.zero_le _
        · have h1 := HSUM.out (k - 1) (by omega)
          have e1 : pairN pn (k - 1 + 1) = pairN pn (k - 1) + pn (k - 1) := rfl
          rw [show k - 1 + 1 = k by omega] at e1
          omega
      by_cases hF0 : madeF (colsT C n C' n') (n + n') (pairN pn k) = 0
      · have HF0 : Hid (madeF (colsT C n C' n') (n + n') (pairN pn k) = 0) := hF0
        rw [hF0] at CM
        have hm4 : pairN pn k ≤ 4000000 := by
          by_cases h1 : colsF (colsT C n C' n') (n + n') = 0
          · rw [madeF_rows h1] at hF0
            by_cases h2 : 1000000 < pairN pn k
            · rw [if_pos h2] at hF0; cases hF0
            · omega
          · rw [madeF_cols h1] at hF0; exact absurd hF0 h1
        clear hF0
        go_wp2_with (first
          | (go_at_call 98; refine (CC.out _ (HW.out HBR.out)).mono ?_; rintro e w2 ⟨da, dk, rfl, hs2, hb2⟩; have HS2 : Hid (StrsIs w2 (.slice da (n + n') dk) (n + n') (colsT C n C' n')) := hs2; have HB2 : Hid (Below (w.heap.size + 3) (((w.alloc (.cells #[.slice ca n ccap, .slice qa k qcap] 40)).alloc (.cells #[.slice ca' n' ccap', .slice qa' l' qcap'] 40)).alloc (.cells #[.slice none 0 0, .slice none 0 0] 40)) w2) := HBR.out.trans (hb2.mono (by omega)); clear x0 x1 x2 x3 x4 x5 x6 x7 x8; obtain ⟨x0, x1, x2, x3, x4, x5, x6, x7, x8⟩ := box3 HB2.out; clear hs2 hb2)
          | (go_at_call 119; refine (CM.out _ _ _ HS2.out).mono ?_; rintro e w3 ⟨rfl, rfl⟩)
          | (go_at_call 133; refine (CW.out _ (HW.out HB2.out) hm4).mono ?_; rintro e w5 ⟨c5, q5, rfl, hs5, hr5, ⟨ca5, cc5, rfl⟩, ⟨qa5, qc5, rfl⟩, hb5⟩; have HS5 : Hid (StrsKept w5 (w3.heap.size + 1) w5.heap.size (Value.slice qa5 0 qc5).ownBlock (.slice ca5 (n + n') cc5) (n + n') (colsT C n C' n')) := hs5; have HR5 : Hid (RowsOwn w5 (w3.heap.size + 1) (.slice qa5 0 qc5) 0 (pairR pn PR R k)) := hr5; have HB5 : Hid (Below (w.heap.size + 3) (((w.alloc (.cells #[.slice ca n ccap, .slice qa k qcap] 40)).alloc (.cells #[.slice ca' n' ccap', .slice qa' l' qcap'] 40)).alloc (.cells #[.slice none 0 0, .slice none 0 0] 40)) w5) := (HB2.out.alloc (by omega) _).trans (hb5.mono (by omega)); have hz5 : w3.heap.size + 1 ≤ w5.heap.size := (by have := hb5.size; simpa using this); clear x0 x1 x2 x3 x4 x5 x6 x7; obtain ⟨x0, x1, x2, x3, x4, x5, x6, x7, x9⟩ := box3 HB5.out; have x10 : w.heap.size < w5.heap.size := (by omega); have x11 : w.heap.size + 1 < w5.heap.size := (by omega); clear hs5 hr5 hb5))
        have HR0 : Hid (RowsTwo (w5.alloc (.cells #[.slice ca5 (n + n') cc5, .slice qa5 0 qc5] 40)) (w3.heap.size + 1) w5.heap.size (.slice qa5 0 qc5) 0 (pairR pn PR R k)) := (RowsTwo.start HR5.out (Nat.le_refl _)).alloc hz5 _
        have HK0 : Hid (StrsKept (w5.alloc (.cells #[.slice ca5 (n + n') cc5, .slice qa5 0 qc5] 40)) (w3.heap.size + 1) w5.heap.size (Value.slice qa5 0 qc5).ownBlock (.slice ca5 (n + n') cc5) (n + n') (colsT C n C' n')) := HS5.out.below ((Below.refl _ _).alloc (Nat.le_refl _) _)
        go_loopw [53] (fun i wr => ∃ (t : Nat) (rv : Value), t ≤ k ∧ i = .int .i64 t ∧ wr.cell? ⟨w5.heap.size, 0, none⟩ = some (.slice ca5 (n + n') cc5) ∧ wr.cell? ⟨w5.heap.size, 1, none⟩ = some rv ∧ wr.frozen? ⟨w5.heap.size, 1, none⟩ = false ∧ RowsTwo wr (w3.heap.size + 1) w5.heap.size rv (pairN pn t) (pairR pn PR R k) ∧ StrsKept wr (w3.heap.size + 1) w5.heap.size rv.ownBlock (.slice ca5 (n + n') cc5) (n + n') (colsT C n C' n') ∧ Below (w.heap.size + 3) (((w.alloc (.cells #[.slice ca n ccap, .slice qa k qcap] 40)).alloc (.cells #[.slice ca' n' ccap', .slice qa' l' qcap'] 40)).alloc (.cells #[.slice none 0 0, .slice none 0 0] 40)) wr ∧ w5.heap.size < wr.heap.size) (fun i _ => k - (intOf i).toNat)
        case atStart => exact ⟨0, .slice qa5 0 qc5, Nat.zero_le _, rfl, by simp, by simp, by simp, HR0.out, HK0.out, HB5.out.alloc (by omega) _, by simp⟩
        case round =>
          obtain ⟨t, rv, ht, rfl, t0, t1, tf, hrow, hkept, hbr, hTz⟩ := hrel
          clear x0 x1 x2 x3 x4 x5 x6 x7 x9
          obtain ⟨x0, x1, x2, x3, x4, x5, x6, x7, x9⟩ := box3 hbr
          obtain ⟨ra, rc, rfl⟩ := hrow.shape
          have HROW : Hid (RowsTwo wr (w3.heap.size + 1) w5.heap.size (.slice ra (pairN pn t) rc) (pairN pn t) (pairR pn PR R k)) := hrow
          have HKEPT : Hid (StrsKept wr (w3.heap.size + 1) w5.heap.size (Value.slice ra (pairN pn t) rc).ownBlock (.slice ca5 (n + n') cc5) (n + n') (colsT C n C' n')) := hkept
          have HBB : Hid (Below (w.heap.size + 3) (((w.alloc (.cells #[.slice ca n ccap, .slice qa k qcap] 40)).alloc (.cells #[.slice ca' n' ccap', .slice qa' l' qcap'] 40)).alloc (.cells #[.slice none 0 0, .slice none 0 0] 40)) wr) := hbr
          clear hrow hkept hbr
          by_cases htk : t < k
          · obtain ⟨b, off, u, rfl, hb0, hall⟩ := HQ.out t htk
            obtain ⟨e1, hu⟩ := hall wr (HW.out HBB.out)
            have hti : (t : Int) < (k : Int) := by omega
            have hpt : pn t ≤ 1000000 := HPN.out t
            have CJ : Hid (Calls Tryz.prog f (#[u] ++ caps) wr fun e w' => e = .returned (.slice (pa t) (pn t) (px t)) ∧ Below wr.heap.size wr w') := HCALL.out t wr u htk (HW.out HBB.out) hu
            have HU : Hid (∀ W, Below w.heap.size w W → ItsIs W u (R t).len (R t).at_) := fun W hW => (hall W hW).2
            clear hall
            have HPt : Hid (∀ W, Below w.heap.size w W → RowsIs W (.slice (pa t) (pn t) (px t)) (pn t) (PR t)) := fun W hW => HP.out t W htk hW
            have HLt : Hid (∀ i, i < pn t → (appI (R t) (PR t i)).len * 32 ≤ 140737488351232 ∧ pairR pn PR R k (pairN pn t + i) = appI (R t) (PR t i) ∧ pairN pn t + i < pairN pn k) := fun i hi => ⟨HLEN.out t htk i hi, pairR_at htk hi, pairN_lt pn htk hi⟩
            have HPE : Hid (pairN pn (t + 1) = pairN pn t + pn t) := (rfl : pairN pn (t + 1) = pairN pn t + pn t)
            obtain ⟨ua, ucap, rfl, _⟩ := hu
            generalize pa t = ak at *
            generalize px t = xk at *
            generalize pn t = pk at *
            go_wp2_with fail
            refine CJ.out.mono ?_
            rintro e w6 ⟨rfl, hb6⟩
            have HB6 : Hid (Below wr.heap.size wr w6) := hb6
            clear hb6
            go_wp2_with fail
            have HR6 : Hid (RowsTwo w6 (w3.heap.size + 1) w5.heap.size (.slice ra (pairN pn t) rc) (pairN pn t + 0) (pairR pn PR R k)) := HROW.out.below HB6.out hz5
            have HK6 : Hid (StrsKept w6 (w3.heap.size + 1) w5.heap.size (Value.slice ra (pairN pn t) rc).ownBlock (.slice ca5 (n + n') cc5) (n + n') (colsT C n C' n')) := HKEPT.out.below HB6.out
            have HBB6 : Hid (Below (w.heap.size + 3) (((w.alloc (.cells #[.slice ca n ccap, .slice (some ⟨b, off, none⟩) k qcap] 40)).alloc (.cells #[.slice ca' n' ccap', .slice qa' l' qcap'] 40)).alloc (.cells #[.slice none 0 0, .slice none 0 0] 40)) w6) := HBB.out.trans (HB6.out.mono (by omega))
            have y0 : w6.cell? ⟨w5.heap.size, 0, none⟩ = some (.slice ca5 (n + n') cc5) := (HB6.out.cell (p := ⟨w5.heap.size, 0, none⟩) hTz).trans t0
            have y1 : w6.cell? ⟨w5.heap.size, 1, none⟩ = some (.slice ra (pairN pn t) rc) := (HB6.out.cell (p := ⟨w5.heap.size, 1, none⟩) hTz).trans t1
            have yf : w6.frozen? ⟨w5.heap.size, 1, none⟩ = false := (HB6.out.frozen (p := ⟨w5.heap.size, 1, none⟩) hTz).trans tf
            have hz6 : wr.heap.size ≤ w6.heap.size := HB6.out.size
            clear HROW HKEPT HBB t0 t1 tf x0 x1 x2 x3 x4 x5 x6 x7 x9 CJ
            go_loopw [61] (fun i wr => ∃ (j : Nat) (rv : Value), j ≤ pk ∧ i = .int .i64 j ∧ wr.cell? ⟨w5.heap.size, 0, none⟩ = some (.slice ca5 (n + n') cc5) ∧ wr.cell? ⟨w5.heap.size, 1, none⟩ = some rv ∧ wr.frozen? ⟨w5.heap.size, 1, none⟩ = false ∧ RowsTwo wr (w3.heap.size + 1) w5.heap.size rv (pairN pn t + j) (pairR pn PR R k) ∧ StrsKept wr (w3.heap.size + 1) w5.heap.size rv.ownBlock (.slice ca5 (n + n') cc5) (n + n') (colsT C n C' n') ∧ Below (w.heap.size + 3) (((w.alloc (.cells #[.slice ca n ccap, .slice (some ⟨b, off, none⟩) k qcap] 40)).alloc (.cells #[.slice ca' n' ccap', .slice qa' l' qcap'] 40)).alloc (.cells #[.slice none 0 0, .slice none 0 0] 40)) wr ∧ w5.heap.size < wr.heap.size) (fun i _ => pk - (intOf i).toNat)
            case atStart => exact ⟨0, .slice ra (pairN pn t) rc, Nat.zero_le _, rfl, y0, y1, yf, HR6.out, HK6.out, HBB6.out, by omega⟩
            case round =>
              obtain ⟨j, rv, hj, rfl, t0, t1, tf, hrow, hkept, hbr, hTz⟩ := hrel
              obtain ⟨ra, rc, rfl⟩ := hrow.shape
              have HROW : Hid (RowsTwo wr (w3.heap.size + 1) w5.heap.size (.slice ra (pairN pn t + j) rc) (pairN pn t + j) (pairR pn PR R k)) := hrow
              have HKEPT : Hid (StrsKept wr (w3.heap.size + 1) w5.heap.size (Value.slice ra (pairN pn t + j) rc).ownBlock (.slice ca5 (n + n') cc5) (n + n') (colsT C n C' n')) := hkept
              have HBB : Hid (Below (w.heap.size + 3) (((w.alloc (.cells #[.slice ca n ccap, .slice (some ⟨b, off, none⟩) k qcap] 40)).alloc (.cells #[.slice ca' n' ccap', .slice qa' l' qcap'] 40)).alloc (.cells #[.slice none 0 0, .slice none 0 0] 40)) wr) := hbr
              clear hrow hkept hbr
              by_cases hjl : j < pk
              · obtain ⟨a2, c2, e2, _, _, _, p3⟩ := HPt.out wr (HW.out HBB.out)
                cases e2
                obtain ⟨pb, po, rfl, hpb, p4⟩ := p3 (by omega)
                obtain ⟨u2, e2, hu2⟩ := p4 j hjl
                have HU2 : Hid (ItsIs wr u2 (PR t j).len (PR t j).at_) := hu2
                obtain ⟨va, vcap, rfl, _⟩ := HU2.out
                obtain ⟨hl32, hat, hlt⟩ := HLt.out j hjl
                have HUW : Hid (ItsIs wr (.slice ua (R t).len ucap) (R t).len (R t).at_) := HU.out wr (HW.out HBB.out)
                have HAT : Hid (pairR pn PR R k (pairN pn t + j) = appI (R t) (PR t j)) := hat
                have hji : (j : Int) < (pk : Int) := by omega
                have hub : b < w.heap.size := hb0
                clear p3 p4 hu2 hat y0 y1 yf
                have HG : Hid (pairN pn t + (j + 1) = pairN pn t + j + 1) := (rfl : pairN pn t + (j + 1) = pairN pn t + j + 1)
                generalize pairN pn t + j = g at *
                go_upto_region 17 with fail
                go_region_law (first
                  | (refine step_call rfl 142 #[.slice (some ⟨wr.heap.size, 0, none⟩) 2 2] (by simp [go_sem]) (fun v w' => ItsApart w' _ none v (appI (R t) (PR t j)).len (appI (R t) (PR t j)).at_ ∧ (∃ a' c', v = .slice a' (appI (R t) (PR t j)).len c') ∧ Below _ _ w') (concatI_two wr.heap.size 0 2 (.slice ua (R t).len ucap) (.slice va (PR t j).len vcap) (R t) (PR t j) _ (Nat.le_refl _) (by unfold maxLen; omega) (by simp) (by simp) (by simp) (by exact (HUW.out.alloc _).heap rfl) (by exact (HU2.out.alloc _).heap rfl) hl32) ?_; rintro v7 w7 ⟨hi7, ⟨va7, vc7, rfl⟩, hb7⟩; obtain ⟨k1, k2, k3⟩ := made_facts (wr := wr) hi7 hb7 (below_heap ((Below.refl _ _).alloc (Nat.le_refl _) _) rfl rfl rfl rfl) HROW.out hz5 hTz; have HI7 : Hid (ItsApart w7 (w5.heap.size + 1) (Value.slice ra g rc).ownBlock (.slice va7 (appI (R t) (PR t j)).len vc7) (appI (R t) (PR t j)).len (appI (R t) (PR t j)).at_) := k1; have HB7 : Hid (Below wr.heap.size wr w7) := k2; have HR7 : Hid (RowsTwo w7 (w3.heap.size + 1) w5.heap.size (.slice ra g rc) g (pairR pn PR R k)) := k3; have k4 : w5.heap.size < w7.heap.size := Nat.lt_of_lt_of_le hTz k2.size; have k5 : w7.cell? ⟨w5.heap.size, 1, none⟩ = some (.slice ra g rc) := (k2.cell (p := ⟨w5.heap.size, 1, none⟩) hTz).trans t1; clear hi7 hb7 k1 k2 k3)
                  | (refine step_push_two rfl (.tmp 66) (.tmp 71) rfl (w3.heap.size + 1) w5.heap.size g (.slice ra g rc) (pairR pn PR R k) (by simp [Act.eval]) (by exact (HR7.out.alloc hz5 _).heap rfl hz5) hz5 (by simp; omega) ⟨w7.heap.size, 0, none⟩ 1 (.slice va7 (appI (R t) (PR t j)).len vc7) (by simp [Act.eval]) (by simp) (by rw [HAT.out]; exact (HI7.out.alloc _).heap rfl) (by omega) ?_; intro v8 w8 hr8 hsh8 hg8 hat8; obtain ⟨va8, vc8, rfl⟩ := hsh8; have hal := alloc_below (w6 := w7) hg8 rfl rfl rfl rfl; obtain ⟨z1, z2, z3⟩ := put_facts (wr := w7) hg8 hal HR7.out hz5 k4; have HR8 : Hid (RowsTwo w8 (w3.heap.size + 1) w5.heap.size (.slice va8 (g + 1) vc8) (g + 1) (pairR pn PR R k)) := hr8; have HK8 : Hid (StrsKept w8 (w3.heap.size + 1) w5.heap.size (Value.slice va8 (g + 1) vc8).ownBlock (.slice ca5 (n + n') cc5) (n + n') (colsT C n C' n')) := kept_push (HKEPT.out.below HB7.out) hg8 hat8 hal; have HB8 : Hid (Below (w3.heap.size + 1) wr w8) := (HB7.out.mono (by omega)).trans z3; have s0 : w8.cell? ⟨w5.heap.size, 0, none⟩ = some (.slice ca5 (n + n') cc5) := (World.cell?_of_block (a := ⟨w5.heap.size, 0, none⟩) z1).trans ((HB7.out.cell (p := ⟨w5.heap.size, 0, none⟩) hTz).trans t0); have s1 : w8.cell? ⟨w5.heap.size, 1, none⟩ = some (.slice ra g rc) := (World.cell?_of_block (a := ⟨w5.heap.size, 1, none⟩) z1).trans k5; have sf : w8.frozen? ⟨w5.heap.size, 1, none⟩ = false := (World.frozen?_of_block (a := ⟨w5.heap.size, 1, none⟩) z1).trans ((HB7.out.frozen (p := ⟨w5.heap.size, 1, none⟩) hTz).trans tf); have hz8 : w5.heap.size < w8.heap.size := Nat.lt_of_lt_of_le k4 z2; clear hr8 hg8 hat8 hal z1 z2 z3))
                all_goals
                  go_wp2_with fail
                  have HZ : Hid (∀ v, Below (w3.heap.size + 1) wr (w8.setCell ⟨w5.heap.size, 1, none⟩ v)) := fun v => HB8.out.setCell (by simp; omega) _
                  go_roundw
                  case rel => exact ⟨j + 1, .slice va8 (g + 1) vc8, by omega, by go_num, by simp [go_sem, s0], by simp [go_sem, s1], by simp [go_sem, sf], by rw [HG.out]; exact HR8.out.setCell hz5 (.inl rfl) _, HK8.out.setCell (.inl rfl) _, HBB.out.trans ((HZ.out _).mono (by omega)), by simp; omega⟩
                  case measure => simp [intOf]; omega
              · have e : j = pk := by omega
                subst e
                go_wp2
                go_roundw
                case rel => exact ⟨t + 1, _, by omega, by go_num, t0, t1, tf, by rw [HPE.out]; exact HROW.out, HKEPT.out, HBB.out, hTz⟩
                case measure => simp [intOf]; omega
          · have e : t = k := by omega
            subst e
            go_wp2
            refine bodyPost_ret (v := .tuple #[.agg #[.slice ca5 (n + n') cc5, .slice ra (pairN pn t) rc], .int .i64 0]) (by simp [results, Tryz.results138, go_sem, x4, x5]) rfl ⟨_, _, by rw [HF0.out], ?_, (((HW.out HBB.out)).setCell (by simp; omega) _).setCell (by simp; omega) _⟩
            rw [HF0.out]; exact FreshRel.of ((HKEPT.out.setCell (.inr (by simp; omega)) _).setCell (.inr (by simp; omega)) _) ((HROW.out.setCell hz5 (.inr (by simp; omega)) _).setCell hz5 (.inr (by simp; omega)) _) (by omega) hz5
      · have HNZ : Hid (¬ madeF (colsT C n C' n') (n + n') (pairN pn k) = 0) := hF0
        have h1 : (madeF (colsT C n C' n') (n + n') (pairN pn k) != 0) = true := by simpa using hF0
        clear hF0
        obtain ⟨M, hM⟩ : ∃ M, madeF (colsT C n C' n') (n + n') (pairN pn k) = M := ⟨_, rfl⟩
        have HM : Hid (madeF (colsT C n C' n') (n + n') (pairN pn k) = M) := hM
        rw [hM] at CM h1 HNZ
        clear hM
        go_wp2_with (first
          | (go_at_call 98; refine (CC.out _ (HW.out HBR.out)).mono ?_; rintro e w2 ⟨da, dk, rfl, hs2, hb2⟩; have HS2 : Hid (StrsIs w2 (.slice da (n + n') dk) (n + n') (colsT C n C' n')) := hs2; have HB2 : Hid (Below (w.heap.size + 3) (((w.alloc (.cells #[.slice ca n ccap, .slice qa k qcap] 40)).alloc (.cells #[.slice ca' n' ccap', .slice qa' l' qcap'] 40)).alloc (.cells #[.slice none 0 0, .slice none 0 0] 40)) w2) := HBR.out.trans (hb2.mono (by omega)); clear x0 x1 x2 x3 x4 x5 x6 x7 x8; obtain ⟨x0, x1, x2, x3, x4, x5, x6, x7, x8⟩ := box3 HB2.out; clear hs2 hb2)
          | (go_at_call 119; refine (CM.out _ _ _ HS2.out).mono ?_; rintro e w3 ⟨rfl, rfl⟩))
        refine bodyPost_ret (v := .tuple #[.agg #[.slice none 0 0, .slice none 0 0], .int .i64 M]) (by simp [results, Tryz.results138, go_sem, x4, x5]) rfl ⟨_, _, by rw [HM.out], ?_, (((HW.out HB2.out)).setCell (by simp; omega) _).setCell (by simp; omega) _⟩
        rw [HM.out, show okN M (n + n') = 0 from if_neg HNZ.out, show okN M (pairN pn k) = 0 from if_neg HNZ.out]; exact FreshRel.nil _ _ _ _
end Go.Proofs.YtkcejelmohameaaGreatDoor
