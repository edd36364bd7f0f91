/-
  CONTRACT of rel.Project.
-/
import Derived.Test.YtkcejelmohameaaGreatDoorRlCMap
import Derived.Test.YtkcejelmohameaaGreatDoorRlUnion
set_option linter.unusedVariables false
namespace Go.Proofs.YtkcejelmohameaaGreatDoor
set_option maxRecDepth 100000
open Go.RowKit Go.WideShapes

theorem IntsIs.heap {w w' : World} {v : Value} {n : Nat} {P : Nat → Nat} (h : IntsIs w v n P) (e : w'.heap = w.heap) : IntsIs w' v n P := by
  obtain ⟨a, cap, h1, h2, h3, h4⟩ := h
  refine ⟨a, cap, h1, h2, h3, fun h0 => ?_⟩
  obtain ⟨b, off, h5, h6, h7⟩ := h4 h0
  exact ⟨b, off, h5, by rw [e]; exact h6, fun i hi => (World.cell?_of_block (a := ⟨b, off + i, none⟩) (by rw [e])).trans (h7 i hi)⟩
/-- room for k numbers -/
def RoomN (W : World) (g k : Nat) : Prop := ∀ o, o < k → (∃ v, W.cell? ⟨g, o, none⟩ = some v) ∧ W.frozen? ⟨g, o, none⟩ = false
theorem RoomN.setCell {W : World} {g k : Nat} (h : RoomN W g k) (a : Addr) (u : Value) : RoomN (W.setCell a u) g k := fun o ho => by
  obtain ⟨⟨v, hv⟩, hf⟩ := h o ho
  refine ⟨?_, by rw [World.frozen?_setCell]; exact hf⟩
  by_cases e : a = ⟨g, o, none⟩
  · subst e; exact ⟨u, set_same hv⟩
  · exact ⟨v, (set_other e).trans hv⟩
theorem RoomN.made (w : World) (Z : Array Value) (T : TypeId) (k : Nat) (hz : Z.size = k * 1) : RoomN (w.alloc (.cells Z T)) w.heap.size k := fun o ho => by
  have ho' : o < Z.size := by omega
  refine ⟨⟨Z[o], ?_⟩, ?_⟩
  · simp [ho']
  · simp
theorem make_ints (k : Nat) (hk : k * 16 ≤ 140737488351232) : ∃ Z : Array Value, Z.size = k * 1 ∧ ∀ W : World, (Instr.makeSlice 34 (.int .i64 (k : Int)) (.int .i64 (k : Int))).run Tryz.prog W = .ok (.slice (some ⟨W.heap.size, 0, none⟩) k k) (W.alloc (.cells Z 3)) := by
  obtain ⟨i0, hi0, hz0, hz1, hz2⟩ := info_parts infoInt
  refine ⟨madeCells (Value.cells (.int .i64 0)) (k * i0.size), ?_, fun W => ?_⟩
  · rw [size_madeCells, hz1]
  · have h := run_make (P := Tryz.prog) W 34 3 i0 _ Tryz.underlying34 hi0 hz0 .i64 .i64 k k (by omega) (Int.le_refl _) (by rw [hz2]; omega) (by omega)
    simp only [Int.toNat_natCast] at h
    exact h
set_option maxHeartbeats 12800000 in
theorem project_is (c q d l : Value) (n m kd ko : Nat) (C D O : Nat → ByteArray) (R : Nat → Row) (w : World) (hc : StrsIs w c n C) (hq : RowsIs w q m R) (hf : StrsFine n C) (hg : RowsFine m R) (hd : StrsIs w d kd D) (hfd : StrsFine kd D) (hl : StrsIs w l ko O) (hfl : StrsFine ko O) (hT : Tabs w) :
    Calls Tryz.prog 99 #[.agg #[c, q], d, l] w fun e w' => ∃ c1 q1, e = .returned (.tuple #[.agg #[c1, q1], .int .i64 (prF C n R m D kd O ko)]) ∧ FreshRel w w' c1 q1 (okN (prF C n R m D kd O ko) kd) (okN (prF C n R m D kd O ko) m) D (prR C n O ko R) ∧ Below w.heap.size w w' := by
  have HW : Hid (∀ {W : World} {o o' : Obj}, Below (w.heap.size + 2) ((w.alloc o).alloc o') W → Below w.heap.size w W) := fun h => (below_two _ _).trans (h.mono (by omega))
  have C1 : Hid (∀ o o', Calls Tryz.prog 93 #[.agg #[c, q]] ((w.alloc o).alloc o') fun e w' => e = .returned (.int .i64 (relF C n R m)) ∧ Below (w.heap.size + 2) ((w.alloc o).alloc o') w') := fun o o' => by
    have h := relCheck_is c q n m C R _ (hc.below (below_two o o')) (hq.below (below_two o o')) hf hg (Utf8Tabs_below hT (below_two o o'))
    rwa [show ((w.alloc o).alloc o').heap.size = w.heap.size + 2 by simp] at h
  have CO : Hid (∀ W s, Below w.heap.size w W → Calls Tryz.prog 122 #[c, .string s] W fun e w' => e = .returned (.tuple #[.int .i64 (colV C n s), .int .i64 (colF C n s)]) ∧ w' = W) := fun W s hW => column_is c n C s W (hc.below hW)
  have CM : Hid (∀ W, Below w.heap.size w W → m ≤ maxLen → Calls Tryz.prog 119 #[d, .int .i64 (m : Int)] W fun e w' => e = .returned (.int .i64 (madeF D kd m)) ∧ w' = W) := fun W hW hl => checkMade_is d kd m D W (hd.below hW) hfd.2 hl
  have CW : Hid (∀ W, Below w.heap.size w W → m ≤ 4000000 → Calls Tryz.prog 133 #[.int .i64 (m : Int), .slice (some ⟨W.heap.size, 0, none⟩) 1 1] (W.alloc (.cells #[d] 35)) fun e w' => ∃ c' q', e = .returned (.agg #[c', q']) ∧ StrsKept w' (W.heap.size + 1) w'.heap.size q'.ownBlock c' kd D ∧ RowsOwn w' (W.heap.size + 1) q' 0 (prR C n O ko R) ∧ (∃ a1 k1, c' = .slice a1 kd k1) ∧ (∃ a2 k2, q' = .slice a2 0 k2) ∧ Below (W.heap.size + 1) (W.alloc (.cells #[d] 35)) w') := fun W hW hl => by
    have h := withRoom_one m W.heap.size 0 1 d kd D (W.alloc (.cells #[d] 35)) hl (Nat.le_refl _) (by unfold maxLen; omega) (by simp) (by simp) ((hd.below hW).below ((Below.refl _ _).alloc (Nat.le_refl _) _)) hfd.1 (prR C n O ko R)
    rwa [show (W.alloc (.cells #[d] 35)).heap.size = W.heap.size + 1 by simp] at h
  obtain ⟨Z, hZ, hmk⟩ := make_ints ko hfl.1
  have HK : Hid (ko * 16 ≤ 140737488351232) := hfl.1
  obtain ⟨qa, qcap, rfl, q1, q2, _, q3⟩ := hq
  have hmm : m ≤ 9223372036854775807 := by unfold maxLen at q2; omega
  have HQ : Hid (∀ W i, Below w.heap.size w W → i < m → ∃ b off u, qa = some ⟨b, off, none⟩ ∧ b < w.heap.size ∧ W.cell? ⟨b, off + i, none⟩ = some u ∧ ItsIs W u (R i).len (R i).at_) := fun W i hW hi => by
    obtain ⟨b, off, h1, h2, h3⟩ := q3 (by omega)
    obtain ⟨u, h4, h5⟩ := h3 i hi
    exact ⟨b, off, u, h1, h2, (hW.cell (p := ⟨b, off + i, none⟩) h2).trans h4, h5.below hW⟩
  obtain ⟨ca, ccap, rfl, _⟩ := hc
  obtain ⟨da, dcap, rfl, d1, d2, _, d3⟩ := hd
  obtain ⟨la, lcap, rfl, l1, l2, _, l3⟩ := hl
  have hkd : kd ≤ 9223372036854775807 := by unfold maxLen at d2; omega
  have hkk : ko ≤ 9223372036854775807 := by unfold maxLen at l2; omega
  have HL : Hid (∀ W i, Below w.heap.size w W → i < ko → ∃ b off, la = some ⟨b, off, none⟩ ∧ b < w.heap.size ∧ W.cell? ⟨b, off + i, none⟩ = some (.string (O i))) := fun W i hW hi => by
    obtain ⟨b, off, e1, e2, e3⟩ := l3 (by omega)
    exact ⟨b, off, e1, e2, (hW.cell (p := ⟨b, off + i, none⟩) e2).trans (e3 i hi)⟩
  clear hf hg hT hfd hfl q2 q3 d2 d3 l2 l3
  by_cases h0 : relF C n R m = 0
  · obtain ⟨k3, k4, k5⟩ := relF_zero h0
    have HLEN : Hid (∀ i, i < m → (R i).len = n) := fun i hi => by
      have h := k5 i hi
      unfold rowE at h
      by_cases e : (R i).len = n
      · exact e
      · rw [if_neg e] at h; exact absurd h (by decide)
    have HUF : Hid (prF C n R m D kd O ko = if kd = ko ∧ foundB C n O ko = true then madeF D kd m else 9) := if_pos h0
    have hml : m ≤ maxLen := by unfold maxLen; omega
    have hm4 : m ≤ 4000000 := by omega
    rw [h0] at C1
    clear h0 k3 k5
    generalize prF C n R m D kd O ko = F at *
    by_cases hln : kd = ko
    · subst hln
      have hne : ((kd : Int) != (kd : Int)) = false := by simp
      go_enter Tryz.func99, Tryz.ntmps99
      go_wp2_with (first | (go_at_call 93; refine (C1.out _ _).mono ?_; rintro e w1 ⟨rfl, hb1⟩; have HB1 : Hid (Below (w.heap.size + 2) ((w.alloc (.cells #[.slice ca n ccap, .slice qa m qcap] 40)).alloc (.cells #[.slice none 0 0, .slice none 0 0] 40)) w1) := hb1; obtain ⟨x0, x1, x2, x3, x4, x5, x6⟩ := box2r hb1; clear hb1))
      clear hmk
      have hx6 : w.heap.size + 1 < w1.heap.size := x6
      have HZ : Hid (RoomN (w1.alloc (.cells Z 3)) w1.heap.size kd) := RoomN.made w1 Z 3 kd hZ
      go_loopw [35] (fun i wr => ∃ j : Nat, j ≤ kd ∧ i = .int .i64 j ∧ RoomN wr w1.heap.size kd ∧ (∀ i, i < j → wr.cell? ⟨w1.heap.size, i, none⟩ = some (.int .i64 (prP C n O i : Int))) ∧ (∀ i, i < j → ¬ colI C n (O i) = -1) ∧ Below w1.heap.size w1 wr ∧ w1.heap.size < wr.heap.size) (fun i _ => kd - (intOf i).toNat)
      case atStart => exact ⟨0, Nat.zero_le _, rfl, HZ.out, fun i hi => by omega, fun i hi => by omega, (Below.refl _ _).alloc (Nat.le_refl _) _, by simp⟩
      case round =>
        obtain ⟨j, hj, rfl, hroom, hints, hfd, hbr, hsz⟩ := hrel
        have HROOM : Hid (RoomN wr w1.heap.size kd) := hroom
        have HINTS : Hid (∀ i, i < j → wr.cell? ⟨w1.heap.size, i, none⟩ = some (.int .i64 (prP C n O i : Int))) := hints
        have HFO : Hid (∀ i, i < j → ¬ colI C n (O i) = -1) := hfd
        have HBR : Hid (Below w1.heap.size w1 wr) := hbr
        have HB2 : Hid (Below (w.heap.size + 2) ((w.alloc (.cells #[.slice ca n ccap, .slice qa m qcap] 40)).alloc (.cells #[.slice none 0 0, .slice none 0 0] 40)) wr) := HB1.out.trans (hbr.mono (by omega))
        clear hroom hints hfd hbr x0 x1 x2 x3 x4 x5 x6
        obtain ⟨x0, x1, x2, x3, x4, x5, x6⟩ := box2r HB2.out
        by_cases hlt : j < kd
        · obtain ⟨b, off, rfl, hb0, e0⟩ := HL.out wr j (HW.out HB2.out) hlt
          have hji : (j : Int) < (kd : Int) := by omega
          have hbz : b < wr.heap.size := by omega
          by_cases hm1 : colI C n (O j) = -1
          · have HFF : Hid (F = 9) := HUF.out.trans (if_neg (fun h => by have := (found_yes h.2 j hlt).1; omega))
            have CJ : Hid (Calls Tryz.prog 122 #[.slice ca n ccap, .string (O j)] wr fun e w' => e = .returned (.tuple #[.int .i64 0, .int .i64 9]) ∧ w' = wr) := by
              have h := CO.out wr (O j) (HW.out HB2.out)
              rwa [(colF_no hm1).1, (colF_no hm1).2] at h
            clear hm1
            go_wp2_with (first | (go_at_call 122; refine CJ.out.mono ?_; rintro e w4 ⟨rfl, rfl⟩))
            refine bodyPost_ret (v := .tuple #[.agg #[.slice none 0 0, .slice none 0 0], .int .i64 9]) (by simp [results, Tryz.results99, go_sem, x2, x3]) rfl ⟨_, _, by rw [HFF.out], ?_, (((HW.out HB2.out)).setCell (by simp <;> omega) _).setCell (by simp <;> omega) _⟩
            rw [HFF.out]; exact FreshRel.nil _ _ _ _
          · have CJ : Hid (Calls Tryz.prog 122 #[.slice ca n ccap, .string (O j)] wr fun e w' => e = .returned (.tuple #[.int .i64 (prP C n O j : Int), .int .i64 0]) ∧ w' = wr) := by
              have h := CO.out wr (O j) (HW.out HB2.out)
              rwa [(colF_of (found_at hm1).1).1, (colF_of (found_at hm1).1).2] at h
            have HM1 : Hid (¬ colI C n (O j) = -1) := hm1
            obtain ⟨⟨v0, r0⟩, f0⟩ := HROOM.out j hlt
            have HJ : Hid ((wr.setCell ⟨w1.heap.size, j, none⟩ (.int .i64 (prP C n O j : Int))).cell? ⟨w1.heap.size, j, none⟩ = some (.int .i64 (prP C n O j : Int))) := set_same r0
            have HP : Hid (∀ i, i < j + 1 → (wr.setCell ⟨w1.heap.size, j, none⟩ (.int .i64 (prP C n O j : Int))).cell? ⟨w1.heap.size, i, none⟩ = some (.int .i64 (prP C n O i : Int))) := fun i hi => by
              by_cases e : i = j
              · rw [e]; exact HJ.out
              · rw [set_other (by simp <;> omega)]; exact HINTS.out i (by omega)
            clear hm1
            generalize prP C n O j = p at *
            go_wp2_with (first | (go_at_call 122; refine CJ.out.mono ?_; rintro e w4 ⟨rfl, rfl⟩))
            go_roundw
            case rel => exact ⟨j + 1, by omega, by go_num, HROOM.out.setCell _ _, HP.out, fun i hi => by
              by_cases e : i = j
              · rw [e]; exact HM1.out
              · exact HFO.out i (by omega), HBR.out.setCell (Nat.le_refl _) _, by simpa using hsz⟩
            case measure => simp [intOf]; omega
        · have e : j = kd := by omega
          subst e
          have HFF : Hid (F = madeF D j m) := HUF.out.trans (if_pos ⟨by first | trivial | rfl, found_all HFO.out⟩)
          have HPN : Hid (∀ i, i < j → prP C n O i < n) := fun i hi => (found_at (HFO.out i hi)).2
          have HIS : Hid (IntsIs wr (.slice (some ⟨w1.heap.size, 0, none⟩) j j) j (prP C n O)) := ⟨_, _, rfl, Nat.le_refl _, by have := HK.out; unfold maxLen; omega, fun _ => ⟨_, _, rfl, hsz, fun i hi => by rw [Nat.zero_add]; exact HINTS.out i hi⟩⟩
          clear HUF HFO HINTS HROOM HZ HK HL
          by_cases hF0 : madeF D j m = 0
          · have HF0 : Hid (F = 0) := HFF.out.trans hF0
            have hj8 : j ≤ 8 := made_le hF0
            rw [hF0] at CM
            clear hF0 HFF
            go_wp2_with (first |
              (go_at_call 119; refine (CM.out _ (HW.out HB2.out) hml).mono ?_; rintro e w3 ⟨rfl, rfl⟩) |
              (go_at_call 133; refine (CW.out _ (HW.out HB2.out) hm4).mono ?_; rintro e w5 ⟨c5, q5, rfl, hs5, hr5, ⟨ca5, cc5, rfl⟩, ⟨qa5, qc5, rfl⟩, hb5⟩; have HS5 : Hid (StrsKept w5 (w3.heap.size + 1) w5.heap.size (Value.slice qa5 0 qc5).ownBlock (.slice ca5 j cc5) j D) := hs5; have HR5 : Hid (RowsOwn w5 (w3.heap.size + 1) (.slice qa5 0 qc5) 0 (prR C n O j R)) := hr5; have HB53 : Hid (Below w3.heap.size w3 w5) := ((Below.refl _ _).alloc (Nat.le_refl _) _).trans (hb5.mono (Nat.le_succ _)); have HB5 : Hid (Below (w.heap.size + 2) ((w.alloc (.cells #[.slice ca n ccap, .slice qa m qcap] 40)).alloc (.cells #[.slice none 0 0, .slice none 0 0] 40)) w5) := HB2.out.trans (HB53.out.mono (by omega)); have hz5 : w3.heap.size + 1 ≤ w5.heap.size := (by have := hb5.size; simpa using this); clear x0 x1 x2 x3 x4 x5; obtain ⟨x0, x1, x2, x3, x4, x5, x7⟩ := box2r HB5.out; have x10 : w.heap.size < w5.heap.size := (by omega); have x11 : w.heap.size + 1 < w5.heap.size := (by omega); clear hs5 hr5 hb5))
            have HR0 : Hid (RowsTwo (w5.alloc (.cells #[.slice ca5 j cc5, .slice qa5 0 qc5] 40)) (w3.heap.size + 1) w5.heap.size (.slice qa5 0 qc5) 0 (prR C n O j R)) := (RowsTwo.start HR5.out (Nat.le_refl _)).alloc hz5 _
            have HK0 : Hid (StrsKept (w5.alloc (.cells #[.slice ca5 j cc5, .slice qa5 0 qc5] 40)) (w3.heap.size + 1) w5.heap.size (Value.slice qa5 0 qc5).ownBlock (.slice ca5 j cc5) j D) := HS5.out.below ((Below.refl _ _).alloc (Nat.le_refl _) _)
            go_loopw [74] (fun i wr => ∃ (k : Nat) (rv : Value), k ≤ m ∧ i = .int .i64 k ∧ wr.cell? ⟨w5.heap.size, 0, none⟩ = some (.slice ca5 j cc5) ∧ wr.cell? ⟨w5.heap.size, 1, none⟩ = some rv ∧ wr.frozen? ⟨w5.heap.size, 1, none⟩ = false ∧ RowsTwo wr (w3.heap.size + 1) w5.heap.size rv k (prR C n O j R) ∧ StrsKept wr (w3.heap.size + 1) w5.heap.size rv.ownBlock (.slice ca5 j cc5) j D ∧ Below w3.heap.size w3 wr ∧ w5.heap.size < wr.heap.size) (fun i _ => m - (intOf i).toNat)
            case atStart => exact ⟨0, .slice qa5 0 qc5, by omega, rfl, by simp, by simp, by simp, HR0.out, HK0.out, HB53.out.alloc (by omega) _, by simp⟩
            case round =>
              obtain ⟨k, rv, hk, rfl, t0, t1, tf, hrow, hkept, hbr, hTz⟩ := hrel
              clear x0 x1 x2 x3 x4 x5 x7
              have HB4 : Hid (Below (w.heap.size + 2) ((w.alloc (.cells #[.slice ca n ccap, .slice qa m qcap] 40)).alloc (.cells #[.slice none 0 0, .slice none 0 0] 40)) wr) := HB2.out.trans (hbr.mono (by omega))
              obtain ⟨x0, x1, x2, x3, x4, x5, x7⟩ := box2r HB4.out
              obtain ⟨ra, rc, rfl⟩ := hrow.shape
              have HROW : Hid (RowsTwo wr (w3.heap.size + 1) w5.heap.size (.slice ra k rc) k (prR C n O j R)) := hrow
              have HKEPT : Hid (StrsKept wr (w3.heap.size + 1) w5.heap.size (Value.slice ra k rc).ownBlock (.slice ca5 j cc5) j D) := hkept
              have HB3 : Hid (Below w3.heap.size w3 wr) := hbr
              clear hrow hkept hbr
              by_cases hkm : k < m
              · obtain ⟨b, off, u, rfl, hb0, e1, hu⟩ := HQ.out wr k (HW.out HB4.out) hkm
                have hbz : b < wr.heap.size := by omega
                have hki : (k : Int) < (m : Int) := by omega
                rw [HLEN.out k hkm] at hu
                have HU : Hid (ItsIs wr u n (R k).at_) := hu
                obtain ⟨ua, ucap, rfl, _⟩ := HU.out
                clear hu
                go_upto_region 22 with fail
                go_region_law (first
                  | (refine step_call rfl 134 #[.slice ua n ucap, .slice (some ⟨w1.heap.size, 0, none⟩) j j] (by simp [go_sem]) (fun v w' => ItsApart w' _ none v j (fun i => (R k).at_ (prP C n O i)) ∧ (∃ a' c', v = .slice a' j c') ∧ Below _ _ w') (itemsAt_is (.slice ua n ucap) (.slice (some ⟨w1.heap.size, 0, none⟩) j j) n j (R k).at_ (prP C n O) _ (by exact HU.out.heap rfl) (by exact (HIS.out.below HB3.out).heap rfl) HPN.out (by omega)) ?_; rintro v6 w6 ⟨hi6, ⟨va6, vc6, rfl⟩, hb6⟩; obtain ⟨y1, y2, y3⟩ := made_facts (wr := wr) hi6 hb6 (below_heap (Below.refl _ _) rfl rfl rfl rfl) HROW.out hz5 hTz; have HI6 : Hid (ItsApart w6 (w5.heap.size + 1) (Value.slice ra k rc).ownBlock (.slice va6 j vc6) (prR C n O j R k).len (prR C n O j R k).at_) := y1; have HB6 : Hid (Below wr.heap.size wr w6) := y2; have HR6 : Hid (RowsTwo w6 (w3.heap.size + 1) w5.heap.size (.slice ra k rc) k (prR C n O j R)) := y3; have y4 : w5.heap.size < w6.heap.size := Nat.lt_of_lt_of_le hTz y2.size; have y5 : w6.cell? ⟨w5.heap.size, 1, none⟩ = some (.slice ra k rc) := (y2.cell (p := ⟨w5.heap.size, 1, none⟩) hTz).trans t1; clear hi6 hb6 y1 y2 y3)
                  | (refine step_push_two rfl (.tmp 79) (.tmp 83) rfl (w3.heap.size + 1) w5.heap.size k (.slice ra k rc) (prR C n O j R) (by simp [Act.eval]) (by exact (HR6.out.alloc hz5 _).heap rfl hz5) hz5 (by simp; omega) ⟨w6.heap.size, 0, none⟩ 1 (.slice va6 j vc6) (by simp [Act.eval]) (by simp) (by exact (HI6.out.alloc _).heap rfl) (by omega) ?_; intro v7 w7 hr7 hsh7 hg7 hat7; obtain ⟨va7, vc7, rfl⟩ := hsh7; have hal := alloc_below (w6 := w6) hg7 rfl rfl rfl rfl; obtain ⟨z1, z2, z3⟩ := put_facts (wr := w6) hg7 hal HR6.out hz5 y4; have HR7 : Hid (RowsTwo w7 (w3.heap.size + 1) w5.heap.size (.slice va7 (k + 1) vc7) (k + 1) (prR C n O j R)) := hr7; have HK7 : Hid (StrsKept w7 (w3.heap.size + 1) w5.heap.size (Value.slice va7 (k + 1) vc7).ownBlock (.slice ca5 j cc5) j D) := kept_push (HKEPT.out.below HB6.out) hg7 hat7 hal; have HB7 : Hid (Below w3.heap.size w3 w7) := (HB3.out.trans (HB6.out.mono (by omega))).trans (z3.mono (by omega)); have s0 : w7.cell? ⟨w5.heap.size, 0, none⟩ = some (.slice ca5 j cc5) := (World.cell?_of_block (a := ⟨w5.heap.size, 0, none⟩) z1).trans ((HB6.out.cell (p := ⟨w5.heap.size, 0, none⟩) hTz).trans t0); have s1 : w7.cell? ⟨w5.heap.size, 1, none⟩ = some (.slice ra k rc) := (World.cell?_of_block (a := ⟨w5.heap.size, 1, none⟩) z1).trans y5; have sf : w7.frozen? ⟨w5.heap.size, 1, none⟩ = false := (World.frozen?_of_block (a := ⟨w5.heap.size, 1, none⟩) z1).trans ((HB6.out.frozen (p := ⟨w5.heap.size, 1, none⟩) hTz).trans tf); have hz7 : w5.heap.size < w7.heap.size := Nat.lt_of_lt_of_le y4 z2; clear hr7 hg7 hat7 hal z1 z2 z3))
                all_goals
                  go_wp2_with fail
                  go_roundw
                  case rel => exact ⟨k + 1, .slice va7 (k + 1) vc7, by omega, by go_num, by simp [go_sem, s0], by simp [go_sem, s1], by simp [go_sem, sf], HR7.out.setCell hz5 (.inl rfl) _, HK7.out.setCell (.inl rfl) _, HB7.out.setCell (by simp; omega) _, by simp; omega⟩
                  case measure => simp [intOf]; omega
              · have e : k = m := by omega
                subst e
                go_wp2
                refine bodyPost_ret (v := .tuple #[.agg #[.slice ca5 j cc5, .slice ra k rc], .int .i64 0]) (by simp [results, Tryz.results99, go_sem, x2, x3]) rfl ⟨_, _, by rw [HF0.out], ?_, (((HW.out HB4.out)).setCell (by simp <;> omega) _).setCell (by simp <;> omega) _⟩
                rw [HF0.out]; exact FreshRel.of ((HKEPT.out.setCell (.inr (by simp; omega)) _).setCell (.inr (by simp; omega)) _) ((HROW.out.setCell hz5 (.inr (by simp; omega)) _).setCell hz5 (.inr (by simp; omega)) _) (by omega) hz5
          · have HNZ : Hid (¬ madeF D j m = 0) := hF0
            have h1 : (madeF D j m != 0) = true := by simpa using hF0
            clear hF0
            generalize madeF D j m = M at *
            go_wp2_with (first |
              (go_at_call 119; refine (CM.out _ (HW.out HB2.out) hml).mono ?_; rintro e w3 ⟨rfl, rfl⟩))
            refine bodyPost_ret (v := .tuple #[.agg #[.slice none 0 0, .slice none 0 0], .int .i64 M]) (by simp [results, Tryz.results99, go_sem, x2, x3]) rfl ⟨_, _, by rw [HFF.out], ?_, (((HW.out HB2.out)).setCell (by simp <;> omega) _).setCell (by simp <;> omega) _⟩
            rw [HFF.out, show okN M j = 0 from if_neg HNZ.out, show okN M m = 0 from if_neg HNZ.out]; exact FreshRel.nil _ _ _ _
    · have HFF : Hid (F = 9) := HUF.out.trans (if_neg (fun h => hln h.1))
      have hne : ((kd : Int) != (ko : Int)) = true := bne_iff_ne.2 (by omega)
      clear HUF hln hmk
      go_enter Tryz.func99, Tryz.ntmps99
      go_wp2_with (first | (go_at_call 93; refine (C1.out _ _).mono ?_; rintro e w1 ⟨rfl, hb1⟩; have HB1 : Hid (Below (w.heap.size + 2) _ w1) := hb1; obtain ⟨x0, x1, x2, x3, x4, x5, x6⟩ := box2r hb1; clear hb1))
      refine bodyPost_ret (v := .tuple #[.agg #[.slice none 0 0, .slice none 0 0], .int .i64 9]) (by simp [results, Tryz.results99, go_sem, x2, x3]) rfl ⟨_, _, by rw [HFF.out], ?_, (((HW.out HB1.out)).setCell (by simp <;> omega) _).setCell (by simp <;> omega) _⟩
      rw [HFF.out]; exact FreshRel.nil _ _ _ _
  · have HFF : Hid (prF C n R m D kd O ko = relF C n R m) := if_neg h0
    have HNZ : Hid (¬ relF C n R m = 0) := h0
    have h1 : (relF C n R m != 0) = true := by simpa using h0
    clear h0 hmk
    generalize prF C n R m D kd O ko = F at *
    generalize relF C n R m = G at *
    go_enter Tryz.func99, Tryz.ntmps99
    go_wp2_with (first | (go_at_call 93; refine (C1.out _ _).mono ?_; rintro e w1 ⟨rfl, hb1⟩; have HB1 : Hid (Below (w.heap.size + 2) _ w1) := hb1; obtain ⟨x0, x1, x2, x3, x4, x5, x6⟩ := box2r hb1; clear hb1))
    refine bodyPost_ret (v := .tuple #[.agg #[.slice none 0 0, .slice none 0 0], .int .i64 G]) (by simp [results, Tryz.results99, go_sem, x2, x3]) rfl ⟨_, _, by rw [HFF.out], ?_, (((HW.out HB1.out)).setCell (by simp <;> omega) _).setCell (by simp <;> omega) _⟩
    rw [HFF.out, show okN G kd = 0 from if_neg HNZ.out, show okN G m = 0 from if_neg HNZ.out]; exact FreshRel.nil _ _ _ _
end Go.Proofs.YtkcejelmohameaaGreatDoor
