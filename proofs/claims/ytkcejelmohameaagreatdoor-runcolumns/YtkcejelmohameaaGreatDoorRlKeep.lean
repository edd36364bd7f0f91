/-
  CONTRACT of rel.keep, for whatever function value tells what is kept.
-/
import Derived.Test.YtkcejelmohameaaGreatDoorRlCMap
set_option linter.unusedVariables false
namespace Go.Proofs.YtkcejelmohameaaGreatDoor
set_option maxRecDepth 100000
open Go.RowKit Go.WideShapes

set_option maxHeartbeats 3200000 in
theorem keep_gen (f : FuncId) (caps : Array Value) (Inv : Nat → World → Prop) (K : Nat → Bool) (c q : Value) (n m : Nat) (C : Nat → ByteArray) (R : Nat → Row) (w : World)
    (hinv : Inv 0 w) (hI : ∀ k W W', w.heap.size ≤ W.heap.size → Inv k W → Below w.heap.size W W' → Inv k W') (hc : StrsIs w c n C) (hn : n * 16 ≤ 140737488351232)
    (hsh : ∃ a x, q = .slice a m x) (hR : ∀ k W, Inv k W → RowsIs W q m R) (hm : m ≤ 1000000) (hL : ∀ i, i < m → (R i).len * 32 ≤ 140737488351232)
    (hrun : ∀ (args : Array Value) (W : World), Sem.run Tryz.prog (callFunc f args) W = .ok (.enter f args) W)
    (hcall : ∀ k W u, k < m → w.heap.size ≤ W.heap.size → Inv k W → ItsIs W u (R k).len (R k).at_ → Calls Tryz.prog f (#[u] ++ caps) W fun e w' => e = .returned (.bool (K k)) ∧ Inv (k + 1) w' ∧ Upper w.heap.size W w' ∧ ItsIs w' u (R k).len (R k).at_) :
    Calls Tryz.prog 135 #[.agg #[c, q], .func (.func f) #[] caps] w fun e w' => ∃ c1 q1, e = .returned (.agg #[c1, q1]) ∧ FreshRel w w' c1 q1 n (keptN K m) C (keptR K m R) ∧ Inv m w' := by
  have CW : Hid (∀ W, Below w.heap.size w W → Calls Tryz.prog 133 #[.int .i64 0, .slice (some ⟨W.heap.size, 0, none⟩) 1 1] (W.alloc (.cells #[c] 35)) fun e w' => ∃ c' q', e = .returned (.agg #[c', q']) ∧ StrsKept w' (W.heap.size + 1) w'.heap.size q'.ownBlock c' n C ∧ RowsOwn w' (W.heap.size + 1) q' 0 (keptR K m R) ∧ (∃ a1 k1, c' = .slice a1 n k1) ∧ (∃ a2 k2, q' = .slice a2 0 k2) ∧ Below (W.heap.size + 1) (W.alloc (.cells #[c] 35)) w') := fun W hW => by
    have h := withRoom_one 0 W.heap.size 0 1 c n C (W.alloc (.cells #[c] 35)) (by omega) (Nat.le_refl _) (by unfold maxLen; omega) (by simp) (by simp) ((hc.below hW).below ((Below.refl _ _).alloc (Nat.le_refl _) _)) hn (keptR K m R)
    rwa [show (W.alloc (.cells #[c] 35)).heap.size = W.heap.size + 1 by simp] at h
  have HINV : Hid (∀ W, Below w.heap.size w W → Inv 0 W) := fun W hW => hI 0 w W (Nat.le_refl _) hinv hW
  have HI : Hid (∀ k W W', w.heap.size ≤ W.heap.size → Inv k W → Below w.heap.size W W' → Inv k W') := hI
  have HR : Hid (∀ k W, Inv k W → RowsIs W q m R) := hR
  have HL : Hid (∀ i, i < m → (R i).len * 32 ≤ 140737488351232) := hL
  have HCALL : Hid (∀ k W u, k < m → w.heap.size ≤ W.heap.size → Inv k W → ItsIs W u (R k).len (R k).at_ → Calls Tryz.prog f (#[u] ++ caps) W fun e w' => e = .returned (.bool (K k)) ∧ Inv (k + 1) w' ∧ Upper w.heap.size W w' ∧ ItsIs w' u (R k).len (R k).at_) := hcall
  obtain ⟨ca, ccap, rfl, _⟩ := hc
  obtain ⟨qa, qcap, rfl⟩ := hsh
  clear hinv hI hR hL hcall hn
  have CV : Hid (Calls Tryz.prog 133 #[.int .i64 0, .slice (some ⟨w.heap.size + 1 + 1, 0, none⟩) 1 1] (((w.alloc (.cells #[.slice ca n ccap, .slice qa m qcap] 40)).alloc (.cells #[.slice none 0 0, .slice none 0 0] 40)).alloc (.cells #[.slice ca n ccap] 35)) fun e w' => ∃ c' q', e = .returned (.agg #[c', q']) ∧ StrsKept w' (w.heap.size + 1 + 1 + 1) w'.heap.size q'.ownBlock c' n C ∧ RowsOwn w' (w.heap.size + 1 + 1 + 1) q' 0 (keptR K m R) ∧ (∃ a1 k1, c' = .slice a1 n k1) ∧ (∃ a2 k2, q' = .slice a2 0 k2) ∧ Below (w.heap.size + 1 + 1 + 1) (((w.alloc (.cells #[.slice ca n ccap, .slice qa m qcap] 40)).alloc (.cells #[.slice none 0 0, .slice none 0 0] 40)).alloc (.cells #[.slice ca n ccap] 35)) w') := by
    have h := CW.out ((w.alloc (.cells #[.slice ca n ccap, .slice qa m qcap] 40)).alloc (.cells #[.slice none 0 0, .slice none 0 0] 40)) (below_two _ _)
    rw [show ((w.alloc (.cells #[.slice ca n ccap, .slice qa m qcap] 40)).alloc (.cells #[.slice none 0 0, .slice none 0 0] 40)).heap.size = w.heap.size + 1 + 1 by simp] at h
    exact h
  clear CW
  go_enter Tryz.func135, Tryz.ntmps135
  go_wp2_with (first | (go_at_call 133; refine CV.out.mono ?_; rintro e w5 ⟨c5, q5, rfl, hs5, hr5, ⟨ca5, cc5, rfl⟩, ⟨qa5, qc5, rfl⟩, hb5⟩; have HS5 : Hid (StrsKept w5 (w.heap.size + 3) w5.heap.size (Value.slice qa5 0 qc5).ownBlock (.slice ca5 n cc5) n C) := hs5; have HR5 : Hid (RowsOwn w5 (w.heap.size + 3) (.slice qa5 0 qc5) 0 (keptR K m R)) := hr5; have hbb : Below (w.heap.size + 2) ((w.alloc (.cells #[.slice ca n ccap, .slice qa m qcap] 40)).alloc (.cells #[.slice none 0 0, .slice none 0 0] 40)) w5 := ((Below.refl _ _).alloc (by simp) _).trans (hb5.mono (Nat.le_succ _)); have HB5 : Hid (Below (w.heap.size + 2) ((w.alloc (.cells #[.slice ca n ccap, .slice qa m qcap] 40)).alloc (.cells #[.slice none 0 0, .slice none 0 0] 40)) w5) := hbb; have hz5 : w.heap.size + 3 ≤ w5.heap.size := (by have := hb5.size; simpa using this); obtain ⟨x0, x1, x2, x3, x4, x5, x6⟩ := box2r hbb; have x7 : w.heap.size < w5.heap.size := Nat.lt_of_succ_lt x6; clear hs5 hr5 hb5 hbb))
  have HR0 : Hid (RowsTwo (w5.alloc (.cells #[.slice ca5 n cc5, .slice qa5 0 qc5] 40)) (w.heap.size + 3) w5.heap.size (.slice qa5 0 qc5) 0 (keptR K m R)) := (RowsTwo.start HR5.out (Nat.le_refl _)).alloc hz5 _
  have HK0 : Hid (StrsKept (w5.alloc (.cells #[.slice ca5 n cc5, .slice qa5 0 qc5] 40)) (w.heap.size + 3) w5.heap.size (Value.slice qa5 0 qc5).ownBlock (.slice ca5 n cc5) n C) := HS5.out.below ((Below.refl _ _).alloc (Nat.le_refl _) _)
  have HI0 : Hid (Inv 0 (w5.alloc (.cells #[.slice ca5 n cc5, .slice qa5 0 qc5] 40))) := HINV.out _ (((below_two _ _).trans (HB5.out.mono (by omega))).alloc (by omega) _)
  go_loopw [15] (fun i wr => ∃ (k : Nat) (rv : Value), k ≤ m ∧ i = .int .i64 k ∧ wr.cell? ⟨w5.heap.size, 0, none⟩ = some (.slice ca5 n cc5) ∧ wr.cell? ⟨w5.heap.size, 1, none⟩ = some rv ∧ wr.frozen? ⟨w5.heap.size, 1, none⟩ = false ∧ wr.cell? ⟨w.heap.size + 1, 0, none⟩ = some (.slice none 0 0) ∧ wr.cell? ⟨w.heap.size + 1, 1, none⟩ = some (.slice none 0 0) ∧ wr.frozen? ⟨w.heap.size + 1, 0, none⟩ = false ∧ wr.frozen? ⟨w.heap.size + 1, 1, none⟩ = false ∧ RowsTwo wr (w.heap.size + 3) w5.heap.size rv (keptN K k) (keptR K m R) ∧ StrsKept wr (w.heap.size + 3) w5.heap.size rv.ownBlock (.slice ca5 n cc5) n C ∧ Inv k wr ∧ w5.heap.size < wr.heap.size) (fun i _ => m - (intOf i).toNat)
  case atStart => exact ⟨0, .slice qa5 0 qc5, Nat.zero_le _, rfl, by simp, by simp, by simp, (((Below.refl w5.heap.size w5).alloc (Nat.le_refl _) _).cell (p := ⟨w.heap.size + 1, 0, none⟩) x6).trans x2, (((Below.refl w5.heap.size w5).alloc (Nat.le_refl _) _).cell (p := ⟨w.heap.size + 1, 1, none⟩) x6).trans x3, (((Below.refl w5.heap.size w5).alloc (Nat.le_refl _) _).frozen (p := ⟨w.heap.size + 1, 0, none⟩) x6).trans x4, (((Below.refl w5.heap.size w5).alloc (Nat.le_refl _) _).frozen (p := ⟨w.heap.size + 1, 1, none⟩) x6).trans x5, HR0.out, HK0.out, HI0.out, by simp⟩
  case round =>
    clear x0 x1 x2 x3 x4 x5 x6 x7
    obtain ⟨k, rv, hk, rfl, t0, t1, tf, x2, x3, x4, x5, hrow, hkept, hin, hTz⟩ := hrel
    obtain ⟨ra, rc, rfl⟩ := hrow.shape
    have HROW : Hid (RowsTwo wr (w.heap.size + 3) w5.heap.size (.slice ra (keptN K k) rc) (keptN K k) (keptR K m R)) := hrow
    have HKEPT : Hid (StrsKept wr (w.heap.size + 3) w5.heap.size (Value.slice ra (keptN K k) rc).ownBlock (.slice ca5 n cc5) n C) := hkept
    have HIN : Hid (Inv k wr) := hin
    clear hrow hkept hin
    by_cases hkm : k < m
    · obtain ⟨a', cap', e', _, _, _, q3⟩ := HR.out k wr HIN.out
      cases e'
      obtain ⟨b, off, rfl, hb0, q4⟩ := q3 (by omega)
      obtain ⟨u, e1, hu⟩ := q4 k hkm
      have HU : Hid (ItsIs wr u (R k).len (R k).at_) := hu
      have hki : (k : Int) < (m : Int) := by omega
      have hkc : keptN K k ≤ k := keptN_le K k
      clear q3 q4 hu
      obtain ⟨ua, ucap, rfl, _⟩ := HU.out
      have hu32 : (R k).len * 32 ≤ 140737488351232 := HL.out k hkm
      have CJ : Hid (Calls Tryz.prog f (#[.slice ua (R k).len ucap] ++ caps) wr fun e w' => e = .returned (.bool (K k)) ∧ Inv (k + 1) w' ∧ Upper w.heap.size wr w' ∧ ItsIs w' (.slice ua (R k).len ucap) (R k).len (R k).at_) := HCALL.out k wr _ hkm (by omega) HIN.out HU.out
      cases hK : K k
      · have HKK : Hid (K k = false) := hK
        rw [hK] at CJ
        go_wp2_with fail
        refine CJ.out.mono ?_
        rintro e w6 ⟨rfl, hi6, hu6, _⟩
        have HI6 : Hid (Inv (k + 1) w6) := hi6
        have HU6 : Hid (Upper w.heap.size wr w6) := hu6
        clear hi6 hu6
        go_wp2_with fail
        go_roundw
        case rel => exact ⟨k + 1, .slice ra (keptN K k) rc, by omega, by go_num, (HU6.out.cell (p := ⟨w5.heap.size, 0, none⟩) (by show w.heap.size ≤ w5.heap.size; omega) hTz).trans t0, (HU6.out.cell (p := ⟨w5.heap.size, 1, none⟩) (by show w.heap.size ≤ w5.heap.size; omega) hTz).trans t1, (HU6.out.frozen (p := ⟨w5.heap.size, 1, none⟩) (by show w.heap.size ≤ w5.heap.size; omega) hTz).trans tf, (HU6.out.cell (p := ⟨w.heap.size + 1, 0, none⟩) (Nat.le_succ _) (by show w.heap.size + 1 < wr.heap.size; omega)).trans x2, (HU6.out.cell (p := ⟨w.heap.size + 1, 1, none⟩) (Nat.le_succ _) (by show w.heap.size + 1 < wr.heap.size; omega)).trans x3, (HU6.out.frozen (p := ⟨w.heap.size + 1, 0, none⟩) (Nat.le_succ _) (by show w.heap.size + 1 < wr.heap.size; omega)).trans x4, (HU6.out.frozen (p := ⟨w.heap.size + 1, 1, none⟩) (Nat.le_succ _) (by show w.heap.size + 1 < wr.heap.size; omega)).trans x5, by rw [keptN_no HKK.out]; exact HROW.out.upper HU6.out (by omega) hz5, HKEPT.out.upper HU6.out (by omega), HI6.out, Nat.lt_of_lt_of_le hTz HU6.out.1⟩
        case measure => simp [intOf]; omega
      · have HKK : Hid (K k = true) := hK
        rw [hK] at CJ
        have HAT : Hid (keptR K m R (keptN K k) = R k) := keptR_at R hkm hK
        have HN1 : Hid (keptN K (k + 1) = keptN K k + 1) := keptN_yes hK
        generalize keptN K k = j at *
        go_wp2_with fail
        refine CJ.out.mono ?_
        rintro e w6 ⟨rfl, hi6, hu6, hit6⟩
        have HI6 : Hid (Inv (k + 1) w6) := hi6
        have HU6 : Hid (Upper w.heap.size wr w6) := hu6
        have HIT6 : Hid (ItsIs w6 (.slice ua (R k).len ucap) (R k).len (R k).at_) := hit6
        clear hi6 hu6 hit6
        go_upto_region 6 with fail
        have HR6 : Hid (RowsTwo w6 (w.heap.size + 3) w5.heap.size (.slice ra j rc) j (keptR K m R)) := HROW.out.upper HU6.out (by omega) hz5
        have HK6 : Hid (StrsKept w6 (w.heap.size + 3) w5.heap.size (Value.slice ra j rc).ownBlock (.slice ca5 n cc5) n C) := HKEPT.out.upper HU6.out (by omega)
        have y0 : w6.cell? ⟨w5.heap.size, 0, none⟩ = some (.slice ca5 n cc5) := (HU6.out.cell (p := ⟨w5.heap.size, 0, none⟩) (by show w.heap.size ≤ w5.heap.size; omega) hTz).trans t0
        have y1 : w6.cell? ⟨w5.heap.size, 1, none⟩ = some (.slice ra j rc) := (HU6.out.cell (p := ⟨w5.heap.size, 1, none⟩) (by show w.heap.size ≤ w5.heap.size; omega) hTz).trans t1
        have yf : w6.frozen? ⟨w5.heap.size, 1, none⟩ = false := (HU6.out.frozen (p := ⟨w5.heap.size, 1, none⟩) (by show w.heap.size ≤ w5.heap.size; omega) hTz).trans tf
        have yz : w5.heap.size < w6.heap.size := Nat.lt_of_lt_of_le hTz HU6.out.1
        have HX : Hid (w6.cell? ⟨w.heap.size + 1, 0, none⟩ = some (.slice none 0 0) ∧ w6.cell? ⟨w.heap.size + 1, 1, none⟩ = some (.slice none 0 0) ∧ w6.frozen? ⟨w.heap.size + 1, 0, none⟩ = false ∧ w6.frozen? ⟨w.heap.size + 1, 1, none⟩ = false) := ⟨(HU6.out.cell (p := ⟨w.heap.size + 1, 0, none⟩) (Nat.le_succ _) (by show w.heap.size + 1 < wr.heap.size; omega)).trans x2, (HU6.out.cell (p := ⟨w.heap.size + 1, 1, none⟩) (Nat.le_succ _) (by show w.heap.size + 1 < wr.heap.size; omega)).trans x3, (HU6.out.frozen (p := ⟨w.heap.size + 1, 0, none⟩) (Nat.le_succ _) (by show w.heap.size + 1 < wr.heap.size; omega)).trans x4, (HU6.out.frozen (p := ⟨w.heap.size + 1, 1, none⟩) (Nat.le_succ _) (by show w.heap.size + 1 < wr.heap.size; omega)).trans x5⟩
        clear CJ t0 t1 tf x2 x3 x4 x5 e1 hb0 HU
        go_region_law (first
          | (refine step_call rfl 142 #[.slice (some ⟨w6.heap.size, 0, none⟩) 1 1] (by simp [go_sem]) (fun v w' => ItsApart w' _ none v (R k).len (R k).at_ ∧ (∃ a' c', v = .slice a' (R k).len c') ∧ Below _ _ w') (concatI_one w6.heap.size 0 1 (.slice ua (R k).len ucap) _ _ _ (Nat.le_refl _) (by unfold maxLen; omega) (by simp) (by simp) (by exact (HIT6.out.alloc _).heap rfl) hu32) ?_; rintro v7 w7 ⟨hi7, ⟨va7, vc7, rfl⟩, hb7⟩; obtain ⟨k1, k2, k3⟩ := made_facts (wr := w6) hi7 hb7 (below_heap ((Below.refl _ _).alloc (Nat.le_refl _) _) rfl rfl rfl rfl) HR6.out hz5 yz; have HI7 : Hid (ItsApart w7 (w5.heap.size + 1) (Value.slice ra j rc).ownBlock (.slice va7 (R k).len vc7) (R k).len (R k).at_) := k1; have HB7 : Hid (Below w6.heap.size w6 w7) := k2; have HR7 : Hid (RowsTwo w7 (w.heap.size + 3) w5.heap.size (.slice ra j rc) j (keptR K m R)) := k3; have k4 : w5.heap.size < w7.heap.size := Nat.lt_of_lt_of_le yz k2.size; have k5 : w7.cell? ⟨w5.heap.size, 1, none⟩ = some (.slice ra j rc) := (k2.cell (p := ⟨w5.heap.size, 1, none⟩) yz).trans y1; clear hi7 hb7 k1 k2 k3)
          | (refine step_push_two rfl (.tmp 23) (.tmp 27) rfl (w.heap.size + 3) w5.heap.size j (.slice ra j rc) (keptR K m R) (by simp [Act.eval]) (by exact (HR7.out.alloc hz5 _).heap rfl hz5) hz5 (by simp; omega) ⟨w7.heap.size, 0, none⟩ 1 (.slice va7 (R k).len vc7) (by simp [Act.eval]) (by simp) (by rw [HAT.out]; exact (HI7.out.alloc _).heap rfl) (by omega) ?_; intro v8 w8 hr8 hsh8 hg8 hat8; obtain ⟨va8, vc8, rfl⟩ := hsh8; have hal := alloc_below (w6 := w7) hg8 rfl rfl rfl rfl; obtain ⟨z1, z2, z3⟩ := put_facts (wr := w7) hg8 hal HR7.out hz5 k4; have HR8 : Hid (RowsTwo w8 (w.heap.size + 3) w5.heap.size (.slice va8 (j + 1) vc8) (j + 1) (keptR K m R)) := hr8; have HK8 : Hid (StrsKept w8 (w.heap.size + 3) w5.heap.size (Value.slice va8 (j + 1) vc8).ownBlock (.slice ca5 n cc5) n C) := kept_push (HK6.out.below HB7.out) hg8 hat8 hal; have HB8 : Hid (Below (w.heap.size + 3) w6 w8) := (HB7.out.mono (by omega)).trans z3; have s0 : w8.cell? ⟨w5.heap.size, 0, none⟩ = some (.slice ca5 n cc5) := (World.cell?_of_block (a := ⟨w5.heap.size, 0, none⟩) z1).trans ((HB7.out.cell (p := ⟨w5.heap.size, 0, none⟩) yz).trans y0); have s1 : w8.cell? ⟨w5.heap.size, 1, none⟩ = some (.slice ra j rc) := (World.cell?_of_block (a := ⟨w5.heap.size, 1, none⟩) z1).trans k5; have sf : w8.frozen? ⟨w5.heap.size, 1, none⟩ = false := (World.frozen?_of_block (a := ⟨w5.heap.size, 1, none⟩) z1).trans ((HB7.out.frozen (p := ⟨w5.heap.size, 1, none⟩) yz).trans yf); have hz8 : w5.heap.size < w8.heap.size := Nat.lt_of_lt_of_le k4 z2; clear hr8 hg8 hat8 hal z1 z2 z3))
        all_goals
          go_wp2_with fail
          have HZ : Hid (∀ v, Below (w.heap.size + 3) w6 (w8.setCell ⟨w5.heap.size, 1, none⟩ v)) := fun v => HB8.out.setCell (by simp; omega) _
          go_roundw
          case rel => exact ⟨k + 1, .slice va8 (j + 1) vc8, by omega, by go_num, by simp [go_sem, s0], by simp [go_sem, s1], by simp [go_sem, sf], ((HZ.out _).cell (p := ⟨w.heap.size + 1, 0, none⟩) (by simp)).trans HX.out.1, ((HZ.out _).cell (p := ⟨w.heap.size + 1, 1, none⟩) (by simp)).trans HX.out.2.1, ((HZ.out _).frozen (p := ⟨w.heap.size + 1, 0, none⟩) (by simp)).trans HX.out.2.2.1, ((HZ.out _).frozen (p := ⟨w.heap.size + 1, 1, none⟩) (by simp)).trans HX.out.2.2.2, by rw [HN1.out]; exact HR8.out.setCell hz5 (.inl rfl) _, HK8.out.setCell (.inl rfl) _, HI.out (k + 1) w6 _ (by omega) HI6.out ((HZ.out _).mono (by omega)), by simp; omega⟩
          case measure => simp [intOf]; omega
    · have e : k = m := by omega
      subst e
      go_wp2
      refine bodyPost_ret (v := .agg #[.slice ca5 n cc5, .slice ra (keptN K k) rc]) (by simp [results, Tryz.results135, go_sem, x2, x3]) rfl ⟨_, _, rfl, ?_, HI.out k wr _ (by omega) HIN.out (((Below.refl _ _).setCell (by simp) _).setCell (by simp) _)⟩
      exact FreshRel.of ((HKEPT.out.setCell (.inr (by simp)) _).setCell (.inr (by simp)) _) ((HROW.out.setCell hz5 (.inr (by simp)) _).setCell hz5 (.inr (by simp)) _) (by omega) hz5
end Go.Proofs.YtkcejelmohameaaGreatDoor
