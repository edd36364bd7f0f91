/-
  CONTRACT of the document's answer RankedOf with a part, where the relation and the columns may be.
-/
import Derived.Test.YtlblomlblibbdaaDoorRkOf
set_option linter.unusedVariables false
namespace Go.Proofs.YtlblomlblibbdaaDoor
set_option maxRecDepth 100000
open Go.RowKit Go.WideShapes

set_option maxHeartbeats 12800000 in
theorem ranked_part (c q l : Value) (name : ByteArray) (n m ko : Nat) (C O : Nat → ByteArray) (R : Nat → Row) (w : World) (hc : StrsIs w c n C) (hq : RowsIs w q m R) (hf : StrsFine n C) (hg : RowsFine m R) (hl : StrsIs w l ko O) (hfl : StrsFine ko O) (hko : ko * 32 ≤ 140737488351232) (hT : Tabs w) (h0 : relF C n R m = 0) (hfo : foundB C n O ko = true) (hnm : name.size ≤ maxLen) (part : ByteArray) (hpe : part.toList.isEmpty = false) (cc0 : Nat) (hcol : colI C n part = (cc0 : Int)) (hcc : cc0 < n) :
    Calls Tryd.prog 6 #[.agg #[c, q], .string name, l, .string part] w fun e w' => ∃ c1 q1, e = .returned (.tuple #[.agg #[c1, q1], .int .i64 (madeF (colsR C n name).at_ (n + 1) m)]) ∧ StrsIs w' c1 (okN (madeF (colsR C n name).at_ (n + 1) m) (n + 1)) (colsR C n name).at_ ∧ RowsIs w' q1 (okN (madeF (colsR C n name).at_ (n + 1) m) m) (rkR R (rkF (fun i t => (R i).at_ (prP C n O t)) ko (fun i => (R i).at_ cc0) m)) ∧ Below w.heap.size w w' := by
  have HW : Hid (∀ {W : World} {o o' : Obj}, Below (w.heap.size + 2) ((w.alloc o).alloc o') W → Below w.heap.size w W) := fun h => (below_two _ _).trans (h.mono (by omega))
  have C1 : Hid (∀ o o', Calls Tryd.prog 19 #[.agg #[c, q]] ((w.alloc o).alloc o') fun e w' => e = .returned (.int .i64 0) ∧ Below (w.heap.size + 2) ((w.alloc o).alloc o') w') := fun o o' => by
    have h := relFault_is c q n m C R _ (hc.below (below_two o o')) (hq.below (below_two o o')) hf hg (Utf8Tabs_below hT (below_two o o'))
    rw [h0] at h
    rwa [show ((w.alloc o).alloc o').heap.size = w.heap.size + 2 by simp] at h
  have hqs : ∃ a x, q = .slice a m x := by obtain ⟨a, x, e, _⟩ := hq; exact ⟨a, x, e⟩
  have CC : Hid (∀ W, Below w.heap.size w W → Calls Tryd.prog 20 #[.agg #[c, q], l] W fun e w' => ∃ v, e = .returned (.tuple #[v, .bool true]) ∧ IntsIs w' v ko (prP C n O) ∧ (∃ a' c', v = .slice a' ko c') ∧ Below W.heap.size W w') := fun W hW => colsAt_yes c q l n m ko C O (prP C n O) W (hc.below hW) hqs (hl.below hW) (fun i hi => (found_yes hfo i hi).1) hfl.1
  have CL : Hid (∀ W, Below w.heap.size w W → Calls Tryd.prog 21 #[.agg #[c, q], .string part] W fun e w' => e = .returned (.int .i64 (cc0 : Int)) ∧ Below W.heap.size W w') := fun W hW => by
    have h := colAt_is c q n m C R part W (hc.below hW) hqs
    rwa [hcol] at h
  have HPN : Hid (∀ i, i < ko → prP C n O i < n) := fun i hi => (found_yes hfo i hi).2
  have hm6 : m ≤ 1000000 := (relF_zero h0).2.1
  have hn8 : n ≤ 8 := colsF_le (relF_zero h0).1
  have HLEN : Hid (∀ i, i < m → (R i).len = n) := row_len h0
  have HCS : Hid (∀ W, Below w.heap.size w W → StrsIs W c n C) := fun W hW => hc.below hW
  have HFR : Hid (StrsFine (n + 1) (colsR C n name).at_) := colsR_fine C n name hf hn8 hnm
  obtain ⟨qa, qcap, rfl, _, _, _, q3⟩ := hq
  have HQ : Hid (∀ W i, Below w.heap.size w W → i < m → ∃ b off u, qa = some ⟨b, off, none⟩ ∧ b < w.heap.size ∧ W.cell? ⟨b, off + i, none⟩ = some u ∧ ItsIs W u n (R i).at_) := fun W i hW hi => by
    obtain ⟨b, off, e1, e2, e3⟩ := q3 (by omega)
    obtain ⟨u, e4, e5⟩ := e3 i hi
    rw [HLEN.out i hi] at e5
    exact ⟨b, off, u, e1, e2, (hW.cell (p := ⟨b, off + i, none⟩) e2).trans e4, e5.below hW⟩
  obtain ⟨ca, ccap, rfl, _⟩ := hc
  obtain ⟨la, lcap, rfl, _⟩ := hl
  clear hf hg hT hfl q3 h0 hfo hcol hqs
  obtain ⟨F, hF⟩ : ∃ F, F = madeF (colsR C n name).at_ (n + 1) m := ⟨_, rfl⟩
  have HFF : Hid (F = madeF (colsR C n name).at_ (n + 1) m) := hF
  rw [← hF]
  clear hF
  generalize prP C n O = P at *
  obtain ⟨Z, hZ⟩ : ∃ Z : Nat → Nat → It, Z = fun i t => (R i).at_ (P t) := ⟨_, rfl⟩
  obtain ⟨pz, hpz⟩ : ∃ pz : Nat → It, pz = (fun i => (R i).at_ cc0) := ⟨_, rfl⟩
  rw [← hZ, ← hpz]
  have HPZ : Hid (∀ i, pz i = (fun i => (R i).at_ cc0) i) := fun i => by rw [hpz]
  have HZ : Hid (∀ i, Z i = fun t => (R i).at_ (P t)) := fun i => by rw [hZ]
  obtain ⟨U, hU⟩ : ∃ U, U = rkR R (rkF Z ko pz m) := ⟨_, rfl⟩
  have HUU : Hid (∀ j, U j = appI (R j) ⟨1, fun _ => ⟨2, (rkF Z ko pz m j : Int), ⟨#[]⟩⟩⟩) := fun j => by rw [hU]; rfl
  rw [← hU]
  clear hZ hpz hU
  have hp0 : ¬ ((cc0 : Int) < 0) := by omega
  have hp1 : (0 : Int) ≤ (cc0 : Int) := by omega
  have hpi : (cc0 : Int) < (n : Int) := by omega
  go_enter Tryd.func6, Tryd.ntmps6
  go_wp2_with (first
    | (go_at_call 19; refine (C1.out _ _).mono ?_; rintro e w1 ⟨rfl, hb1⟩; have HB1 : Hid (Below (w.heap.size + 2) ((w.alloc (.cells #[.slice ca n ccap, .slice qa m qcap] 25)).alloc (.cells #[.slice none 0 0, .slice none 0 0] 25)) w1) := hb1; obtain ⟨x0, x1, x2, x3, x4, x5, x6⟩ := box2r hb1; have x7 : w.heap.size < w1.heap.size := Nat.lt_of_succ_lt x6; clear hb1)
    | (go_at_call 20; refine (CC.out _ (HW.out HB1.out)).mono ?_; rintro e w2 ⟨v2, rfl, hi2, hsh2, hb2⟩; obtain ⟨pa, pc, rfl⟩ := hsh2; have HI2 : Hid (IntsIs w2 (.slice pa ko pc) ko P) := hi2; have HB2 : Hid (Below (w.heap.size + 2) ((w.alloc (.cells #[.slice ca n ccap, .slice qa m qcap] 25)).alloc (.cells #[.slice none 0 0, .slice none 0 0] 25)) w2) := HB1.out.trans (hb2.mono (by omega)); clear x0 x1 x2 x3 x4 x5 x6 x7; obtain ⟨x0, x1, x2, x3, x4, x5, x6⟩ := box2r HB2.out; have x7 : w.heap.size < w2.heap.size := Nat.lt_of_succ_lt x6; clear hb2 hi2)
    | (go_at_call 21; refine (CL.out _ (HW.out HB2.out)).mono ?_; rintro e w3 ⟨rfl, hb3⟩; have HI3 : Hid (IntsIs w3 (.slice pa ko pc) ko P) := HI2.out.below hb3; have HB3 : Hid (Below (w.heap.size + 2) ((w.alloc (.cells #[.slice ca n ccap, .slice qa m qcap] 25)).alloc (.cells #[.slice none 0 0, .slice none 0 0] 25)) w3) := HB2.out.trans (hb3.mono (by omega)); clear x0 x1 x2 x3 x4 x5 x6 x7; obtain ⟨x0, x1, x2, x3, x4, x5, x6⟩ := box2r HB3.out; have x7 : w.heap.size < w3.heap.size := Nat.lt_of_succ_lt x6; clear hb3))
  have hx6 : w.heap.size + 1 < w3.heap.size := x6
  clear C1 CC CL HB1 HB2 HI2
  go_loopw [14, 15] (fun v i wr => ∃ j : Nat, j ≤ m ∧ i = .int .i64 j ∧ RowsOwn wr w3.heap.size v j U ∧ Below w3.heap.size w3 wr) (fun _ i _ => m - (intOf i).toNat)
  case atStart => exact ⟨0, Nat.zero_le _, rfl, RowsOwn.nil _ _ _, Below.refl _ _⟩
  case round =>
    obtain ⟨j, hj, rfl, hrow, hbr⟩ := hrel
    have HB4 : Hid (Below (w.heap.size + 2) ((w.alloc (.cells #[.slice ca n ccap, .slice qa m qcap] 25)).alloc (.cells #[.slice none 0 0, .slice none 0 0] 25)) wr) := HB3.out.trans (hbr.mono (by omega))
    have HBR : Hid (Below w3.heap.size w3 wr) := hbr
    have hzr : w3.heap.size ≤ wr.heap.size := hbr.size
    clear x0 x1 x2 x3 x4 x5 x6 x7
    obtain ⟨x0, x1, x2, x3, x4, x5, x6⟩ := box2r HB4.out
    have x7 : w.heap.size < wr.heap.size := Nat.lt_of_succ_lt x6
    obtain ⟨ra, rc, rfl⟩ := hrow.shape
    have HROW : Hid (RowsOwn wr w3.heap.size (.slice ra j rc) j U) := hrow
    clear hrow hbr
    by_cases hjl : j < m
    · have hji : (j : Int) < (m : Int) := by omega
      obtain ⟨W0, hW0⟩ : ∃ W, W = wr := ⟨_, rfl⟩
      subst hW0
      have HX : Hid (∀ W, Chain W0 W → W.cell? ⟨w.heap.size, 1, none⟩ = some (.slice qa m qcap) ∧ w.heap.size < W.heap.size ∧ Below w.heap.size w W) := fun W h => ⟨(Below.cell h (p := ⟨w.heap.size, 1, none⟩) x7).trans x1, Nat.lt_of_lt_of_le x7 (Below.size h), HW.out (HB4.out.trans (Below.mono h (by omega)))⟩
      have HJ : Hid (∀ W i, Chain W0 W → i < m → ∃ b off ua ucap, qa = some ⟨b, off, none⟩ ∧ b < W.heap.size ∧ W.cell? ⟨b, off + i, none⟩ = some (.slice ua n ucap) ∧ ItsIs W (.slice ua n ucap) n (R i).at_) := fun W i h hi => by
        obtain ⟨b, off, u, e1, e2, e3, e4⟩ := HQ.out W i (HX.out W h).2.2 hi
        have e5 := e4
        obtain ⟨ua, ucap, rfl, _⟩ := e4
        exact ⟨b, off, ua, ucap, e1, Nat.lt_trans e2 (HX.out W h).2.1, e3, e5⟩
      have CP : Hid (∀ W u i, Chain W0 W → i < m → ItsIs W u n (R i).at_ → Calls Tryd.prog 22 #[u, .slice pa ko pc] W fun e w' => ∃ a x, e = .returned (.slice a ko x) ∧ ItsIs w' (.slice a ko x) ko (Z i) ∧ Chain W w') := fun W u i h hi hu => (picks_is u (.slice pa ko pc) n ko (R i).at_ P W hu (HI3.out.below (HBR.out.trans (Below.mono h hzr))) HPN.out hko).mono (fun e w' ⟨v, h1, h2, ⟨a, x, h3⟩, h4⟩ => by subst h3; exact ⟨a, x, h1, by rw [HZ.out i]; exact h2.is, h4⟩)
      have hnn : n ≤ 9223372036854775807 := by omega
      go_wp2_with fail
      go_loopw [16, 17] (fun x i wr => ∃ k : Nat, k ≤ m ∧ i = .int .i64 k ∧ x = .int .i64 (rkC Z ko pz k j : Int) ∧ Chain W0 wr) (fun _ i _ => m - (intOf i).toNat)
      case atStart => exact ⟨0, Nat.zero_le _, rfl, rfl, Chain.refl _⟩
      case round =>
        clear x0 x1 x2 x3 x4 x5 x6 x7
        obtain ⟨k, hk, rfl, rfl, hch⟩ := hrel
        have HCH : Hid (Chain W0 wr) := hch
        obtain ⟨x1, x7, _⟩ := HX.out wr hch
        by_cases hkm : k < m
        · have hki : (k : Int) < (m : Int) := by omega
          obtain ⟨b, off, ua, ucap, rfl, hb, e1, hu⟩ := HJ.out wr j hch hjl
          obtain ⟨_, _, ua', ucap', e', _, e1', hu'⟩ := HJ.out wr k hch hkm
          cases e'
          have HU0 : Hid (ItsIs wr (.slice ua n ucap) n (R j).at_) := hu
          have HU0' : Hid (ItsIs wr (.slice ua' n ucap') n (R k).at_) := hu'
          obtain ⟨_, _, e', _, _, _, u3⟩ := hu
          cases e'
          obtain ⟨_, _, e', _, _, _, u3'⟩ := hu'
          cases e'
          obtain ⟨ub, uo, rfl, hub, u4⟩ := u3 (by omega)
          obtain ⟨ub', uo', rfl, hub', u4'⟩ := u3' (by omega)
          obtain ⟨a0, a1, a2⟩ := u4 cc0 hcc
          obtain ⟨b0, b1, b2⟩ := u4' cc0 hcc
          have hpj : (R j).at_ cc0 = pz j := (HPZ.out j).symm
          have hpk : (R k).at_ cc0 = pz k := (HPZ.out k).symm
          rw [hpj] at a0 a1 a2
          rw [hpk] at b0 b1 b2
          clear hpj hpk u3 u3' u4 u4' hch
          cases hs : itB (pz j) (pz k)
          · have HR1 : Hid (rkC Z ko pz (k + 1) j = rkC Z ko pz k j) := rkC_no1 (by rw [itB_comm]; exact hs)
            have hx := itB_no hs
            clear hs
            obtain ⟨xk, hxk⟩ : ∃ xk, xk = (pz j).kind := ⟨_, rfl⟩
            obtain ⟨xn, hxn⟩ : ∃ xn, xn = (pz j).n := ⟨_, rfl⟩
            obtain ⟨xs, hxs⟩ : ∃ xs, xs = (pz j).s := ⟨_, rfl⟩
            obtain ⟨yk, hyk⟩ : ∃ yk, yk = (pz k).kind := ⟨_, rfl⟩
            obtain ⟨yn, hyn⟩ : ∃ yn, yn = (pz k).n := ⟨_, rfl⟩
            obtain ⟨ys, hys⟩ : ∃ ys, ys = (pz k).s := ⟨_, rfl⟩
            rw [← hxk] at a0 hx
            rw [← hxn] at a1 hx
            rw [← hxs] at a2 hx
            rw [← hyk] at b0 hx
            rw [← hyn] at b1 hx
            rw [← hys] at b2 hx
            clear hxk hxn hxs hyk hyn hys
            rcases hx with h1 | ⟨h1, h2⟩ | ⟨h1, h2, h3⟩
            · have h1' : (xk == yk) = false := by simpa using h1
              clear h1
              go_wp2_with fail
              go_quiet (fail)
              go_wp2_with fail
              go_roundw
              case rel => exact ⟨k + 1, by omega, by go_num, by rw [HR1.out], below_drawn HCH.out _⟩
              case measure => simp [intOf]; omega
            · subst h1
              have h2' : (xn == yn) = false := by simpa using h2
              clear h2
              go_wp2_with fail
              go_quiet (fail)
              go_wp2_with fail
              go_roundw
              case rel => exact ⟨k + 1, by omega, by go_num, by rw [HR1.out], below_drawn HCH.out _⟩
              case measure => simp [intOf]; omega
            · subst h1
              subst h2
              go_wp2_with fail
              go_quiet (fail)
              go_wp2_with fail
              go_roundw
              case rel => exact ⟨k + 1, by omega, by go_num, by rw [HR1.out], below_drawn HCH.out _⟩
              case measure => simp [intOf]; omega
          · have HSP : Hid (itB (pz k) (pz j) = true) := by
              have h : itB (pz k) (pz j) = true := by rw [itB_comm]; exact hs
              exact h
            have hx := itB_iff.1 hs
            rw [← hx] at b0 b1 b2
            clear hs hx
            go_upto_region 16 with fail
            go_quiet (fail)
            obtain ⟨W9, hW9⟩ : ∃ W, W = wr.drewN nq := ⟨_, rfl⟩
            have hc9 : Chain wr W9 := by rw [hW9]; exact below_drawn (Chain.refl _) nq
            have HC : Hid (Chain W0 W9) := HCH.out.trans hc9
            rw [← hW9]
            clear hW9
            have HU : Hid (ItsIs W9 (.slice (some ⟨ub, uo, none⟩) n ucap) n (R j).at_) := HU0.out.below hc9
            have HU' : Hid (ItsIs W9 (.slice (some ⟨ub', uo', none⟩) n ucap') n (R k).at_) := HU0'.out.below hc9
            clear a0 a1 a2 b0 b1 b2
            have e2 := (Below.cell hc9 (p := ⟨b, off + j, none⟩) hb).trans e1
            have e2' := (Below.cell hc9 (p := ⟨b, off + k, none⟩) hb).trans e1'
            have hb9 := Nat.lt_of_lt_of_le hb (Below.size hc9)
            clear x1 x7 e1 e1' hb hc9
            obtain ⟨x1, x7, _⟩ := HX.out W9 HC.out
            have hkC := rkC_le Z ko pz k j
            have hwa : IntKind.i64.wrap ((rkC Z ko pz k j : Int) + 1) = (rkC Z ko pz k j : Int) + 1 := IntWalk.i64_in _ (by omega)
            by_cases hl1 : keyC (Z k) (Z j) ko < 0
            · have CL1 : Hid (∀ W a b, ItsIs W a ko (Z k) → ItsIs W b ko (Z j) → Calls Tryd.prog 23 #[a, b] W fun e w' => e = .returned (.bool true) ∧ Chain W w') := fun W a b h1 h2 => by
                have h := lessItems_is a b ko (Z k) (Z j) W h1 h2
                rwa [decide_eq_true hl1] at h
              have HR1 : Hid (rkC Z ko pz (k + 1) j = rkC Z ko pz k j + 1) := rkC_yes HSP.out ((ord_less Z ko k j).2 (.inl hl1))
              clear hl1
              go_wp2_with (first
                | (go_at_call_has 22 (Value.slice (some ⟨ub', uo', none⟩) n ucap'); refine (CP.out _ _ k (HC.out) hkm (HU'.out)).mono ?_; rintro e w5 ⟨va5, vc5, rfl, hi5, hb5⟩; have HI5 : Hid (ItsIs w5 (.slice va5 ko vc5) ko (Z k)) := hi5; have HB5 : Hid (Chain W9 w5) := hb5; have z1 := (Below.cell hb5 (p := ⟨w.heap.size, 1, none⟩) x7).trans x1; have z7 := Nat.lt_of_lt_of_le x7 (Below.size hb5); have z2 := (Below.cell hb5 (p := ⟨b, off + j, none⟩) hb9).trans e2; have z3 := Nat.lt_of_lt_of_le hb9 (Below.size hb5); clear hi5 hb5)
                | (go_at_call_has 22 (Value.slice (some ⟨ub, uo, none⟩) n ucap); refine (CP.out _ _ j (HC.out.trans HB5.out) hjl (HU.out.below HB5.out)).mono ?_; rintro e w6 ⟨va6, vc6, rfl, hi6, hb6⟩; have HI6 : Hid (ItsIs w6 (.slice va6 ko vc6) ko (Z j)) := hi6; have HI56 : Hid (ItsIs w6 (.slice va5 ko vc5) ko (Z k)) := HI5.out.below hb6; have HB6 : Hid (Chain W9 w6) := HB5.out.trans hb6; clear hi6 hb6)
                | (go_at_call_has 23 (Value.slice va5 ko vc5); refine (CL1.out _ _ _ HI56.out HI6.out).mono ?_; rintro e w7 ⟨rfl, hb7⟩; have HB7 : Hid (Chain W9 w7) := HB6.out.trans hb7; have HI57 : Hid (ItsIs w7 (.slice va5 ko vc5) ko (Z k)) := HI56.out.below hb7; have HI67 : Hid (ItsIs w7 (.slice va6 ko vc6) ko (Z j)) := HI6.out.below hb7; clear hb7 CL1))
              go_roundw
              case rel => exact ⟨k + 1, by omega, by go_num, by rw [HR1.out]; simp, HC.out.trans HB7.out⟩
              case measure => simp [intOf]; omega
            · have CL1 : Hid (∀ W a b, ItsIs W a ko (Z k) → ItsIs W b ko (Z j) → Calls Tryd.prog 23 #[a, b] W fun e w' => e = .returned (.bool false) ∧ Chain W w') := fun W a b h1 h2 => by
                have h := lessItems_is a b ko (Z k) (Z j) W h1 h2
                rwa [decide_eq_false hl1] at h
              by_cases hkj : k < j
              · have hkji : (k : Int) < (j : Int) := by omega
                by_cases hl2 : keyC (Z j) (Z k) ko < 0
                · have CL2 : Hid (∀ W a b, ItsIs W a ko (Z j) → ItsIs W b ko (Z k) → Calls Tryd.prog 23 #[a, b] W fun e w' => e = .returned (.bool true) ∧ Chain W w') := fun W a b h1 h2 => by
                    have h := lessItems_is a b ko (Z j) (Z k) W h1 h2
                    rwa [decide_eq_true hl2] at h
                  have HR1 : Hid (rkC Z ko pz (k + 1) j = rkC Z ko pz k j) := rkC_no2 (fun h => by rcases (ord_less Z ko k j).1 h with h | ⟨_, h⟩; exact hl1 h; exact h hl2)
                  clear hl1 hl2
                  go_wp2_with (first
                    | (go_at_call_has 22 (Value.slice (some ⟨ub', uo', none⟩) n ucap'); refine (CP.out _ _ k (HC.out) hkm (HU'.out)).mono ?_; rintro e w5 ⟨va5, vc5, rfl, hi5, hb5⟩; have HI5 : Hid (ItsIs w5 (.slice va5 ko vc5) ko (Z k)) := hi5; have HB5 : Hid (Chain W9 w5) := hb5; have z1 := (Below.cell hb5 (p := ⟨w.heap.size, 1, none⟩) x7).trans x1; have z7 := Nat.lt_of_lt_of_le x7 (Below.size hb5); have z2 := (Below.cell hb5 (p := ⟨b, off + j, none⟩) hb9).trans e2; have z3 := Nat.lt_of_lt_of_le hb9 (Below.size hb5); clear hi5 hb5)
                    | (go_at_call_has 22 (Value.slice (some ⟨ub, uo, none⟩) n ucap); refine (CP.out _ _ j (HC.out.trans HB5.out) hjl (HU.out.below HB5.out)).mono ?_; rintro e w6 ⟨va6, vc6, rfl, hi6, hb6⟩; have HI6 : Hid (ItsIs w6 (.slice va6 ko vc6) ko (Z j)) := hi6; have HI56 : Hid (ItsIs w6 (.slice va5 ko vc5) ko (Z k)) := HI5.out.below hb6; have HB6 : Hid (Chain W9 w6) := HB5.out.trans hb6; clear hi6 hb6)
                    | (go_at_call_has 23 (Value.slice va5 ko vc5); refine (CL1.out _ _ _ HI56.out HI6.out).mono ?_; rintro e w7 ⟨rfl, hb7⟩; have HB7 : Hid (Chain W9 w7) := HB6.out.trans hb7; have HI57 : Hid (ItsIs w7 (.slice va5 ko vc5) ko (Z k)) := HI56.out.below hb7; have HI67 : Hid (ItsIs w7 (.slice va6 ko vc6) ko (Z j)) := HI6.out.below hb7; clear hb7 CL1)
                    | (go_at_call 23; refine (CL2.out _ _ _ HI67.out HI57.out).mono ?_; rintro e w8 ⟨rfl, hb8⟩; have HB8 : Hid (Chain W9 w8) := HB7.out.trans hb8; clear hb8))
                  go_roundw
                  case rel => exact ⟨k + 1, by omega, by go_num, by rw [HR1.out], HC.out.trans HB8.out⟩
                  case measure => simp [intOf]; omega
                · have CL2 : Hid (∀ W a b, ItsIs W a ko (Z j) → ItsIs W b ko (Z k) → Calls Tryd.prog 23 #[a, b] W fun e w' => e = .returned (.bool false) ∧ Chain W w') := fun W a b h1 h2 => by
                    have h := lessItems_is a b ko (Z j) (Z k) W h1 h2
                    rwa [decide_eq_false hl2] at h
                  have HR1 : Hid (rkC Z ko pz (k + 1) j = rkC Z ko pz k j + 1) := rkC_yes HSP.out ((ord_less Z ko k j).2 (.inr ⟨hkj, hl2⟩))
                  clear hl1 hl2
                  go_wp2_with (first
                    | (go_at_call_has 22 (Value.slice (some ⟨ub', uo', none⟩) n ucap'); refine (CP.out _ _ k (HC.out) hkm (HU'.out)).mono ?_; rintro e w5 ⟨va5, vc5, rfl, hi5, hb5⟩; have HI5 : Hid (ItsIs w5 (.slice va5 ko vc5) ko (Z k)) := hi5; have HB5 : Hid (Chain W9 w5) := hb5; have z1 := (Below.cell hb5 (p := ⟨w.heap.size, 1, none⟩) x7).trans x1; have z7 := Nat.lt_of_lt_of_le x7 (Below.size hb5); have z2 := (Below.cell hb5 (p := ⟨b, off + j, none⟩) hb9).trans e2; have z3 := Nat.lt_of_lt_of_le hb9 (Below.size hb5); clear hi5 hb5)
                    | (go_at_call_has 22 (Value.slice (some ⟨ub, uo, none⟩) n ucap); refine (CP.out _ _ j (HC.out.trans HB5.out) hjl (HU.out.below HB5.out)).mono ?_; rintro e w6 ⟨va6, vc6, rfl, hi6, hb6⟩; have HI6 : Hid (ItsIs w6 (.slice va6 ko vc6) ko (Z j)) := hi6; have HI56 : Hid (ItsIs w6 (.slice va5 ko vc5) ko (Z k)) := HI5.out.below hb6; have HB6 : Hid (Chain W9 w6) := HB5.out.trans hb6; clear hi6 hb6)
                    | (go_at_call_has 23 (Value.slice va5 ko vc5); refine (CL1.out _ _ _ HI56.out HI6.out).mono ?_; rintro e w7 ⟨rfl, hb7⟩; have HB7 : Hid (Chain W9 w7) := HB6.out.trans hb7; have HI57 : Hid (ItsIs w7 (.slice va5 ko vc5) ko (Z k)) := HI56.out.below hb7; have HI67 : Hid (ItsIs w7 (.slice va6 ko vc6) ko (Z j)) := HI6.out.below hb7; clear hb7 CL1)
                    | (go_at_call 23; refine (CL2.out _ _ _ HI67.out HI57.out).mono ?_; rintro e w8 ⟨rfl, hb8⟩; have HB8 : Hid (Chain W9 w8) := HB7.out.trans hb8; clear hb8))
                  go_roundw
                  case rel => exact ⟨k + 1, by omega, by go_num, by rw [HR1.out]; simp, HC.out.trans HB8.out⟩
                  case measure => simp [intOf]; omega
              · have hkji : ¬ (k : Int) < (j : Int) := by omega
                have HR1 : Hid (rkC Z ko pz (k + 1) j = rkC Z ko pz k j) := rkC_no2 (fun h => by rcases (ord_less Z ko k j).1 h with h | ⟨h, _⟩; exact hl1 h; exact hkj h)
                clear hl1
                go_wp2_with (first
                  | (go_at_call_has 22 (Value.slice (some ⟨ub', uo', none⟩) n ucap'); refine (CP.out _ _ k (HC.out) hkm (HU'.out)).mono ?_; rintro e w5 ⟨va5, vc5, rfl, hi5, hb5⟩; have HI5 : Hid (ItsIs w5 (.slice va5 ko vc5) ko (Z k)) := hi5; have HB5 : Hid (Chain W9 w5) := hb5; have z1 := (Below.cell hb5 (p := ⟨w.heap.size, 1, none⟩) x7).trans x1; have z7 := Nat.lt_of_lt_of_le x7 (Below.size hb5); have z2 := (Below.cell hb5 (p := ⟨b, off + j, none⟩) hb9).trans e2; have z3 := Nat.lt_of_lt_of_le hb9 (Below.size hb5); clear hi5 hb5)
                  | (go_at_call_has 22 (Value.slice (some ⟨ub, uo, none⟩) n ucap); refine (CP.out _ _ j (HC.out.trans HB5.out) hjl (HU.out.below HB5.out)).mono ?_; rintro e w6 ⟨va6, vc6, rfl, hi6, hb6⟩; have HI6 : Hid (ItsIs w6 (.slice va6 ko vc6) ko (Z j)) := hi6; have HI56 : Hid (ItsIs w6 (.slice va5 ko vc5) ko (Z k)) := HI5.out.below hb6; have HB6 : Hid (Chain W9 w6) := HB5.out.trans hb6; clear hi6 hb6)
                  | (go_at_call_has 23 (Value.slice va5 ko vc5); refine (CL1.out _ _ _ HI56.out HI6.out).mono ?_; rintro e w7 ⟨rfl, hb7⟩; have HB7 : Hid (Chain W9 w7) := HB6.out.trans hb7; have HI57 : Hid (ItsIs w7 (.slice va5 ko vc5) ko (Z k)) := HI56.out.below hb7; have HI67 : Hid (ItsIs w7 (.slice va6 ko vc6) ko (Z j)) := HI6.out.below hb7; clear hb7 CL1))
                go_roundw
                case rel => exact ⟨k + 1, by omega, by go_num, by rw [HR1.out], HC.out.trans HB7.out⟩
                case measure => simp [intOf]; omega
        · have e : k = m := by omega
          subst e
          obtain ⟨b, off, ua, ucap, rfl, hb, e1, hu⟩ := HJ.out wr j hch hjl
          have hrl : rkF Z ko pz k j ≤ k + 1 := rkF_le Z ko pz k j
          have CI : Hid (Calls Tryd.prog 24 #[.slice (some ⟨wr.heap.size + 1, 0, none⟩) 2 2] ((wr.alloc (.cells #[.int .i64 2, .int .i64 (rkF Z ko pz k j : Int), .string ⟨#[]⟩] 38)).alloc (.cells #[.slice ua n ucap, .slice (some ⟨wr.heap.size, 0, none⟩) 1 1] 32)) fun e w' => ∃ a' c', e = .returned (.slice a' (U j).len c') ∧ ItsApart w' (wr.heap.size + 2) none (.slice a' (U j).len c') (U j).len (U j).at_ ∧ Chain wr w') := by
            have hlen := HLEN.out j hjl
            have hA : ItsIs ((wr.alloc (.cells #[.int .i64 2, .int .i64 (rkF Z ko pz k j : Int), .string ⟨#[]⟩] 38)).alloc (.cells #[.slice ua n ucap, .slice (some ⟨wr.heap.size, 0, none⟩) 1 1] 32)) (.slice ua n ucap) (R j).len (R j).at_ := by rw [hlen]; exact (hu.alloc _).alloc _
            have h := items_two (wr.heap.size + 1) 0 2 (.slice ua n ucap) (.slice (some ⟨wr.heap.size, 0, none⟩) 1 1) (R j) ⟨1, fun _ => ⟨2, (rkF Z ko pz k j : Int), ⟨#[]⟩⟩⟩ ((wr.alloc (.cells #[.int .i64 2, .int .i64 (rkF Z ko pz k j : Int), .string ⟨#[]⟩] 38)).alloc (.cells #[.slice ua n ucap, .slice (some ⟨wr.heap.size, 0, none⟩) 1 1] 32)) (Nat.le_refl _) (by unfold maxLen; omega) (by simp) (by simp) (by simp) hA ((it_lit 2 _ _ _ _ rfl).alloc _) (by show ((R j).len + 1) * 32 ≤ _; rw [hlen]; omega)
            rw [← HUU.out j] at h
            refine h.mono ?_
            rintro e w' ⟨v, rfl, h2, ⟨a', c', rfl⟩, h4⟩
            refine ⟨a', c', rfl, ?_, ((Chain.refl _).alloc _).trans (((Chain.refl _).alloc _).trans h4)⟩
            rwa [show ((wr.alloc (.cells #[.int .i64 2, .int .i64 (rkF Z ko pz k j : Int), .string ⟨#[]⟩] 38)).alloc (.cells #[.slice ua n ucap, .slice (some ⟨wr.heap.size, 0, none⟩) 1 1] 32)).heap.size = wr.heap.size + 2 by simp] at h2
          rw [rkC_all]
          clear hch hu
          generalize rkF Z ko pz k j = rr at *
          have hj24 : (j + 1) * 24 ≤ 140737488355328 := by omega
          have hz0 : W0.heap.size ≤ wr.heap.size := Below.size HCH.out
          go_wp2_with (first
            | (go_at_call 24; refine CI.out.mono ?_; rintro e w5 ⟨va5, vc5, rfl, hi5, hb5⟩; have HR5 : Hid (RowsOwn w5 w3.heap.size (.slice ra j rc) j U) := HROW.out.below (HCH.out.trans hb5); have HI5 : Hid (ItsApart w5 w3.heap.size (Value.slice ra j rc).ownBlock (.slice va5 (U j).len vc5) (U j).len (U j).at_) := hi5.weaken (by omega) (fun z hz => by have := (HROW.out.lt z hz).2; omega); have HB5 : Hid (Below w3.heap.size w3 w5) := HBR.out.trans (Below.mono (HCH.out.trans hb5) hzr); have hz5 : w3.heap.size ≤ w5.heap.size := HB5.out.size; clear hi5 hb5)
            | (at_builtin; refine wpList_push_row rfl (.tmp 125) (.tmp 127) rfl w3.heap.size j (.slice ra j rc) U rfl (HR5.out.alloc _) (by simp; omega) ⟨w5.heap.size, 0, none⟩ 1 (.slice va5 (U j).len vc5) rfl (by simp) (HI5.out.alloc _) hj24 ?_; intro v6 w6 hr6 hsh6 hg6; obtain ⟨va6, vc6, rfl⟩ := hsh6; have HR6 : Hid (RowsOwn w6 w3.heap.size (.slice va6 (j + 1) vc6) (j + 1) U) := hr6; have HB6 : Hid (Below w3.heap.size w3 w6) := (HB5.out.alloc (by omega) _).grown hg6 (by simp; omega) (fun z hz => (HR5.out.lt z hz).1); clear hr6 hg6))
          go_roundw
          case rel => exact ⟨j + 1, by omega, by go_num, HR6.out, HB6.out⟩
          case measure => simp [intOf]; omega
    · have e : j = m := by omega
      subst e
      have CT : Hid (Calls Tryd.prog 26 #[.slice (some ⟨wr.heap.size + 1, 0, none⟩) 2 2] ((wr.alloc (.cells #[.string name] 9)).alloc (.cells #[.slice ca n ccap, .slice (some ⟨wr.heap.size, 0, none⟩) 1 1] 22)) fun e w' => ∃ a' c', e = .returned (.slice a' (n + 1) c') ∧ StrsIs w' (.slice a' (n + 1) c') (n + 1) (colsR C n name).at_ ∧ Chain wr w') := by
        have h := texts_two (wr.heap.size + 1) 0 2 (.slice ca n ccap) (.slice (some ⟨wr.heap.size, 0, none⟩) 1 1) ⟨n, C⟩ (oneT name) ((wr.alloc (.cells #[.string name] 9)).alloc (.cells #[.slice ca n ccap, .slice (some ⟨wr.heap.size, 0, none⟩) 1 1] 22)) (Nat.le_refl _) (by unfold maxLen; omega) (by simp) (by simp) (by simp) ((HCS.out wr (HW.out HB4.out)).below (((Chain.refl _).alloc _).alloc _)) ((one_litb wr name 9 _ rfl).below ((Chain.refl _).alloc _)) (by show (n + 1) * 16 ≤ _; omega)
        refine h.mono ?_
        rintro e w' ⟨v, rfl, h2, ⟨a', c', rfl⟩, h4⟩
        exact ⟨a', c', rfl, h2.is, ((Chain.refl _).alloc _).trans (((Chain.refl _).alloc _).trans h4)⟩
      have CO : Hid (∀ W a x, Chain wr W → StrsIs W (.slice a (n + 1) x) (n + 1) (colsR C n name).at_ → Calls Tryd.prog 25 #[.slice a (n + 1) x, .slice ra j rc] W fun e w' => ∃ c' q', e = .returned (.tuple #[.agg #[c', q'], .int .i64 F]) ∧ StrsFrom w' wr.heap.size c' (okN F (n + 1)) (colsR C n name).at_ ∧ q' = keptV F (.slice ra j rc) ∧ Chain wr w') := fun W a x hW hs => by
        have h := relOf_is (.slice a (n + 1) x) (.slice ra j rc) (n + 1) j (colsR C n name).at_ U W hs (HROW.out.below hW).is HFR.out
        rw [← HFF.out] at h
        exact h.mono fun e w' ⟨c', q', h1, h2, h3, h4⟩ => ⟨c', q', h1, StrsFrom.weaken h2 (Below.size hW), h3, hW.trans h4⟩
      by_cases h0 : F = 0
      · have HF0 : Hid (F = 0) := h0
        rw [h0] at CO
        clear h0
        go_wp2_with (first
          | (go_at_call 26; refine CT.out.mono ?_; rintro e w4 ⟨da, dk, rfl, hs4, hb4⟩; have HS4 : Hid (StrsIs w4 (.slice da (n + 1) dk) (n + 1) (colsR C n name).at_) := hs4; have HN4 : Hid (Chain wr w4) := hb4; clear hs4 hb4)
          | (go_at_call 25; refine (CO.out _ _ _ HN4.out HS4.out).mono ?_; rintro e w5 ⟨c5, q5, rfl, hc5, hq5, hb5⟩; have hq6 : q5 = .slice ra j rc := hq5; subst hq6; have HC5 : Hid (StrsFrom w5 (w.heap.size + 2) c5 (n + 1) (colsR C n name).at_) := StrsFrom.weaken hc5 (by omega); have HR5 : Hid (RowsOwn w5 w3.heap.size (.slice ra j rc) j U) := HROW.out.below hb5; have HB5 : Hid (Below (w.heap.size + 2) ((w.alloc (.cells #[.slice ca n ccap, .slice qa j qcap] 25)).alloc (.cells #[.slice none 0 0, .slice none 0 0] 25)) w5) := HB4.out.trans (Below.mono hb5 (by omega)); clear x0 x1 x2 x3 x4 x5 x6 x7; obtain ⟨x0, x1, x2, x3, x4, x5, x6⟩ := box2r HB5.out; obtain ⟨ca5, cc5, rfl, _⟩ := hc5; clear hb5 hq5))
        refine bodyPost_ret (v := .tuple #[.agg #[.slice ca5 (okN 0 (n + 1)) cc5, .slice ra j rc], .int .i64 0]) (by simp [results, Tryd.results6, go_sem, x2, x3]) rfl ⟨_, _, by rw [HF0.out], ?_, ?_, ((HW.out HB5.out).setCell (by simp <;> omega) _).setCell (by simp <;> omega) _⟩
        · rw [HF0.out]; exact ((HC5.out.setCell (by simp) _).setCell (by simp) _).is
        · rw [HF0.out]; exact ((HR5.out.setCell (by simp <;> omega) _).setCell (by simp <;> omega) _).is
      · have HKV : Hid (∀ q, keptV F q = .slice none 0 0) := fun q => if_neg h0
        have HON : Hid (∀ z, okN F z = 0) := fun z => if_neg h0
        clear h0
        go_wp2_with (first
          | (go_at_call 26; refine CT.out.mono ?_; rintro e w4 ⟨da, dk, rfl, hs4, hb4⟩; have HS4 : Hid (StrsIs w4 (.slice da (n + 1) dk) (n + 1) (colsR C n name).at_) := hs4; have HN4 : Hid (Chain wr w4) := hb4; clear hs4 hb4)
          | (go_at_call 25; refine (CO.out _ _ _ HN4.out HS4.out).mono ?_; rintro e w5 ⟨c5, q5, rfl, hc5, hq5, hb5⟩; rw [HKV.out] at hq5; subst hq5; rw [HON.out] at hc5; have HC5 : Hid (StrsFrom w5 (w.heap.size + 2) c5 0 (colsR C n name).at_) := StrsFrom.weaken hc5 (by omega); have HB5 : Hid (Below (w.heap.size + 2) ((w.alloc (.cells #[.slice ca n ccap, .slice qa j qcap] 25)).alloc (.cells #[.slice none 0 0, .slice none 0 0] 25)) w5) := HB4.out.trans (Below.mono hb5 (by omega)); clear x0 x1 x2 x3 x4 x5 x6 x7; obtain ⟨x0, x1, x2, x3, x4, x5, x6⟩ := box2r HB5.out; obtain ⟨ca5, cc5, rfl, _⟩ := hc5; clear hb5))
        refine bodyPost_ret (v := .tuple #[.agg #[.slice ca5 0 cc5, .slice none 0 0], .int .i64 F]) (by simp [results, Tryd.results6, go_sem, x2, x3]) rfl ⟨_, _, rfl, ?_, ?_, ((HW.out HB5.out).setCell (by simp <;> omega) _).setCell (by simp <;> omega) _⟩
        · rw [HON.out]; exact ((HC5.out.setCell (by simp) _).setCell (by simp) _).is
        · rw [HON.out]; exact nil_rows _ _
end Go.Proofs.YtlblomlblibbdaaDoor
