/-
  THE LAW CutBack.
-/
import Derived.Test.YtbpggpnmbfjadaaDoorPkQry
import Derived.Test.YtbpggpnmbfjadaaDoorPkSpk
import Derived.Test.YtbpggpnmbfjadaaDoorPoEnd
import Derived.Test.YtbpggpnmbfjadaaDoorTkCheck
import Derived.BigQuiet
import Derived.Deep.QuietTactic
set_option linter.unusedVariables false
namespace Go.Proofs.YtbpggpnmbfjadaaDoor
set_option maxRecDepth 100000
open Go.RowKit

theorem below_drawnK {B : Nat} {a w : World} (h : Below B a w) (q : Nat) : Below B a (w.drewN q) := ⟨h.os, h.tape, h.output, h.size, h.block⟩
/-- where tokens lie -/
def ToksAt (w : World) (b : Nat) (L : List Tok) : Prop := ∀ k (hk : k < L.length), w.cell? ⟨b, k * 3, none⟩ = some (.int .i64 L[k].kind) ∧ w.cell? ⟨b, k * 3 + 1, none⟩ = some (.string L[k].s) ∧ w.cell? ⟨b, k * 3 + 2, none⟩ = some (.int .i64 L[k].n)
theorem ToksOwn.lies {w : World} {base : Nat} {v : Value} {L : List Tok} (h : ToksOwn w base v L) (h0 : 0 < L.length) : ∃ b c, v = .slice (some ⟨b, 0, none⟩) L.length c ∧ b < w.heap.size ∧ L.length ≤ c ∧ ToksAt w b L := by
  obtain ⟨b, c, rfl, h1, h2, _⟩ := h.at 0 h0
  refine ⟨b, c, rfl, h1, h2, fun k hk => ?_⟩
  obtain ⟨b', c', he, _, _, h3⟩ := h.at k hk
  simp only [Value.slice.injEq, Option.some.injEq, Addr.mk.injEq, true_and, and_true] at he
  obtain ⟨rfl, rfl⟩ := he
  exact h3
set_option maxHeartbeats 1600000 in
theorem equalT_walk (g1 c1 g2 c2 : Nat) (L : List Tok) (w : World) (h1 : ToksAt w g1 L) (h2 : ToksAt w g2 L) (hn : L.length ≤ 200) (hc1 : L.length ≤ c1) (hc2 : L.length ≤ c2) :
    Calls Tryd.prog 8 #[.slice (some ⟨g1, 0, none⟩) L.length c1, .slice (some ⟨g2, 0, none⟩) L.length c2] w fun e w' => e = .returned (.bool true) ∧ Below w.heap.size w w' := by
  have H1 : Hid (ToksAt w g1 L) := h1
  have H2 : Hid (ToksAt w g2 L) := h2
  clear h1 h2
  go_enter Tryd.func8, Tryd.ntmps8
  go_wp2
  go_loopw [13] (fun i wr => ∃ k q : Nat, k ≤ L.length ∧ i = .int .i64 k ∧ wr = w.drewN q) (fun i _ => L.length - (intOf i).toNat)
  case atStart => exact ⟨0, 0, Nat.zero_le _, rfl, rfl⟩
  case round =>
    obtain ⟨k, q, hk, rfl, rfl⟩ := hrel
    by_cases hlt : k < L.length
    · obtain ⟨a1, a2, a3⟩ := H1.out k hlt
      obtain ⟨b1, b2, b3⟩ := H2.out k hlt
      have hki : (k : Int) < (L.length : Int) := by omega
      generalize L[k].kind = xk at *
      generalize L[k].s = xn at *
      generalize L[k].n = xv at *
      go_upto_region 6 with fail
      go_quiet (fail)
      go_wp2
      go_roundw
      case rel => exact ⟨k + 1, q + nq, by omega, by go_num, by first | rfl | (simp [World.drewN_add]) | exact (World.drewN_add _ _ _).symm⟩
      case measure => simp [intOf]; omega
    · have e : ¬ (k : Int) < (L.length : Int) := by omega
      go_wp2
      go_ret
      exact ⟨rfl, below_drawnK (Below.refl _ _) q⟩
theorem ToksAt.below {w w' : World} {b : Nat} {L : List Tok} (h : ToksAt w b L) (hb : Below w.heap.size w w') (hlt : b < w.heap.size) : ToksAt w' b L := fun k hk => by
  obtain ⟨h1, h2, h3⟩ := h k hk
  exact ⟨(hb.cell (p := ⟨b, k * 3, none⟩) hlt).trans h1, (hb.cell (p := ⟨b, k * 3 + 1, none⟩) hlt).trans h2, (hb.cell (p := ⟨b, k * 3 + 2, none⟩) hlt).trans h3⟩
set_option maxHeartbeats 6400000 in
theorem lawCutBack {n1 n2 : Nat} (H2 : QueOk 2 n2) (H1 : QueOk 1 n1) (hn : n1 ≤ 1000000 ∧ n2 ≤ 1000000) (v : Value) (n : Nat) (X : Nat → Rw) (w : World) (hr : RawsIs w v n X) (hf : RawsFine n X) (hT : Tabs w) (hm : MaxL w) (hM : MarkTab w) (hg : 0 < w.heap.size) :
    Calls Tryd.prog 3 #[v] w fun e w' => e = .returned (.bool true) ∧ Below w.heap.size w w' := by
  have CQ : Hid (Calls Tryd.prog 4 #[v] w fun e w' => ∃ s, TextS s 190 ∧ e = .returned (.string s) ∧ Below w.heap.size w w') := query_text H2 H1 hn v n X w hr hf
  have CC : Hid (∀ W (s : ByteArray), Below w.heap.size w W → s.size ≤ maxLen → Calls Tryd.prog 5 #[.string s] W fun e w' => ∃ v, e = .returned (.tuple #[v, .int .i64 (cutP s.data.toList), .int .i64 (cutE s.data.toList)]) ∧ ToksOwn w' W.heap.size v (cutT s.data.toList) ∧ Below W.heap.size W w') := fun W s hW hs => cut_is s W hs (Utf8Tabs_below hT hW) (hm.below hW) (hM.below hW hg) (Nat.lt_of_lt_of_le hg hW.size)
  have CK : Hid (∀ W (t : Tok), Below w.heap.size w W → tokF t.kind t.s t.n = 0 → t.s.size ≤ maxLen → Calls Tryd.prog 6 #[.agg #[.int .i64 t.kind, .string t.s, .int .i64 t.n]] W fun e w' => e = .returned (.int .i64 0) ∧ Below W.heap.size W w') := fun W t hW ht hs => (checkToken_any t.kind t.n t.s W hs (Utf8Tabs_below hT hW) (hM.below hW hg) (Nat.lt_of_lt_of_le hg hW.size)).mono fun e w' ⟨k1, k2⟩ => ⟨by rw [k1, ht], k2⟩
  obtain ⟨a, cap, rfl, _, _, _⟩ := hr
  clear hf hT hm hM hg H2 H1
  go_enter Tryd.func3, Tryd.ntmps3
  go_upto_region 2 with (first
    | (go_at_call 4; refine CQ.out.mono ?_; rintro e w1 ⟨s, hs, rfl, hb1⟩; have HB1 : Hid (Below w.heap.size w w1) := hb1; have HS : Hid (TextS s 190) := hs; clear hs hb1))
  have hsl : s.data.toList.length = s.size := rfl
  have hs190 : s.size ≤ 190 := HS.out.2.2
  obtain ⟨hE, hTp⟩ := mid_end HS.out.1 (by omega) (by have := HS.out.2.1.1; omega) HS.out.2.1.2
  obtain ⟨hP, hgd, hsp⟩ := cut_spoken (q := s.data.toList) (by omega) hE
  have hTl : (cutT s.data.toList).length ≤ 200 := by
    obtain ⟨_, g2, _⟩ := cutGo_good s.data.toList (s.data.toList.length - 0) 0 0
    have h := g2 (by omega)
    unfold cutT
    rw [if_neg (by omega)]
    split
    · unfold cutAt; omega
    · simp
  have C1 : Hid (Calls Tryd.prog 5 #[.string s] w1 fun e w' => ∃ v, e = .returned (.tuple #[v, .int .i64 0, .int .i64 0]) ∧ ToksOwn w' w1.heap.size v (cutT s.data.toList) ∧ Below w1.heap.size w1 w') := (CC.out w1 s HB1.out (by unfold maxLen; omega)).mono fun e w' ⟨v, k1, k2, k3⟩ => ⟨v, by rw [k1, hP, hE]; rfl, k2, k3⟩
  generalize cutT s.data.toList = T at *
  clear hP hE CQ
  go_upto_region 3 with (first
    | (go_at_call 5; refine C1.out.mono ?_; rintro e w2 ⟨v2, rfl, ho2, hb2⟩; have HB2 : Hid (Below w.heap.size w w2) := HB1.out.trans (hb2.mono HB1.out.size); have HO2 : Hid (ToksOwn w2 w1.heap.size v2 T) := ho2; clear ho2 hb2 C1))
  obtain ⟨b, c, rfl, hb, hc, hat⟩ := HO2.out.lies hTp
  have HAT : Hid (ToksAt w2 b T) := hat
  clear hat
  have hT0 : (0 : Int) < (T.length : Int) := by omega
  have HGD : Hid (∀ k (hk : k < T.length), tokF T[k].kind T[k].s T[k].n = 0) := fun k hk => hgd _ (List.getElem_mem hk)
  obtain ⟨q2, hq2⟩ : ∃ q : ByteArray, q = ⟨(spoke T).toArray⟩ := ⟨_, rfl⟩
  have CS : Hid (∀ W, Below w2.heap.size w2 W → Calls Tryd.prog 7 #[.slice (some ⟨b, 0, none⟩) T.length c] W fun e w' => e = .returned (.string q2) ∧ Below W.heap.size W w') := fun W hW => by rw [hq2]; exact spoken_is _ T w1.heap.size W (HO2.out.below hW) hTl hgd
  have hqd : q2.data.toList = spoke T := by rw [hq2]
  have hqz : q2.size = (spoke T).length := by rw [← hqd]; rfl
  have hqm : q2.size ≤ 4000600 := by
    have h1 := spoke_len T hgd
    have : T.length * 20003 ≤ 200 * 20003 := Nat.mul_le_mul_right _ hTl
    omega
  have HBB : Hid (∀ W, Below w2.heap.size w2 W → Below w.heap.size w W) := fun W h => HB2.out.trans (h.mono HB2.out.size)
  have HC2 : Hid ((1000 < q2.size → cutE q2.data.toList = 1) ∧ (¬ 1000 < q2.size → cutT q2.data.toList = T ∧ cutP q2.data.toList = 0 ∧ cutE q2.data.toList = 0)) := by
    rw [hqd, hqz]
    exact ⟨fun h => (cut_big h).2.2, fun h => hsp h⟩
  clear hq2 hsp hqd hqz HS hsl hs190 hgd
  go_wp2
  go_loopw [23] (fun i wr => ∃ k : Nat, k ≤ T.length ∧ i = .int .i64 k ∧ Below w2.heap.size w2 wr) (fun i _ => T.length - (intOf i).toNat)
  case atStart => exact ⟨0, Nat.zero_le _, rfl, Below.refl _ _⟩
  case round =>
    obtain ⟨k, hk, rfl, hbw⟩ := hrel
    have HBW : Hid (Below w2.heap.size w2 wr) := hbw
    have hsz : w2.heap.size ≤ wr.heap.size := hbw.size
    clear hbw
    by_cases hlt : k < T.length
    · obtain ⟨x0, x1, x2⟩ := (HAT.out.below HBW.out hb) k hlt
      have hki : (k : Int) < (T.length : Int) := by omega
      have hgt := HGD.out k hlt
      generalize T[k] = t at x0 x1 x2 hgt
      obtain ⟨kd, ts, tn⟩ := t
      simp only at x0 x1 x2 hgt
      have hbd : ts.size ≤ 20000 := (tok_bounds (t := ⟨kd, ts, tn⟩) hgt).2.1
      have C3 : Hid (∀ o, Calls Tryd.prog 6 #[.agg #[.int .i64 kd, .string ts, .int .i64 tn]] (wr.alloc o) fun e w' => e = .returned (.int .i64 0) ∧ Below w2.heap.size w2 w') := fun o => (CK.out (wr.alloc o) ⟨kd, ts, tn⟩ (HBB.out _ (HBW.out.alloc HBW.out.size o)) hgt (show ts.size ≤ maxLen by unfold maxLen; omega)).mono fun e w' ⟨k1, k2⟩ => ⟨k1, (HBW.out.alloc HBW.out.size o).trans (k2.mono (by simp; omega))⟩
      have hbr : b < wr.heap.size := by omega
      clear hgt hbd
      go_wp2_with (first
        | (go_at_call 6; refine (C3.out _).mono ?_; rintro e w3 ⟨rfl, hb3⟩; have HB3 : Hid (Below w2.heap.size w2 w3) := hb3; clear hb3))
      go_roundw
      case rel => exact ⟨k + 1, by omega, by go_num, HB3.out⟩
      case measure => simp [intOf]; omega
    · have hki : ¬ ((k : Int) < (T.length : Int)) := by omega
      by_cases hbig : 1000 < q2.size
      · have C4 : Hid (∀ W, Below w2.heap.size w2 W → Calls Tryd.prog 5 #[.string q2] W fun e w' => ∃ (v : Value) (p : Int), e = .returned (.tuple #[v, .int .i64 p, .int .i64 1]) ∧ Below W.heap.size W w') := fun W hW => (CC.out W q2 (HBB.out W hW) (by unfold maxLen; omega)).mono fun e w' ⟨v, k1, k2, k3⟩ => ⟨v, (cutP q2.data.toList : Int), by rw [k1, HC2.out.1 hbig], k3⟩
        have hbi : (1000 : Int) < (q2.size : Int) := by omega
        clear CC HC2
        go_wp2_with (first
          | (go_at_call 7; refine (CS.out _ HBW.out).mono ?_; rintro e w4 ⟨rfl, hb4⟩; have HB4 : Hid (Below w2.heap.size w2 w4) := HBW.out.trans (hb4.mono HBW.out.size); clear hb4)
          | (go_at_call 5; refine (C4.out _ HB4.out).mono ?_; rintro e w5 ⟨v5, p5, rfl, hb5⟩; have HB5 : Hid (Below w2.heap.size w2 w5) := HB4.out.trans (hb5.mono HB4.out.size); clear hb5))
        all_goals
          go_ret
          exact ⟨rfl, HBB.out _ HB5.out⟩
      · obtain ⟨e1, e2, e3⟩ := HC2.out.2 hbig
        have C4 : Hid (∀ W, Below w2.heap.size w2 W → Calls Tryd.prog 5 #[.string q2] W fun e w' => ∃ (v : Value), e = .returned (.tuple #[v, .int .i64 0, .int .i64 0]) ∧ ToksOwn w' W.heap.size v T ∧ Below W.heap.size W w') := fun W hW => (CC.out W q2 (HBB.out W hW) (by unfold maxLen; omega)).mono fun e w' ⟨v, k1, k2, k3⟩ => ⟨v, by rw [k1, e2, e3]; rfl, by rw [← e1]; exact k2, k3⟩
        have hbi : ¬ ((1000 : Int) < (q2.size : Int)) := by omega
        have CE : Hid (∀ (W : World) (u : Value) (B : Nat), Below w2.heap.size w2 W → ToksOwn W B u T → Calls Tryd.prog 8 #[.slice (some ⟨b, 0, none⟩) T.length c, u] W fun e w' => e = .returned (.bool true) ∧ Below W.heap.size W w') := fun W u B hW hu => by
          obtain ⟨b', c', rfl, _, h2', h3'⟩ := hu.lies hTp
          exact equalT_walk b c b' c' T W (HAT.out.below hW hb) h3' hTl hc h2'
        clear CC HC2 e1 e2 e3
        go_wp2_with (first
          | (go_at_call 7; refine (CS.out _ HBW.out).mono ?_; rintro e w4 ⟨rfl, hb4⟩; have HB4 : Hid (Below w2.heap.size w2 w4) := HBW.out.trans (hb4.mono HBW.out.size); clear hb4)
          | (go_at_call 5; refine (C4.out _ HB4.out).mono ?_; rintro e w5 ⟨v5, rfl, ho5, hb5⟩; have HB5 : Hid (Below w2.heap.size w2 w5) := HB4.out.trans (hb5.mono HB4.out.size); have HO5 : Hid (ToksOwn w5 w4.heap.size v5 T) := ho5; clear hb5 ho5)
          | (go_at_call 8; refine (CE.out _ _ _ HB5.out HO5.out).mono ?_; rintro e w6 ⟨rfl, hb6⟩; have HB6 : Hid (Below w2.heap.size w2 w6) := HB5.out.trans (hb6.mono HB5.out.size); clear hb6))
        all_goals
          go_ret
          exact ⟨rfl, HBB.out _ HB6.out⟩
end Go.Proofs.YtbpggpnmbfjadaaDoor
