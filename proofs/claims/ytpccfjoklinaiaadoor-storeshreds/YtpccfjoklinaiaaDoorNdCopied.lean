/-
  CONTRACTS of the document's answer on copies (nodesCopy, copyAt, CopiedOf).
-/
import Derived.Test.YtpccfjoklinaiaaDoorNdMade
set_option linter.unusedVariables false
namespace Go.Proofs.YtpccfjoklinaiaaDoor
open Go.RowKit

/-- what is said of a copy -/
def copyF (E : Nat → Nd) (n : Nat) (i : Int) (m : Nat) (par : Int) : Int :=
  if atF E n i = 0 then
    (if (E i.toNat).kind = 6 then 3 else if ¬ (-1 ≤ par ∧ par < m) then 2 else if 100000 < (m : Int) + 1 + (E i.toNat).size then 1 else 0)
  else atF E n i
/-- how many nodes there are then -/
def copyL (E : Nat → Nd) (n : Nat) (i : Int) (m : Nat) (par : Int) : Nat := if copyF E n i m par = 0 then m + 1 + (E i.toNat).size.toNat else 0
theorem copyF_zero {E : Nat → Nd} {n : Nat} {i : Int} {m : Nat} {par : Int} (h : copyF E n i m par = 0) : nodesF E n = 0 ∧ ∃ (j z : Nat), i = j ∧ j < n ∧ (E j).size = z ∧ (E j).kind ≠ 6 ∧ -1 ≤ par ∧ par < m ∧ m + 1 + z ≤ 100000 ∧ copyL E n i m par = m + 1 + z := by
  have hL : copyL E n i m par = m + 1 + (E i.toNat).size.toNat := by unfold copyL; rw [if_pos h]
  unfold copyF at h
  by_cases ha : atF E n i = 0
  · obtain ⟨h0, j, rfl, hj⟩ := atF_zero ha
    rw [if_pos ha] at h
    obtain ⟨_, s1, s2, _⟩ := fit_parts ((nodesF_fit h0).2 j hj)
    have hjj : ((j : Int)).toNat = j := Int.toNat_natCast j
    rw [hjj] at h hL
    by_cases h6 : (E j).kind = 6
    · rw [if_pos h6] at h; cases h
    · rw [if_neg h6] at h
      by_cases hp : ¬ (-1 ≤ par ∧ par < m)
      · rw [if_pos hp] at h; cases h
      · rw [if_neg hp] at h
        by_cases hs : 100000 < (m : Int) + 1 + (E j).size
        · rw [if_pos hs] at h; cases h
        · refine ⟨h0, j, (E j).size.toNat, rfl, hj, by omega, h6, by omega, by omega, by omega, hL⟩
  · rw [if_neg ha] at h; exact absurd h ha

set_option maxHeartbeats 800000 in
theorem nodesCopy_some (b off cap m : Nat) (F : Nat → Nd) (w : World) (hm : m ≤ 100000) (hcap : m ≤ cap) (hb : b < w.heap.size) (hF : NdsAt w b off m F) :
    Calls Tryd.prog 45 #[.slice (some ⟨b, off, none⟩) m cap] w fun e w' => ∃ v, e = .returned v ∧ RowIs w' w.heap.size v m F ∧ Below w.heap.size w w' := by
  have HF : Hid (NdsAt w b off m F) := hF
  obtain ⟨i0, hi0, hz0, hz1, hz2⟩ := info_parts info42
  clear hF
  go_enter Tryd.func45, Tryd.ntmps45
  go_wp2
  go_loopw [3, 4] (fun o q wr => ∃ k : Nat, k ≤ m ∧ q = .int .i64 k ∧ RowIs wr w.heap.size o k F ∧ Below w.heap.size w wr) (fun _ q _ => m - (intOf q).toNat)
  case atStart => exact ⟨0, Nat.zero_le _, rfl, World.ownsRow_nil _ _ _ _, Below.refl _ _⟩
  case round =>
    obtain ⟨k, hk, rfl, hrow, hbr⟩ := hrel
    obtain ⟨a, cp, rfl⟩ := hrow.shape
    have HROW : Hid (RowIs wr w.heap.size (.slice a k cp) k F) := hrow
    have HBR : Hid (Below w.heap.size w wr) := hbr
    have hzr : w.heap.size ≤ wr.heap.size := hbr.size
    by_cases hlt : k < m
    · obtain ⟨e1, e2, e3, e4, e5, e6⟩ := HF.out.below hbr hb k hlt
      clear hrow hbr
      go_wp2_with (first | (at_builtin; refine wpList_append_own _ rfl _ _ 23 rfl w.heap.size 42 i0 _ 6 64 Tryd.underlying23 hi0 hz0 hz1 hz2 rfl (by decide) _ _ _ rfl (HROW.out.alloc _) ⟨wr.heap.size, 0, none⟩ 1 1 (six (F k)) rfl rfl (six_in wr.heap.size (F k)) (six_one _) ?c3 (by omega) ?c5 ?_))
      case c3 => unfold maxLen; omega
      case c5 => first | omega | (simp; omega)
      intro v6 w6 hown6 hgrow6 _
      have HR6 : Hid (RowIs w6 w.heap.size v6 (k + 1) F) := RowIs.pushed hown6 rfl
      have HG6 : Hid (Below w.heap.size w w6) := (HBR.out.alloc hzr _).grown hgrow6 (by first | omega | (simp; omega)) (fun q hq => (World.ownsRow.lt HROW.out q hq).1)
      clear hown6 hgrow6
      go_wp2
      go_roundw
      case rel => exact ⟨k + 1, by omega, by go_num, HR6.out, HG6.out⟩
      case measure => simp [intOf]; omega
    · have e : k = m := by omega
      subst e
      clear hrow hbr
      go_wp2
      go_ret
      exact ⟨_, rfl, HROW.out, HBR.out⟩
set_option maxHeartbeats 400000 in
theorem nodesCopy_zero (a : Option Addr) (cap : Nat) (F : Nat → Nd) (w : World) :
    Calls Tryd.prog 45 #[.slice a 0 cap] w fun e w' => ∃ v, e = .returned v ∧ RowIs w' w.heap.size v 0 F ∧ Below w.heap.size w w' := by
  go_enter Tryd.func45, Tryd.ntmps45
  go_wp2
  go_loop [3, 4] (fun o q => q = .int .i64 0 ∧ o = .slice none 0 0) (fun _ _ => 0)
  case atStart => exact ⟨rfl, rfl⟩
  case round =>
    obtain ⟨rfl, rfl⟩ := hrel
    go_wp2
    go_ret
    exact ⟨_, rfl, World.ownsRow_nil _ _ _ _, Below.refl _ _⟩
theorem nodesCopy_is (v : Value) (m : Nat) (F : Nat → Nd) (w : World) (hv : NdsIs w v m F) (hm : m ≤ 100000) :
    Calls Tryd.prog 45 #[v] w fun e w' => ∃ v, e = .returned v ∧ RowIs w' w.heap.size v m F ∧ Below w.heap.size w w' := by
  obtain ⟨a, cap, rfl, h1, h2, h3⟩ := hv
  rcases Nat.eq_zero_or_pos m with hz | hz
  · subst hz
    exact nodesCopy_zero a cap F w
  · obtain ⟨b, off, rfl, h4, h5⟩ := h3 hz
    exact nodesCopy_some b off cap m F w hm h1 h4 h5

/-- where the row lies, if it is not empty -/
theorem RowIs.place {w : World} {base : Nat} {v : Value} {n : Nat} {E : Nat → Nd} (h : RowIs w base v n E) (hn : 0 < n) : ∃ g cap, v = .slice (some ⟨g, 0, none⟩) n cap ∧ base ≤ g ∧ g < w.heap.size ∧ n ≤ cap ∧ NdsAt w g 0 n E := by
  have h8 := h
  obtain ⟨hl, ⟨rfl, h2⟩ | ⟨g, cap, cur, rfl, q1, q2, q3, q4, _⟩⟩ := h
  · omega
  · exact ⟨g, cap, rfl, q1, (Array.getElem?_eq_some_iff.1 q2).1, q3, nds_of_own h8⟩

set_option maxHeartbeats 1600000 in
set_option maxRecDepth 100000 in
theorem copyAt_is (b off n cap i z : Nat) (E F : Nat → Nd) (w : World) (a2 : Option Addr) (m cap2 : Nat) (par : Int) (hn : n ≤ 100000) (hcap : n ≤ cap) (hi : i < n) (hE : NdsAt w b off n E) (hb0 : b < w.heap.size) (hft : fitTo E n n) (hz : (E i).size = (z : Int)) (hzn : i + 1 + z ≤ n)
    (hm2 : m + 1 + z ≤ 100000) (hc2 : m ≤ cap2) (hp1 : -1 ≤ par) (hp2 : par < m) (hv : NdsIs w (.slice a2 m cap2) m F) :
    Calls Tryd.prog 34 #[.slice (some ⟨b, off, none⟩) n cap, .int .i64 i, .slice a2 m cap2, .int .i64 par] w fun e w' => ∃ v, e = .returned v ∧ NdsIs w' v (m + 1 + z) (madeN E F i m par) ∧ Below w.heap.size w w' := by
  have CN : Hid (Calls Tryd.prog 45 #[.slice a2 m cap2] w fun e w' => ∃ v, e = .returned v ∧ RowIs w' w.heap.size v m F ∧ Below w.heap.size w w') := nodesCopy_is _ m F w hv (by omega)
  have HE : Hid (∀ W, Below w.heap.size w W → NdsAt W b off n E) := fun W hW => hE.below hW hb0
  have HTO : Hid (∀ p : Nat, par = p → ∃ b2 off2, a2 = some ⟨b2, off2, none⟩ ∧ b2 < w.heap.size ∧ ∀ W, Below w.heap.size w W → W.cell? ⟨b2, off2 + p * 6 + 4, none⟩ = some (.int .i64 (F p).level)) := fun p hp => by
    obtain ⟨a, c, h1, _, _, h3⟩ := hv
    simp only [Value.slice.injEq, true_and] at h1
    obtain ⟨b2, off2, h4, h5, h6⟩ := h3 (by omega)
    refine ⟨b2, off2, by rw [h1.1, h4], h5, fun W hW => (h6.below hW h5 p (by omega)).2.2.2.2.1⟩
  have HCL : Hid (∀ k, 0 < k → k ≤ z → ∃ q : Nat, q < k ∧ (E (i + k)).parent = ((i + q : Nat) : Int) ∧ (copyN E F i m par k).level = wrap64 ((copyN E F i m par q).level + 1)) := fun k h1 h2 => by
    obtain ⟨q, h3, h4, h5⟩ := copyN_level (F := F) (m := m) (par := par) hft hi h1 (by omega)
    exact ⟨q, h3, by omega, h5⟩
  obtain ⟨i0, hi0, hz0, hz1, hz2⟩ := info_parts info42
  clear hE hft hv
  go_enter Tryd.func34, Tryd.ntmps34
  go_wp2_with (first | (go_at_call 45; refine CN.out.mono ?_; rintro e w1 ⟨v1, rfl, hr1, hb1⟩))
  have HR1 : Hid (RowIs w1 w.heap.size v1 m (madeN E F i m par)) := by
    have h : RowIs w1 w.heap.size v1 m (madeN E F i m par) := by
      unfold RowIs
      rw [ndCells_congr (E := madeN E F i m par) (F := F) (fun j hj => madeN_old hj)]
      exact hr1
    exact h
  have HB1 : Hid (Below w.heap.size w w1) := hb1
  clear hb1 hr1
  go_loopw [9, 10] (fun o q wr => ∃ k : Nat, k ≤ 1 + z ∧ q = .int .i64 ((i + k : Nat) : Int) ∧ RowIs wr w.heap.size o (m + k) (madeN E F i m par) ∧ Below w.heap.size w wr) (fun _ q _ => i + 1 + z - (intOf q).toNat)
  case atStart => exact ⟨0, Nat.zero_le _, by go_num, HR1.out, HB1.out⟩
  case round =>
    obtain ⟨k, hk, rfl, hrow, hbr⟩ := hrel
    obtain ⟨a, cp, rfl⟩ := hrow.shape
    have HROW : Hid (RowIs wr w.heap.size (.slice a (m + k) cp) (m + k) (madeN E F i m par)) := hrow
    have HBR : Hid (Below w.heap.size w wr) := hbr
    have hzr : w.heap.size ≤ wr.heap.size := hbr.size
    obtain ⟨_, _, _, s4, _, _⟩ := HE.out wr hbr i hi
    rw [hz] at s4
    have hbz : b < wr.heap.size := by omega
    by_cases hlt : k < 1 + z
    · obtain ⟨e1, e2, e3, e4, e5, e6⟩ := HE.out wr hbr (i + k) (by omega)
      have HMN : Hid (madeN E F i m par (m + k) = copyN E F i m par k) := madeN_new E F i m par k
      clear hbr
      cases k with
      | zero =>
        have HC0 : Hid (copyN E F i m par 0 = ⟨(E i).kind, (E i).name, (E i).value, (z : Int), topLv F par, par⟩) := by
          have h : copyN E F i m par 0 = ⟨(E i).kind, (E i).name, (E i).value, (z : Int), topLv F par, par⟩ := by unfold copyN; rw [if_pos rfl, hz]
          exact h
        clear hrow
        simp only [Nat.add_zero] at e1 e2 e3 e4 e5 e6
        rw [hz] at e4
        by_cases hpz : par < 0
        · have hpe : par = -1 := by omega
          subst hpe
          have HCX : Hid (madeN E F i m (-1) (m + 0) = ⟨(E i).kind, (E i).name, (E i).value, (z : Int), 0, -1⟩) := by
            have h : madeN E F i m (-1) (m + 0) = ⟨(E i).kind, (E i).name, (E i).value, (z : Int), 0, -1⟩ := by rw [HMN.out, HC0.out]; rfl
            exact h
          go_wp2_with (first | (at_builtin; refine wpList_append_own _ rfl _ _ 23 rfl w.heap.size 42 i0 _ 6 64 Tryd.underlying23 hi0 hz0 hz1 hz2 rfl (by decide) _ _ _ rfl ((HROW.out.alloc _).alloc _) ⟨wr.heap.size + 1, 0, none⟩ 1 1 (six ⟨(E i).kind, (E i).name, (E i).value, (z : Int), 0, -1⟩) rfl rfl ?c2 (six_one _) ?c3 (by omega) ?c5 ?_))
          case c2 =>
            intro j u hj
            have h := six_in (w := wr.alloc (.cells #[.int .i64 (E i).kind, .string (E i).name, .string (E i).value, .int .i64 (z : Int), .int .i64 0, .int .i64 (-1)] 42)) 0 ⟨(E i).kind, (E i).name, (E i).value, (z : Int), 0, -1⟩ j u hj
            first | (simpa using h) | exact hj | (simp; exact hj)
          case c3 => unfold maxLen; omega
          case c5 => first | omega | (simp; omega)
          intro v6 w6 hown6 hgrow6 _
          have HR6 : Hid (RowIs w6 w.heap.size v6 (m + 0 + 1) (madeN E F i m (-1))) := RowIs.pushed hown6 HCX.out
          have HG6 : Hid (Below w.heap.size w w6) := ((HBR.out.alloc hzr _).alloc (by simp; omega) _).grown hgrow6 (by first | omega | (simp; omega)) (fun q hq => (World.ownsRow.lt HROW.out q hq).1)
          clear hown6 hgrow6
          go_wp2
          go_roundw
          case rel => exact ⟨1, by omega, by go_num, HR6.out, HG6.out⟩
          case measure => simp [intOf]; omega
        · obtain ⟨p, rfl⟩ : ∃ p : Nat, par = p := ⟨par.toNat, by omega⟩
          obtain ⟨b2, off2, rfl, hb2, hcell⟩ := HTO.out p rfl
          have hp4 := hcell wr HBR.out
          have hb2z : b2 < wr.heap.size := by omega
          have hpm : p < m := by omega
          have HCX : Hid (madeN E F i m (p : Int) (m + 0) = ⟨(E i).kind, (E i).name, (E i).value, (z : Int), wrap64 ((F p).level + 1), (p : Int)⟩) := by
            have h : madeN E F i m (p : Int) (m + 0) = ⟨(E i).kind, (E i).name, (E i).value, (z : Int), wrap64 ((F p).level + 1), (p : Int)⟩ := by rw [HMN.out, HC0.out]; rfl
            exact h
          clear hcell
          go_wp2_with (first | (at_builtin; refine wpList_append_own _ rfl _ _ 23 rfl w.heap.size 42 i0 _ 6 64 Tryd.underlying23 hi0 hz0 hz1 hz2 rfl (by decide) _ _ _ rfl ((HROW.out.alloc _).alloc _) ⟨wr.heap.size + 1, 0, none⟩ 1 1 (six ⟨(E i).kind, (E i).name, (E i).value, (z : Int), wrap64 ((F p).level + 1), (p : Int)⟩) rfl rfl ?c2 (six_one _) ?c3 (by omega) ?c5 ?_))
          case c2 =>
            intro j u hj
            have h := six_in (w := wr.alloc (.cells #[.int .i64 (E i).kind, .string (E i).name, .string (E i).value, .int .i64 (z : Int), .int .i64 (wrap64 ((F p).level + 1)), .int .i64 (p : Int)] 42)) 0 ⟨(E i).kind, (E i).name, (E i).value, (z : Int), wrap64 ((F p).level + 1), (p : Int)⟩ j u hj
            first | (simpa using h) | exact hj | (simp; exact hj)
          case c3 => unfold maxLen; omega
          case c5 => first | omega | (simp; omega)
          intro v6 w6 hown6 hgrow6 _
          have HR6 : Hid (RowIs w6 w.heap.size v6 (m + 0 + 1) (madeN E F i m (p : Int))) := RowIs.pushed hown6 HCX.out
          have HG6 : Hid (Below w.heap.size w w6) := ((HBR.out.alloc hzr _).alloc (by simp; omega) _).grown hgrow6 (by first | omega | (simp; omega)) (fun q hq => (World.ownsRow.lt HROW.out q hq).1)
          clear hown6 hgrow6
          go_wp2
          go_roundw
          case rel => exact ⟨1, by omega, by go_num, HR6.out, HG6.out⟩
          case measure => simp [intOf]; omega
      | succ k =>
        obtain ⟨q, hq, hpar, hlev⟩ := HCL.out (k + 1) (by omega) (by omega)
        obtain ⟨g, cp', hsl, hg1, hg2, hg3, hnds⟩ := hrow.place (by omega)
        simp only [Value.slice.injEq, true_and] at hsl
        obtain ⟨rfl, rfl⟩ := hsl
        have g5 := (hnds (m + q) (by omega)).2.2.2.2.1
        rw [madeN_new] at g5
        simp only [Nat.zero_add] at g5
        generalize (copyN E F i m par q).level = lq at *
        have HCX : Hid (madeN E F i m par (m + (k + 1)) = ⟨(E (i + (k + 1))).kind, (E (i + (k + 1))).name, (E (i + (k + 1))).value, (E (i + (k + 1))).size, wrap64 (lq + 1), (m : Int) + ((i : Int) + (q : Int)) - (i : Int)⟩) := by
          have h : madeN E F i m par (m + (k + 1)) = ⟨(E (i + (k + 1))).kind, (E (i + (k + 1))).name, (E (i + (k + 1))).value, (E (i + (k + 1))).size, wrap64 (lq + 1), (m : Int) + ((i : Int) + (q : Int)) - (i : Int)⟩ := by
            rw [HMN.out, ← hlev]
            unfold copyN
            rw [if_neg (by omega)]
            show (⟨_, _, _, _, _, _⟩ : Nd) = ⟨_, _, _, _, _, _⟩
            congr 1
            omega
          exact h
        rw [hpar] at e6
        have g6 : wr.cell? ⟨g, (m + (i + q) - i) * 6 + 4, none⟩ = some (.int .i64 lq) := by rw [show m + (i + q) - i = m + q by omega]; exact g5
        clear g5
        clear hrow hnds hlev hpar
        generalize hJ : i + (k + 1) = J at *
        generalize hM : m + (k + 1) = M at *
        go_wp2_with (first | (at_builtin; refine wpList_append_own _ rfl _ _ 23 rfl w.heap.size 42 i0 _ 6 64 Tryd.underlying23 hi0 hz0 hz1 hz2 rfl (by decide) _ _ _ rfl ((HROW.out.alloc _).alloc _) ⟨wr.heap.size + 1, 0, none⟩ 1 1 (six ⟨(E J).kind, (E J).name, (E J).value, (E J).size, wrap64 (lq + 1), (m : Int) + ((i : Int) + (q : Int)) - (i : Int)⟩) rfl rfl ?c2 (six_one _) ?c3 (by omega) ?c5 ?_))
        case c2 =>
          intro j u hj
          have h := six_in (w := wr.alloc (.cells #[.int .i64 (E J).kind, .string (E J).name, .string (E J).value, .int .i64 (E J).size, .int .i64 (wrap64 (lq + 1)), .int .i64 ((m : Int) + ((i : Int) + (q : Int)) - (i : Int))] 42)) 0 ⟨(E J).kind, (E J).name, (E J).value, (E J).size, wrap64 (lq + 1), (m : Int) + ((i : Int) + (q : Int)) - (i : Int)⟩ j u hj
          first | (simpa using h) | exact hj | (simp; exact hj)
        case c3 => unfold maxLen; omega
        case c5 => first | omega | (simp; omega)
        intro v6 w6 hown6 hgrow6 _
        have HR6 : Hid (RowIs w6 w.heap.size v6 (M + 1) (madeN E F i m par)) := RowIs.pushed hown6 HCX.out
        have HG6 : Hid (Below w.heap.size w w6) := ((HBR.out.alloc hzr _).alloc (by simp; omega) _).grown hgrow6 (by first | omega | (simp; omega)) (fun q hq => (World.ownsRow.lt HROW.out q hq).1)
        clear hown6 hgrow6
        go_wp2
        go_roundw
        case rel => exact ⟨k + 2, by omega, by rw [show i + (k + 2) = J + 1 by omega]; go_num, by rw [show m + (k + 2) = M + 1 by omega]; exact HR6.out, HG6.out⟩
        case measure => simp [intOf]; omega
    · have e : k = 1 + z := by omega
      subst e
      clear hrow hbr
      go_wp2
      go_ret
      have h : NdsIs wr (.slice a (m + (1 + z)) cp) (m + 1 + z) (madeN E F i m par) := by
        rw [show m + 1 + z = m + (1 + z) by omega]
        exact HROW.out.is
      exact ⟨_, rfl, h, HBR.out⟩

set_option maxHeartbeats 800000 in
theorem copied_at (b off n cap : Nat) (a1 a2 : Option Addr) (cap1 m cap2 : Nat) (i par : Int) (E : Nat → Nd) (w : World) (ha : ¬ atF E n i = 0)
    (hC : Calls Tryd.prog 32 #[.slice a1 n cap1, .int .i64 i] w fun e w' => e = .returned (.int .i64 (atF E n i)) ∧ Below w.heap.size w w') :
    Calls Tryd.prog 17 #[.slice a1 n cap1, .int .i64 i, .slice a2 m cap2, .int .i64 par] w fun e w' => e = .returned (.tuple #[.slice none 0 0, .int .i64 (atF E n i)]) ∧ Below w.heap.size w w' := by
  have CC : Hid (Calls Tryd.prog 32 #[.slice a1 n cap1, .int .i64 i] w fun e w' => e = .returned (.int .i64 (atF E n i)) ∧ Below w.heap.size w w') := hC
  have hne : (atF E n i == 0) = false := by simpa using ha
  have hne2 : (atF E n i != 0) = true := by simpa using ha
  clear ha hC
  generalize atF E n i = R at *
  go_enter Tryd.func17, Tryd.ntmps17
  go_wp2_with (first | (go_at_call 32; refine CC.out.mono ?_; rintro e w1 ⟨rfl, hb1⟩))
  go_ret2
  exact ⟨rfl, hb1⟩
set_option maxHeartbeats 800000 in
set_option maxRecDepth 100000 in
theorem copied_some (b off n cap i z : Nat) (E F : Nat → Nd) (w : World) (a2 : Option Addr) (m cap2 : Nat) (par : Int) (hn : n ≤ 100000) (hcap : n ≤ cap) (hi : i < n) (hE : NdsAt w b off n E) (hb0 : b < w.heap.size) (hft : fitTo E n n) (hz : (E i).size = (z : Int)) (hzn : i + 1 + z ≤ n)
    (hmm : m ≤ 2199023255552) (hc2 : m ≤ cap2) (hv : NdsIs w (.slice a2 m cap2) m F)
    (hC : Calls Tryd.prog 32 #[.slice (some ⟨b, off, none⟩) n cap, .int .i64 i] w fun e w' => e = .returned (.int .i64 0) ∧ Below w.heap.size w w') :
    Calls Tryd.prog 17 #[.slice (some ⟨b, off, none⟩) n cap, .int .i64 i, .slice a2 m cap2, .int .i64 par] w fun e w' => ∃ v, e = .returned (.tuple #[v, .int .i64 (if (E i).kind = 6 then 3 else if ¬ (-1 ≤ par ∧ par < m) then 2 else if 100000 < (m : Int) + 1 + (z : Int) then 1 else 0)]) ∧
      NdsIs w' v (if (if (E i).kind = 6 then 3 else if ¬ (-1 ≤ par ∧ par < m) then 2 else if 100000 < (m : Int) + 1 + (z : Int) then 1 else 0 : Int) = 0 then m + 1 + z else 0) (madeN E F i m par) ∧ Below w.heap.size w w' := by
  have CC : Hid (Calls Tryd.prog 32 #[.slice (some ⟨b, off, none⟩) n cap, .int .i64 i] w fun e w' => e = .returned (.int .i64 0) ∧ Below w.heap.size w w') := hC
  have HE : Hid (∀ W, Below w.heap.size w W → NdsAt W b off n E) := fun W hW => hE.below hW hb0
  have CA : Hid (∀ W, Below w.heap.size w W → -1 ≤ par → par < m → m + 1 + z ≤ 100000 → Calls Tryd.prog 34 #[.slice (some ⟨b, off, none⟩) n cap, .int .i64 i, .slice a2 m cap2, .int .i64 par] W fun e w' => ∃ v, e = .returned v ∧ NdsIs w' v (m + 1 + z) (madeN E F i m par) ∧ Below W.heap.size W w') :=
    fun W hW h1 h2 h3 => copyAt_is b off n cap i z E F W a2 m cap2 par hn hcap hi (hE.below hW hb0) (Nat.lt_of_lt_of_le hb0 hW.size) hft hz hzn h3 hc2 h1 h2 (hv.below hW)
  have HNIL : Hid (∀ W, NdsIs W (.slice none 0 0) 0 (madeN E F i m par)) := fun W => ⟨none, 0, rfl, Nat.le_refl _, Nat.zero_le _, fun h => by omega⟩
  clear hE hft hv hC
  by_cases h6 : (E i).kind = 6
  · rw [if_pos h6]
    go_enter Tryd.func17, Tryd.ntmps17
    go_wp2_with (first | (go_at_call 32; refine CC.out.mono ?_; rintro e w1 ⟨rfl, hb1⟩; have HB1 : Hid (Below w.heap.size w w1) := hb1; obtain ⟨e1, e2, e3, e4, e5, e6⟩ := HE.out w1 HB1.out i hi; rw [h6] at e1; clear hb1))
    go_ret2
    exact ⟨_, rfl, HNIL.out _, HB1.out⟩
  · rw [if_neg h6]
    have h6' : ((E i).kind == 6) = false := by simpa using h6
    clear h6
    cases hI : inB par (-1) ((m : Int) - 1)
    · have hI' := of_decide_eq_false hI
      rw [if_pos (show ¬ (-1 ≤ par ∧ par < m) by omega)]
      clear hI'
      go_enter Tryd.func17, Tryd.ntmps17
      go_wp2_with (first | (go_at_call 32; refine CC.out.mono ?_; rintro e w1 ⟨rfl, hb1⟩; have HB1 : Hid (Below w.heap.size w w1) := hb1; obtain ⟨e1, e2, e3, e4, e5, e6⟩ := HE.out w1 HB1.out i hi; clear hb1) | (go_at_call 27; refine (in_any _ _ _ _).mono ?_; rintro e w2 ⟨rfl, rfl⟩))
      go_ret2
      exact ⟨_, rfl, HNIL.out _, HB1.out⟩
    · have hI' := of_decide_eq_true hI
      rw [if_neg (show ¬ ¬ (-1 ≤ par ∧ par < m) by omega)]
      by_cases hs : 100000 < (m : Int) + 1 + (z : Int)
      · rw [if_pos hs]
        have hs' : 100000 < (m : Int) + (z : Int) + 1 := by omega
        clear hs hI'
        go_enter Tryd.func17, Tryd.ntmps17
        go_wp2_with (first | (go_at_call 32; refine CC.out.mono ?_; rintro e w1 ⟨rfl, hb1⟩; have HB1 : Hid (Below w.heap.size w w1) := hb1; obtain ⟨e1, e2, e3, e4, e5, e6⟩ := HE.out w1 HB1.out i hi; rw [hz] at e4; clear hb1) | (go_at_call 27; refine (in_any _ _ _ _).mono ?_; rintro e w2 ⟨rfl, rfl⟩))
        go_ret2
        exact ⟨_, rfl, HNIL.out _, HB1.out⟩
      · rw [if_neg hs, if_pos rfl]
        have CB : Hid (∀ W, Below w.heap.size w W → Calls Tryd.prog 34 #[.slice (some ⟨b, off, none⟩) n cap, .int .i64 i, .slice a2 m cap2, .int .i64 par] W fun e w' => ∃ v, e = .returned v ∧ NdsIs w' v (m + 1 + z) (madeN E F i m par) ∧ Below W.heap.size W w') :=
          fun W hW => CA.out W hW (by omega) (by omega) (by omega)
        have hs' : decide (100000 < (m : Int) + (z : Int) + 1) = false := decide_eq_false (by omega)
        clear hs hI' CA
        generalize hI2 : inB par (-1) ((m : Int) - 1) = I at *
        subst hI
        go_enter Tryd.func17, Tryd.ntmps17
        go_wp2_with (first | (go_at_call 32; refine CC.out.mono ?_; rintro e w1 ⟨rfl, hb1⟩; have HB1 : Hid (Below w.heap.size w w1) := hb1; obtain ⟨e1, e2, e3, e4, e5, e6⟩ := HE.out w1 HB1.out i hi; rw [hz] at e4; clear hb1) | (go_at_call 27; refine (in_any _ _ _ _).mono ?_; rintro e w2 ⟨rfl, rfl⟩) |
          (go_at_call 34; refine (CB.out _ HB1.out).mono ?_; rintro e w3 ⟨v3, rfl, hv3, hb3⟩))
        go_ret2
        exact ⟨_, rfl, hv3, HB1.out.trans (hb3.mono HB1.out.size)⟩
set_option maxRecDepth 100000 in
theorem copiedOf_is (v1 v2 : Value) (n m : Nat) (i par : Int) (E F : Nat → Nd) (w : World) (hv1 : NdsIs w v1 n E) (hv2 : NdsIs w v2 m F) (hT : Tabs w) (hf : NdsFine n E) (hmm : m ≤ 2199023255552) :
    Calls Tryd.prog 17 #[v1, .int .i64 i, v2, .int .i64 par] w fun e w' => ∃ v, e = .returned (.tuple #[v, .int .i64 (copyF E n i m par)]) ∧ NdsIs w' v (copyL E n i m par) (madeN E F i.toNat m par) ∧ Below w.heap.size w w' := by
  have hC := nodeFault_is v1 n i E w hv1 hT hf
  have hv2k := hv2
  obtain ⟨a2, cap2, rfl, k1, k2, k3⟩ := hv2
  by_cases ha : atF E n i = 0
  · rw [ha] at hC
    obtain ⟨h0, j, rfl, hj⟩ := atF_zero ha
    obtain ⟨hn, hft⟩ := nodesF_fit h0
    obtain ⟨a, cap, rfl, h1, h2, h3⟩ := hv1
    obtain ⟨b, off, rfl, h4, h5⟩ := h3 (by omega)
    obtain ⟨_, s1, s2, _⟩ := fit_parts (hft j hj)
    have key := copied_some b off n cap j (E j).size.toNat E F w a2 m cap2 par hn h1 hj h5 h4 hft (by omega) (by omega) hmm k1 hv2k hC
    have e1 : (((E j).size.toNat : Nat) : Int) = (E j).size := by omega
    rw [e1] at key
    have e2 : copyF E n (j : Int) m par = (if (E j).kind = 6 then 3 else if ¬ (-1 ≤ par ∧ par < m) then 2 else if 100000 < (m : Int) + 1 + (E j).size then 1 else 0) := by unfold copyF; rw [if_pos ha, Int.toNat_natCast]
    unfold copyL
    rw [e2, Int.toNat_natCast]
    exact key
  · obtain ⟨a, cap, rfl, h1, h2, h3⟩ := hv1
    have e2 : copyF E n i m par = atF E n i := by unfold copyF; rw [if_neg ha]
    unfold copyL
    rw [e2, if_neg ha]
    exact (copied_at 0 0 n 0 a a2 cap m cap2 i par E w ha hC).mono fun e w' h => ⟨_, h.1, ⟨none, 0, rfl, Nat.le_refl _, Nat.zero_le _, fun h => by omega⟩, h.2⟩
end Go.Proofs.YtpccfjoklinaiaaDoor
