/-
  CONTRACT: the events of a node (store.Events): one pass, with a stack.
-/
import Derived.Test.YtabnaeppcnfhhaaDoorEtRow
set_option linter.unusedVariables false
namespace Go.Proofs.YtabnaeppcnfhhaaDoor
set_option maxRecDepth 100000
open Go.RowKit

theorem EvInv.len {E : Nat → Nd} {N n b i : Nat} {ev : List Evt} {st : List Nat} (hT : Tree E N) (hn : n < N) (h : EvInv E n b i ev st) : ev.length ≤ 2 * (1 + zN E n) := by
  have := evA_len hT hn
  rw [h.all, List.length_append] at this
  omega
theorem EvPop.len {E : Nat → Nd} {N n b i : Nat} {ev : List Evt} {st : List Nat} (hT : Tree E N) (hn : n < N) (h : EvPop E n b i ev st) : ev.length ≤ 2 * (1 + zN E n) := by
  have := evA_len hT hn
  rw [h.all, List.length_append] at this
  omega

set_option maxHeartbeats 6400000 in
/-- the events of a node that is there -/
theorem events_some (bn off N cap n : Nat) (E : Nat → Nd) (w : World) (hN : N ≤ 100000) (hcap : N ≤ cap) (hcm : cap ≤ maxLen) (hn : n < N) (hb0 : bn < w.heap.size) (hE : NdsAt w bn off N E) (hTr : Tree E N)
    (hC : Calls Tryd.prog 8 #[.slice (some ⟨bn, off, none⟩) N cap, .int .i64 n] w fun e w' => e = .returned (.int .i64 0) ∧ Below w.heap.size w w') :
    Calls Tryd.prog 4 #[.slice (some ⟨bn, off, none⟩) N cap, .int .i64 n] w fun e w' => ∃ v, e = .returned (.tuple #[v, .int .i64 0]) ∧ EvRow w' w.heap.size v (evA E n) ∧ Below w.heap.size w w' := by
  have HC : Hid (Calls Tryd.prog 8 #[.slice (some ⟨bn, off, none⟩) N cap, .int .i64 n] w fun e w' => e = .returned (.int .i64 0) ∧ Below w.heap.size w w') := hC
  have HTR : Hid (Tree E N) := hTr
  have HNA : Hid (∀ W i, Below w.heap.size w W → i < N → W.cell? ⟨bn, off + i * 6, none⟩ = some (.int .i64 (E i).kind) ∧ W.cell? ⟨bn, off + i * 6 + 1, none⟩ = some (.string (E i).name) ∧ W.cell? ⟨bn, off + i * 6 + 2, none⟩ = some (.string (E i).value) ∧ W.cell? ⟨bn, off + i * 6 + 3, none⟩ = some (.int .i64 (zN E i)) ∧ W.cell? ⟨bn, off + i * 6 + 4, none⟩ = some (.int .i64 (E i).level) ∧ W.cell? ⟨bn, off + i * 6 + 5, none⟩ = some (.int .i64 (E i).parent)) := fun W i hW hi => by
    have := hE.below hW hb0 i hi
    rw [(hTr.sz i hi).1] at this
    exact this
  have hnz := (hTr.sz n hn).2
  obtain ⟨i0, hi0, hz0, hz1, hz2⟩ := info_parts infoEv
  obtain ⟨i1, hi1, hy0, hy1, hy2⟩ := info_parts infoInt
  unfold maxLen at hcm
  clear hC hE hTr
  obtain ⟨B, hB⟩ : ∃ B, B = n + 1 + zN E n := ⟨_, rfl⟩
  have HBQ : Hid (B = n + 1 + zN E n) := hB
  go_enter Tryd.func4, Tryd.ntmps4
  go_upto_region 4 with (go_at_call 8; refine HC.out.mono ?_; rintro e w1 ⟨rfl, hb1⟩)
  have HB1 : Hid (Below w.heap.size w w1) := hb1
  obtain ⟨n1, n2, n3, n4, n5, n6⟩ := HNA.out w1 n hb1 hn
  have hbz : bn < w1.heap.size := Nat.lt_of_lt_of_le hb0 hb1.size
  clear hb1
  go_wp2
  clear n1 n2 n3 n4 n5 n6
  go_loopw [8, 9, 10] (fun v u q wr => ∃ (i : Nat) (ev : List Evt) (l : List Nat), n ≤ i ∧ i ≤ B ∧ q = .int .i64 i ∧ l.length ≤ i ∧ EvInv E n B i ev l.reverse ∧ EvRow wr w.heap.size v ev ∧ OpenIs wr w.heap.size u l ∧ Apart v u ∧ Below w.heap.size w wr) (fun _ _ q _ => B - (intOf q).toNat)
  case atStart => exact ⟨n, [], [], Nat.le_refl _, by omega, rfl, by simp, by rw [hB]; exact EvInv.zero E n, EvRow.nil _ _, OpenIs.nil _ _, (fun k h => nomatch h), HB1.out⟩
  case round =>
    obtain ⟨i, ev, l, hni, hiB, rfl, hll, hinv, hv, hu, hap, hbr⟩ := hrel
    have HINV : Hid (EvInv E n B i ev l.reverse) := hinv
    have hevl := hinv.len HTR.out hn
    have hsv := own_shape hv
    have hsu := own_shape hu
    obtain ⟨va, vc, rfl⟩ := hsv
    obtain ⟨ua, uc, rfl⟩ := hsu
    have HV : Hid (EvRow wr w.heap.size (.slice va ev.length vc) ev) := hv
    have HU : Hid (OpenIs wr w.heap.size (.slice ua l.length uc) l) := hu
    have HAP : Hid (Apart (.slice va ev.length vc) (.slice ua l.length uc)) := hap
    have HB : Hid (Below w.heap.size w wr) := hbr
    have hzr : w.heap.size ≤ wr.heap.size := hbr.size
    clear hinv hv hu hap hbr HB1
    by_cases hlt : i < B
    · obtain ⟨e1, e2, e3, e4, e5, e6⟩ := HNA.out wr i HB.out (by omega)
      have hii : (i : Int) < (N : Int) := by omega
      have hle : (i : Int) ≤ (n : Int) + (zN E n : Int) := by omega
      have hbi : bn < wr.heap.size := by omega
      have hiz : i + zN E i < N := (HTR.out.sz i (by omega)).2
      have HST : Hid (EvPop E n B i (ev ++ startOf (E i)) (if (E i).kind = 1 then (i + zN E i) :: l.reverse else l.reverse)) := by
        have h := HINV.out
        rw [hB] at h
        have := EvInv.step HTR.out hn hni (by omega) h
        rw [← hB] at this
        exact this
      generalize E i = x at *
      generalize zN E i = z at *
      obtain ⟨kk, nm, vl, zs, lv, pr⟩ := x
      simp only at e1 e2 e3 e5 e6
      by_cases k6 : kk = 6
      have HPOP : Hid (EvPop E n B i ev l.reverse) := by
        have h := HST.out
        rw [if_neg (show ¬ kk = 1 by rw [k6]; decide), show startOf ⟨kk, nm, vl, zs, lv, pr⟩ = [] from if_pos k6, List.append_nil] at h
        exact h
      have hll2 : l.length ≤ i + 1 := by omega
      clear HST HINV
      subst k6
      focus go_wp2
      have HVx : Hid (EvRow (wr.alloc (.cells #[.int .i64 6, .string nm, .string vl, .int .i64 z, .int .i64 lv, .int .i64 pr] 32)) w.heap.size (.slice va ev.length vc) ev) := HV.out.alloc _
      have HUx : Hid (OpenIs (wr.alloc (.cells #[.int .i64 6, .string nm, .string vl, .int .i64 z, .int .i64 lv, .int .i64 pr] 32)) w.heap.size (.slice ua l.length uc) l) := HU.out.alloc _
      have HAPx := HAP
      have HBx : Hid (Below w.heap.size w (wr.alloc (.cells #[.int .i64 6, .string nm, .string vl, .int .i64 z, .int .i64 lv, .int .i64 pr] 32))) := HB.out.alloc hzr _
      clear HV HU HAP HB hzr hevl hll e1 e2 e3 e4 e5 e6
      rotate_left
      by_cases k1 : kk = 1
      have HPOP : Hid (EvPop E n B i (ev ++ [⟨kk, nm, vl⟩]) (l ++ [i + z]).reverse) := by
        have h := HST.out
        rw [if_pos (show kk = 1 from k1), show startOf ⟨kk, nm, vl, zs, lv, pr⟩ = [⟨kk, nm, vl⟩] from if_neg k6] at h
        have e : (l ++ [i + z]).reverse = (i + z) :: l.reverse := by simp
        have h2 : EvPop E n B i (ev ++ [⟨kk, nm, vl⟩]) (l ++ [i + z]).reverse := by rw [e]; exact h
        exact h2
      have hll2 : (l ++ [i + z]).length ≤ i + 1 := by simp; omega
      clear HST HINV k6
      subst k1
      focus
        go_wp2_with (first
          | (at_builtin; refine wpList_append_at rfl (.tmp 38) (.tmp 46) 23 rfl w.heap.size 35 i0 _ 3 40 Tryd.underlying23 hi0 hz0 hz1 hz2 rfl (by decide) _ _ _ rfl ((HV.out.alloc _).alloc _) ⟨wr.heap.size + 1, 0, none⟩ 1 1 (evC ⟨1, nm, vl⟩) rfl rfl (elemE_in2 _ ⟨1, nm, vl⟩) (elemE_one _) (by unfold maxLen; omega) (by omega) (by simp <;> omega) ?_; intro v6 w6 hown6 hgrow6 hk6; obtain ⟨va6, vc6, rfl⟩ := own_shape hown6; have HV6 : Hid (EvRow w6 w.heap.size (.slice va6 (ev.length + 1) vc6) (ev ++ [⟨1, nm, vl⟩])) := EvRow.snoc hown6; have hst6 := stay_row (u := .slice ua l.length uc) ((HU.out.alloc _).alloc _) hgrow6 HAP.out.symm hk6; have HU6 : Hid (OpenIs w6 w.heap.size (.slice ua l.length uc) l) := hst6.1; have HAP6 : Hid (Apart (.slice va6 (ev.length + 1) vc6) (.slice ua l.length uc)) := hst6.2.symm; have HB6 : Hid (Below w.heap.size w w6) := ((HB.out.alloc hzr _).alloc (by simp <;> omega) _).grown hgrow6 (by simp <;> omega) (fun z hz => (HV.out.lt z hz).1); have hzr6 : w.heap.size ≤ w6.heap.size := HB6.out.size; have hz6 : wr.heap.size < w6.heap.size := (by have := hgrow6.size; simp at this; omega); have x0 : w6.cell? ⟨wr.heap.size, 0, none⟩ = some (.int .i64 1) := (grown_cell hgrow6 (fun k hk => (HV.out.lt k hk).2) (by simp <;> omega) 0).trans (by simp); have x3 : w6.cell? ⟨wr.heap.size, 3, none⟩ = some (.int .i64 z) := (grown_cell hgrow6 (fun k hk => (HV.out.lt k hk).2) (by simp <;> omega) 3).trans (by simp); clear hown6 hgrow6 hst6 hk6)
          | (at_builtin; refine wpList_append_at rfl (.tmp 51) (.tmp 56) 33 rfl w.heap.size 3 i1 _ 1 8 Tryd.underlying33 hi1 hy0 hy1 hy2 rfl (by decide) _ _ _ rfl (HU6.out.alloc _) ⟨w6.heap.size, 0, none⟩ 1 1 (elemN ((i : Int) + z)) rfl rfl (elemN_in _) (elemN_one _) (by unfold maxLen; omega) (by omega) (by simp <;> omega) ?_; intro v7 w7 hown7 hgrow7 hk7; obtain ⟨ua7, uc7, rfl⟩ := own_shape hown7; have HUx : Hid (OpenIs w7 w.heap.size (.slice ua7 (l.length + 1) uc7) (l ++ [i + z])) := OpenIs.snoc hown7; have hst7 := stay_row (u := .slice va6 (ev.length + 1) vc6) (HV6.out.alloc _) hgrow7 HAP6.out hk7; have HVx : Hid (EvRow w7 w.heap.size (.slice va6 (ev.length + 1) vc6) (ev ++ [⟨1, nm, vl⟩])) := hst7.1; have HAPx : Hid (Apart (.slice va6 (ev.length + 1) vc6) (.slice ua7 (l.length + 1) uc7)) := hst7.2; have HBx : Hid (Below w.heap.size w w7) := (HB6.out.alloc hzr6 _).grown hgrow7 (by simp <;> omega) (fun z hz => (HU6.out.lt z hz).1); clear hown7 hgrow7 hst7 hk7))
      clear HV HU HAP HB hzr HV6 HU6 HAP6 HB6 hzr6 hz6 x0 x3 hevl hll e1 e2 e3 e4 e5 e6
      rotate_left
      have k6n : (kk != 6) = true := by simpa using k6
      have k6e : (kk == 6) = false := by simpa using k6
      have k1' : (kk == 1) = false := by simpa using k1
      have HPOP : Hid (EvPop E n B i (ev ++ [⟨kk, nm, vl⟩]) l.reverse) := by
        have h := HST.out
        rw [if_neg (show ¬ kk = 1 from k1), show startOf ⟨kk, nm, vl, zs, lv, pr⟩ = [⟨kk, nm, vl⟩] from if_neg k6] at h
        exact h
      have hll2 : l.length ≤ i + 1 := by omega
      clear HST HINV k1 k6
      focus
        go_wp2_with (first
          | (at_builtin; refine wpList_append_at rfl (.tmp 38) (.tmp 46) 23 rfl w.heap.size 35 i0 _ 3 40 Tryd.underlying23 hi0 hz0 hz1 hz2 rfl (by decide) _ _ _ rfl ((HV.out.alloc _).alloc _) ⟨wr.heap.size + 1, 0, none⟩ 1 1 (evC ⟨kk, nm, vl⟩) rfl rfl (elemE_in2 _ ⟨kk, nm, vl⟩) (elemE_one _) (by unfold maxLen; omega) (by omega) (by simp <;> omega) ?_; intro v6 w6 hown6 hgrow6 hk6; obtain ⟨va6, vc6, rfl⟩ := own_shape hown6; have HV6 : Hid (EvRow w6 w.heap.size (.slice va6 (ev.length + 1) vc6) (ev ++ [⟨kk, nm, vl⟩])) := EvRow.snoc hown6; have hst6 := stay_row (u := .slice ua l.length uc) ((HU.out.alloc _).alloc _) hgrow6 HAP.out.symm hk6; have HU6 : Hid (OpenIs w6 w.heap.size (.slice ua l.length uc) l) := hst6.1; have HAP6 : Hid (Apart (.slice va6 (ev.length + 1) vc6) (.slice ua l.length uc)) := hst6.2.symm; have HB6 : Hid (Below w.heap.size w w6) := ((HB.out.alloc hzr _).alloc (by simp <;> omega) _).grown hgrow6 (by simp <;> omega) (fun z hz => (HV.out.lt z hz).1); have hzr6 : w.heap.size ≤ w6.heap.size := HB6.out.size; have hz6 : wr.heap.size < w6.heap.size := (by have := hgrow6.size; simp at this; omega); have x0 : w6.cell? ⟨wr.heap.size, 0, none⟩ = some (.int .i64 kk) := (grown_cell hgrow6 (fun k hk => (HV.out.lt k hk).2) (by simp <;> omega) 0).trans (by simp); have x3 : w6.cell? ⟨wr.heap.size, 3, none⟩ = some (.int .i64 z) := (grown_cell hgrow6 (fun k hk => (HV.out.lt k hk).2) (by simp <;> omega) 3).trans (by simp); clear hown6 hgrow6 hst6 hk6))
      have HVx := HV6
      have HUx := HU6
      have HAPx := HAP6
      have HBx := HB6
      clear HV HU HAP HB hzr HV6 HU6 HAP6 HB6 hzr6 hz6 x0 x3 hevl hll e1 e2 e3 e4 e5 e6
      rotate_left
      all_goals
        go_loopw [8, 9] (fun v u wq => ∃ (ev : List Evt) (l : List Nat), l.length ≤ i + 1 ∧ EvPop E n B i ev l.reverse ∧ EvRow wq w.heap.size v ev ∧ OpenIs wq w.heap.size u l ∧ Apart v u ∧ Below w.heap.size w wq) (fun _ u _ => lenOf u)
        case atStart => exact ⟨_, _, hll2, HPOP.out, HVx.out, HUx.out, HAPx.out, HBx.out⟩
        case round =>
          clear HPOP HVx HUx HAPx HBx hll2
          obtain ⟨ev, l, hll, hpop, hv, hu, hap, hbr⟩ := hrel
          have hevl := hpop.len HTR.out hn
          have hsv := own_shape hv
          obtain ⟨va, vc, rfl⟩ := hsv
          have HV : Hid (EvRow wr w.heap.size (.slice va ev.length vc) ev) := hv
          have HB : Hid (Below w.heap.size w wr) := hbr
          have hzr : w.heap.size ≤ wr.heap.size := hbr.size
          clear hv hbr
          rcases list_last l with rfl | ⟨r, e, rfl⟩
          · have HNX : Hid (EvInv E n B (i + 1) ev ([] : List Nat).reverse) := hpop.next (fun e st' h => by simp at h)
            obtain ⟨ua, uc, rfl⟩ : ∃ a c, _ = Value.slice a 0 c := own_shape hu
            have HU : Hid (OpenIs wr w.heap.size (.slice ua 0 uc) []) := hu
            have HAP : Hid (Apart (.slice va ev.length vc) (.slice ua 0 uc)) := hap
            clear hpop hu hap
            go_wp2
            go_roundw
            case rel => exact ⟨i + 1, ev, [], by omega, by omega, by go_num, by simp, HNX.out, HV.out, HU.out, HAP.out, HB.out⟩
            case measure => simp [intOf]; omega
          · obtain ⟨g, gc, rfl, hg1, hg2, hg3, hg4, hcell, hrest⟩ := hu.top
            have HU : Hid (OpenIs wr w.heap.size (.slice (some ⟨g, 0, none⟩) (r.length + 1) gc) (r ++ [e])) := hu
            have HRE : Hid (OpenIs wr w.heap.size (.slice (some ⟨g, 0, none⟩) r.length gc) r) := hrest
            have HAP : Hid (Apart (.slice va ev.length vc) (.slice (some ⟨g, 0, none⟩) (r.length + 1) gc)) := hap
            have hrl : r.length ≤ i := by simp at hll; omega
            have hgm : gc ≤ 9223372036854775807 := by unfold maxLen at hg4; omega
            have hpop2 : EvPop E n B i ev (e :: r.reverse) := by simpa using hpop
            clear hpop hu hap hrest hll hg4
            by_cases hei : e = i
            · have hq : ((e : Int) == (i : Int)) = true := by simp; omega
              rw [hei] at hpop2
              have HPP : Hid (EvPop E n B i (ev ++ [endE]) r.reverse) := hpop2.pop
              clear hpop2 hei
              go_wp2_with (first
                | (at_builtin; refine wpList_append_at rfl (.tmp 71) (.tmp 73) 23 rfl w.heap.size 35 i0 _ 3 40 Tryd.underlying23 hi0 hz0 hz1 hz2 rfl (by decide) _ _ _ rfl (HV.out.alloc _) ⟨wr.heap.size, 0, none⟩ 1 1 (evC endE) rfl rfl (elemE_in endE) (elemE_one _) (by unfold maxLen; omega) (by omega) (by simp <;> omega) ?_; intro v6 w6 hown6 hgrow6 hk6; obtain ⟨va6, vc6, rfl⟩ := own_shape hown6; have HV6 : Hid (EvRow w6 w.heap.size (.slice va6 (ev.length + 1) vc6) (ev ++ [endE])) := EvRow.snoc hown6; have hst6 := stay_row (u := .slice (some ⟨g, 0, none⟩) r.length gc) (HRE.out.alloc _) hgrow6 (HAP.out.symm) hk6; have HU6 : Hid (OpenIs w6 w.heap.size (.slice (some ⟨g, 0, none⟩) r.length gc) r) := hst6.1; have HAP6 : Hid (Apart (.slice va6 (ev.length + 1) vc6) (.slice (some ⟨g, 0, none⟩) r.length gc)) := hst6.2.symm; have HB6 : Hid (Below w.heap.size w w6) := (HB.out.alloc hzr _).grown hgrow6 (by simp <;> omega) (fun z hz => (HV.out.lt z hz).1); clear hown6 hgrow6 hst6 hk6))
              go_roundw
              case rel => exact ⟨ev ++ [endE], r, by omega, HPP.out, HV6.out, HU6.out, HAP6.out, HB6.out⟩
              case measure => simp [lenOf]
            · have hq : ((e : Int) == (i : Int)) = false := by simp; omega
              have HNX : Hid (EvInv E n B (i + 1) ev (r ++ [e]).reverse) := by
                have h := hpop2.next (fun t st' h => by simp at h; omega)
                have e2 : (r ++ [e]).reverse = e :: r.reverse := by simp
                have h2 : EvInv E n B (i + 1) ev (r ++ [e]).reverse := by rw [e2]; exact h
                exact h2
              clear hpop2 hei
              go_wp2
              go_roundw
              case rel => exact ⟨i + 1, ev, r ++ [e], by omega, by omega, by go_num, by simp; omega, HNX.out, HV.out, HU.out, HAP.out, HB.out⟩
              case measure => simp [intOf]; omega
    · have e : i = B := by omega
      subst e
      have HR : Hid (ev = evA E n) := HINV.out.done
      have hle : ¬ (i : Int) ≤ (n : Int) + (zN E n : Int) := by omega
      go_wp2
      refine bodyPost_ret (v := .tuple #[.slice va ev.length vc, .int .i64 0]) (by simp [results, Tryd.results4, go_sem]) rfl ?_
      exact ⟨_, rfl, by rw [← HR.out]; exact HV.out, HB.out⟩
end Go.Proofs.YtabnaeppcnfhhaaDoor
