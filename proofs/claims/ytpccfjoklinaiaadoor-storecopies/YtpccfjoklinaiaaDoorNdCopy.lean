/-
  CONTRACT of store.Copy, where it refuses nothing.
-/
import Derived.Test.YtpccfjoklinaiaaDoorNdMade
import Derived.OwnWalk
import Derived.RegionTactic
import Derived.ChangeAlike
import Derived.BigRegion
import Derived.Laws.AppendOwnNone
set_option linter.unusedVariables false
namespace Go.Proofs.YtpccfjoklinaiaaDoor
open Go.RowKit

set_option maxHeartbeats 3200000 in
set_option maxRecDepth 100000 in
theorem copy_pos (b off n cap i z : Nat) (E F : Nat → Nd) (w : World) (m cap2 b2 off2 p : Nat) (hto : NdsAt w b2 off2 m F) (hb2 : b2 < w.heap.size) (hpm : p < m) (hn : n ≤ 100000) (hcap : n ≤ cap) (hm : cap ≤ maxLen) (hi : i < n) (hE : NdsAt w b off n E) (hb0 : b < w.heap.size) (hft : fitTo E n n) (hz : (E i).size = (z : Int)) (hzn : i + 1 + z ≤ n)
    (hm2 : m + 1 + z ≤ 100000) (hk : ((E i).kind == 6) = false)
    (hC : Calls Tryd.prog 28 #[.slice (some ⟨b, off, none⟩) n cap, .int .i64 i] w fun e w' => e = .returned (.int .i64 0) ∧ Below w.heap.size w w') :
    Calls Tryd.prog 16 #[.slice (some ⟨b, off, none⟩) n cap, .int .i64 i, .slice (some ⟨b2, off2, none⟩) m cap2, .int .i64 (p : Int)] w fun e w' => ∃ v, e = .returned (.tuple #[v, .int .i64 0]) ∧ NdsIs w' v (m + 1 + z) (madeN E F i m (p : Int)) ∧ Below w.heap.size w w' := by
  have CC : Hid (Calls Tryd.prog 28 #[.slice (some ⟨b, off, none⟩) n cap, .int .i64 i] w fun e w' => e = .returned (.int .i64 0) ∧ Below w.heap.size w w') := hC
  have HE : Hid (∀ W, Below w.heap.size w W → NdsAt W b off n E) := fun W hW => hE.below hW hb0
  have CW : Hid (∀ W, Below w.heap.size w W → Calls Tryd.prog 30 #[.slice (some ⟨b, off, none⟩) n cap, .int .i64 i] W fun e w' => ∃ o c, e = .returned (.slice (some ⟨b, o, none⟩) z c) ∧ z ≤ c ∧ c ≤ maxLen ∧ NdsAt w' b o z (fun r => E (i + 1 + r)) ∧ w' = W) :=
    fun W hW => within_any b off n cap i z E W hn hcap hm hi (hE.below hW hb0) hz hzn
  have HLV : Hid (∀ k, k < z → ∃ p : Nat, i ≤ p ∧ p < i + 1 + k ∧ (E (i + 1 + k)).parent = p) := fun k hk => by
    obtain ⟨p, h1, h2, h3, _⟩ := within_up hft hi (j := i + 1 + k) (by omega) (by omega)
    exact ⟨p, h1, h2, h3⟩
  have HTO : Hid (∀ W, Below w.heap.size w W → ∀ j u, (ndCells F m)[j]? = some u → W.cell? ((⟨b2, off2, none⟩ : Addr).add j) = some u) := fun W hW => ndCells_in (hto.below hW hb2)
  have HTP : Hid (∀ W, Below w.heap.size w W → W.cell? ⟨b2, off2 + p * 6 + 4, none⟩ = some (.int .i64 (F p).level)) := fun W hW => (hto.below hW hb2 p hpm).2.2.2.2.1
  have hpI : (p : Int) < (m : Int) := by omega
  have HTL : Hid (topLv F (p : Int) = wrap64 ((F p).level + 1)) := rfl
  unfold maxLen at hm
  obtain ⟨i0, hi0, hz0, hz1, hz2⟩ := info_parts info42
  clear hE hC hft hto
  go_enter Tryd.func16, Tryd.ntmps16
  go_wp2_with (first | (go_at_call 28; refine CC.out.mono ?_; rintro e w1 ⟨rfl, hb1⟩; have HB1 : Hid (Below w.heap.size w w1) := hb1; obtain ⟨e1, e2, e3, e4, e5, e6⟩ := HE.out w1 HB1.out i hi; rw [hz] at e4; have hbw : b < w1.heap.size := Nat.lt_of_lt_of_le hb0 hb1.size; have hp4 := HTP.out w1 HB1.out; have hb2w : b2 < w1.heap.size := Nat.lt_of_lt_of_le hb2 hb1.size; clear hb1) |
    (at_make; refine wpList_make_own _ rfl _ _ 23 rfl (w1.heap.size + 1) 42 i0 _ 6 Tryd.underlying23 hi0 hz0 hz1 .i64 .i64 _ (m + 1 + z) rfl rfl (by first | omega | (simp; omega) | rfl) ?m2 ?m3 ?m4 ?_))
  case m2 => rw [hz2]; omega
  case m3 => unfold maxLen; omega
  case m4 => simp
  intro w2 hown2 hgrow2
  have HG2 : Hid (Below (w1.heap.size + 1) (w1.alloc (.cells #[.int .i64 (E i).kind, .string (E i).name, .string (E i).value, .int .i64 (z : Int), .int .i64 (wrap64 ((F p).level + 1)), .int .i64 (p : Int)] 42)) w2) := (Below.refl _ _).grown hgrow2 (by simp) (fun k hk => by cases hk)
  have HBX : Hid (Below w.heap.size w (w1.alloc (.cells #[.int .i64 (E i).kind, .string (E i).name, .string (E i).value, .int .i64 (z : Int), .int .i64 (wrap64 ((F p).level + 1)), .int .i64 (p : Int)] 42))) := HB1.out.alloc HB1.out.size _
  have HTC : Hid (∀ W, Below (w1.heap.size + 1) (w1.alloc (.cells #[.int .i64 (E i).kind, .string (E i).name, .string (E i).value, .int .i64 (z : Int), .int .i64 (wrap64 ((F p).level + 1)), .int .i64 (p : Int)] 42)) W → W.cell? ⟨w1.heap.size, 0, none⟩ = some (.int .i64 (E i).kind) ∧ W.cell? ⟨w1.heap.size, 1, none⟩ = some (.string (E i).name) ∧ W.cell? ⟨w1.heap.size, 2, none⟩ = some (.string (E i).value) ∧ W.cell? ⟨w1.heap.size, 3, none⟩ = some (.int .i64 (z : Int)) ∧ W.cell? ⟨w1.heap.size, 4, none⟩ = some (.int .i64 (wrap64 ((F p).level + 1))) ∧ W.cell? ⟨w1.heap.size, 5, none⟩ = some (.int .i64 (p : Int))) := fun W hW => by
    have k : ∀ o, W.cell? ⟨w1.heap.size, o, none⟩ = _ := fun o => hW.cell (p := ⟨w1.heap.size, o, none⟩) (by simp)
    exact ⟨(k 0).trans (by simp), (k 1).trans (by simp), (k 2).trans (by simp), (k 3).trans (by simp), (k 4).trans (by simp), (k 5).trans (by simp)⟩
  have hX1 : (w1.alloc (.cells #[.int .i64 (E i).kind, .string (E i).name, .string (E i).value, .int .i64 (z : Int), .int .i64 (wrap64 ((F p).level + 1)), .int .i64 (p : Int)] 42)).heap.size = w1.heap.size + 1 := by simp
  generalize w1.alloc (.cells #[.int .i64 (E i).kind, .string (E i).name, .string (E i).value, .int .i64 (z : Int), .int .i64 (wrap64 ((F p).level + 1)), .int .i64 (p : Int)] 42) = X1 at *
  have hX1' : w1.heap.size + 1 ≤ X1.heap.size := by omega
  have HWX : Hid (∀ W, Below (w1.heap.size + 1) X1 W → Below w.heap.size w W) := fun W hW => HBX.out.trans (hW.mono (by have := HB1.out.size; omega))
  have HO2 : Hid (w2.ownsRow (w1.heap.size + 1) 42 6 (.slice (some ⟨w1.heap.size + 1, 0, none⟩) 0 (m + 1 + z)) 0 []) := hown2
  have hz2w : w1.heap.size + 1 ≤ w2.heap.size := by have := HG2.out.size; omega
  clear hown2 hgrow2 e1 e2 e3 e4 e5 e6
  go_wp2_with (first | (at_builtin; refine wpList_append_own _ rfl _ _ 23 rfl (w1.heap.size + 1) 42 i0 _ 6 64 Tryd.underlying23 hi0 hz0 hz1 hz2 rfl (by decide) _ _ _ rfl HO2.out ⟨b2, off2, none⟩ m cap2 (ndCells F m) rfl (ndCells_len F m) (HTO.out w2 (HWX.out w2 HG2.out)) (ndCells_one F m) ?c3 ?c4 ?c5 ?_))
  case c3 => unfold maxLen; omega
  case c4 => omega
  case c5 => exact hz2w
  intro v3 w3 hown3 hgrow3 _
  have HR3 : Hid (RowIs w3 (w1.heap.size + 1) v3 m (madeN E F i m (p : Int))) := by
    have h : RowIs w3 (w1.heap.size + 1) v3 m (madeN E F i m (p : Int)) := by
      unfold RowIs
      rw [ndCells_congr (E := madeN E F i m (p : Int)) (F := F) (fun j hj => madeN_old hj)]
      exact hown3
    exact h
  have HG3 : Hid (Below (w1.heap.size + 1) X1 w3) := HG2.out.grown hgrow3 hz2w (fun q hq => (HO2.out.lt q hq).1)
  clear hown3 hgrow3
  obtain ⟨a3, c3, rfl⟩ := HR3.out.shape
  have hz3w : w1.heap.size + 1 ≤ w3.heap.size := by have := HG3.out.size; omega
  obtain ⟨t1, t2, t3, t4, t5, t6⟩ := HTC.out w3 HG3.out
  go_wp2_with (first | (at_builtin; refine wpList_append_own _ rfl _ _ 23 rfl (w1.heap.size + 1) 42 i0 _ 6 64 Tryd.underlying23 hi0 hz0 hz1 hz2 rfl (by decide) _ _ _ rfl (HR3.out.alloc _) ⟨w3.heap.size, 0, none⟩ 1 1 (six ⟨(E i).kind, (E i).name, (E i).value, (z : Int), (wrap64 ((F p).level + 1)), (p : Int)⟩) rfl rfl (six_in w3.heap.size ⟨(E i).kind, (E i).name, (E i).value, (z : Int), (wrap64 ((F p).level + 1)), (p : Int)⟩) (six_one _) ?c3 (by omega) ?c5 ?_))
  case c3 => unfold maxLen; omega
  case c5 => first | omega | (simp; omega)
  intro v4 w4 hown4 hgrow4 _
  have HR4 : Hid (RowIs w4 (w1.heap.size + 1) v4 (m + 1) (madeN E F i m (p : Int))) := RowIs.pushed hown4 (by
    have h := madeN_new E F i m (p : Int) 0
    rw [Nat.add_zero] at h
    rw [h]
    unfold copyN
    rw [if_pos rfl, HTL.out, hz])
  have HG4 : Hid (Below (w1.heap.size + 1) X1 w4) := (HG3.out.alloc (by omega) _).grown hgrow4 (by first | omega | (simp; omega)) (fun q hq => (World.ownsRow.lt HR3.out q hq).1)
  clear hown4 hgrow4 t1 t2 t3 t4 t5 t6
  obtain ⟨a4, c4, rfl⟩ := HR4.out.shape
  go_wp2_with (first | (go_at_call 30; refine (CW.out _ (HWX.out _ HG4.out)).mono ?_; rintro e w5 ⟨o, c, rfl, hzc, hcm, hsub, rfl⟩; have HSUB : Hid (NdsAt X1 b o z (fun r => E (i + 1 + r))) := hsub.back HG4.out (by omega); clear hsub))
  go_loopw [12, 78] (fun o12 q wr => ∃ k : Nat, k ≤ z ∧ q = .int .i64 k ∧ RowIs wr (w1.heap.size + 1) o12 (m + 1 + k) (madeN E F i m (p : Int)) ∧ Below (w1.heap.size + 1) X1 wr) (fun _ q _ => z - (intOf q).toNat)
  case atStart => exact ⟨0, Nat.zero_le _, rfl, HR4.out, HG4.out⟩
  case round =>
    obtain ⟨k, hkz, rfl, hrow, hbr⟩ := hrel
    obtain ⟨a, cp, rfl⟩ := hrow.shape
    have HROW : Hid (RowIs wr (w1.heap.size + 1) (.slice a (m + 1 + k) cp) (m + 1 + k) (madeN E F i m (p : Int))) := hrow
    have HBR : Hid (Below (w1.heap.size + 1) X1 wr) := hbr
    have hzr : w1.heap.size + 1 ≤ wr.heap.size := by have := hbr.size; omega
    by_cases hlt : k < z
    · obtain ⟨e1, e2, e3, e4, e5, e6⟩ := HSUB.out.below hbr (by omega) k hlt
      obtain ⟨_, _, _, _, l5, _⟩ := HE.out wr (HWX.out wr hbr) i hi
      obtain ⟨_, _, _, _, t5, _⟩ := HTC.out wr hbr
      obtain ⟨pj, hp1, hp2, hp3⟩ := HLV.out k hlt
      have HMN : Hid (madeN E F i m (p : Int) (m + 1 + k) = ⟨(E (i + 1 + k)).kind, (E (i + 1 + k)).name, (E (i + 1 + k)).value, (E (i + 1 + k)).size, wrap64 ((E (i + 1 + k)).level + wrap64 ((wrap64 ((F p).level + 1)) - (E i).level)), (pj : Int) + ((m : Int) - i)⟩) := by
        have e : madeN E F i m (p : Int) (m + 1 + k) = ⟨(E (i + 1 + k)).kind, (E (i + 1 + k)).name, (E (i + 1 + k)).value, (E (i + 1 + k)).size, wrap64 ((E (i + 1 + k)).level + wrap64 ((wrap64 ((F p).level + 1)) - (E i).level)), (pj : Int) + ((m : Int) - i)⟩ := by
          have h := madeN_new E F i m (p : Int) (1 + k)
          rw [← Nat.add_assoc] at h
          rw [h]
          unfold copyN
          rw [if_neg (by omega), HTL.out, ← hp3, ← Nat.add_assoc]
        exact e
      rw [hp3] at e6
      have hbz : b < wr.heap.size := by omega
      have hTz : w1.heap.size < wr.heap.size := by omega
      have hiI : (i : Int) < (n : Int) := by omega
      clear hrow hbr hp3
      go_wp2
      go_region
      all_goals
        go_wp2_with (first | (at_builtin; refine wpList_append_own _ rfl _ _ 23 rfl (w1.heap.size + 1) 42 i0 _ 6 64 Tryd.underlying23 hi0 hz0 hz1 hz2 rfl (by decide) _ _ _ rfl (((HROW.out.alloc _).heap rfl).alloc _) ⟨_, 0, none⟩ 1 1 (six ⟨(E (i + 1 + k)).kind, (E (i + 1 + k)).name, (E (i + 1 + k)).value, (E (i + 1 + k)).size, wrap64 ((E (i + 1 + k)).level + wrap64 ((wrap64 ((F p).level + 1)) - (E i).level)), (pj : Int) + ((m : Int) - i)⟩) rfl rfl ?c2 (six_one _) ?c3 ?c4 ?c5 ?_))
        case c2 =>
          intro j u hj
          have h := six_in (w := wr.alloc (.cells #[.int .i64 (E (i + 1 + k)).kind, .string (E (i + 1 + k)).name, .string (E (i + 1 + k)).value, .int .i64 (E (i + 1 + k)).size, .int .i64 (wrap64 ((E (i + 1 + k)).level + wrap64 ((wrap64 ((F p).level + 1)) - (E i).level))), .int .i64 ((pj : Int) + ((m : Int) - i))] 42)) 0 ⟨(E (i + 1 + k)).kind, (E (i + 1 + k)).name, (E (i + 1 + k)).value, (E (i + 1 + k)).size, wrap64 ((E (i + 1 + k)).level + wrap64 ((wrap64 ((F p).level + 1)) - (E i).level)), (pj : Int) + ((m : Int) - i)⟩ j u hj
          simpa using h
        case c3 => unfold maxLen; omega
        case c4 => omega
        case c5 => first | omega | (simp; omega)
        intro v6 w6 hown6 hgrow6 _
        have HR6 : Hid (RowIs w6 (w1.heap.size + 1) v6 (m + 1 + k + 1) (madeN E F i m (p : Int))) := RowIs.pushed hown6 HMN.out
        have HG6 : Hid (Below (w1.heap.size + 1) X1 w6) := Below.grown (by repeat (first | exact HBR.out | apply below_alloc2 _ hX1' | apply Below.drew)) hgrow6 (by first | omega | (simp; omega)) (fun q hq => (World.ownsRow.lt HROW.out q hq).1)
        clear hown6 hgrow6
        go_wp2
        go_roundw
        case rel => exact ⟨k + 1, by omega, by go_num, HR6.out, HG6.out⟩
        case measure => simp [intOf]; omega
    · have e : k = z := by omega
      subst e
      clear hrow hbr
      go_wp2
      go_ret2
      exact ⟨_, rfl, HROW.out.is, HWX.out _ HBR.out⟩
set_option maxHeartbeats 3200000 in
set_option maxRecDepth 100000 in
theorem copy_neg (b off n cap i z : Nat) (E F : Nat → Nd) (w : World) (m cap2 : Nat) (a2 : Addr) (hto : ∀ W, Below w.heap.size w W → ∀ j u, (ndCells F m)[j]? = some u → W.cell? (a2.add j) = some u) (hn : n ≤ 100000) (hcap : n ≤ cap) (hm : cap ≤ maxLen) (hi : i < n) (hE : NdsAt w b off n E) (hb0 : b < w.heap.size) (hft : fitTo E n n) (hz : (E i).size = (z : Int)) (hzn : i + 1 + z ≤ n)
    (hm2 : m + 1 + z ≤ 100000) (hk : ((E i).kind == 6) = false)
    (hC : Calls Tryd.prog 28 #[.slice (some ⟨b, off, none⟩) n cap, .int .i64 i] w fun e w' => e = .returned (.int .i64 0) ∧ Below w.heap.size w w') :
    Calls Tryd.prog 16 #[.slice (some ⟨b, off, none⟩) n cap, .int .i64 i, .slice (some a2) m cap2, .int .i64 (-1)] w fun e w' => ∃ v, e = .returned (.tuple #[v, .int .i64 0]) ∧ NdsIs w' v (m + 1 + z) (madeN E F i m (-1)) ∧ Below w.heap.size w w' := by
  have CC : Hid (Calls Tryd.prog 28 #[.slice (some ⟨b, off, none⟩) n cap, .int .i64 i] w fun e w' => e = .returned (.int .i64 0) ∧ Below w.heap.size w w') := hC
  have HE : Hid (∀ W, Below w.heap.size w W → NdsAt W b off n E) := fun W hW => hE.below hW hb0
  have CW : Hid (∀ W, Below w.heap.size w W → Calls Tryd.prog 30 #[.slice (some ⟨b, off, none⟩) n cap, .int .i64 i] W fun e w' => ∃ o c, e = .returned (.slice (some ⟨b, o, none⟩) z c) ∧ z ≤ c ∧ c ≤ maxLen ∧ NdsAt w' b o z (fun r => E (i + 1 + r)) ∧ w' = W) :=
    fun W hW => within_any b off n cap i z E W hn hcap hm hi (hE.below hW hb0) hz hzn
  have HLV : Hid (∀ k, k < z → ∃ p : Nat, i ≤ p ∧ p < i + 1 + k ∧ (E (i + 1 + k)).parent = p) := fun k hk => by
    obtain ⟨p, h1, h2, h3, _⟩ := within_up hft hi (j := i + 1 + k) (by omega) (by omega)
    exact ⟨p, h1, h2, h3⟩
  have HTO : Hid (∀ W, Below w.heap.size w W → ∀ j u, (ndCells F m)[j]? = some u → W.cell? (a2.add j) = some u) := hto
  have HTL : Hid (topLv F (-1) = 0) := rfl
  unfold maxLen at hm
  obtain ⟨i0, hi0, hz0, hz1, hz2⟩ := info_parts info42
  clear hE hC hft hto
  go_enter Tryd.func16, Tryd.ntmps16
  go_wp2_with (first | (go_at_call 28; refine CC.out.mono ?_; rintro e w1 ⟨rfl, hb1⟩; have HB1 : Hid (Below w.heap.size w w1) := hb1; obtain ⟨e1, e2, e3, e4, e5, e6⟩ := HE.out w1 HB1.out i hi; rw [hz] at e4; have hbw : b < w1.heap.size := Nat.lt_of_lt_of_le hb0 hb1.size; clear hb1) |
    (at_make; refine wpList_make_own _ rfl _ _ 23 rfl (w1.heap.size + 1) 42 i0 _ 6 Tryd.underlying23 hi0 hz0 hz1 .i64 .i64 _ (m + 1 + z) rfl rfl (by first | omega | (simp; omega) | rfl) ?m2 ?m3 ?m4 ?_))
  case m2 => rw [hz2]; omega
  case m3 => unfold maxLen; omega
  case m4 => simp
  intro w2 hown2 hgrow2
  have HG2 : Hid (Below (w1.heap.size + 1) (w1.alloc (.cells #[.int .i64 (E i).kind, .string (E i).name, .string (E i).value, .int .i64 (z : Int), .int .i64 0, .int .i64 (-1)] 42)) w2) := (Below.refl _ _).grown hgrow2 (by simp) (fun k hk => by cases hk)
  have HBX : Hid (Below w.heap.size w (w1.alloc (.cells #[.int .i64 (E i).kind, .string (E i).name, .string (E i).value, .int .i64 (z : Int), .int .i64 0, .int .i64 (-1)] 42))) := HB1.out.alloc HB1.out.size _
  have HTC : Hid (∀ W, Below (w1.heap.size + 1) (w1.alloc (.cells #[.int .i64 (E i).kind, .string (E i).name, .string (E i).value, .int .i64 (z : Int), .int .i64 0, .int .i64 (-1)] 42)) W → W.cell? ⟨w1.heap.size, 0, none⟩ = some (.int .i64 (E i).kind) ∧ W.cell? ⟨w1.heap.size, 1, none⟩ = some (.string (E i).name) ∧ W.cell? ⟨w1.heap.size, 2, none⟩ = some (.string (E i).value) ∧ W.cell? ⟨w1.heap.size, 3, none⟩ = some (.int .i64 (z : Int)) ∧ W.cell? ⟨w1.heap.size, 4, none⟩ = some (.int .i64 0) ∧ W.cell? ⟨w1.heap.size, 5, none⟩ = some (.int .i64 (-1))) := fun W hW => by
    have k : ∀ o, W.cell? ⟨w1.heap.size, o, none⟩ = _ := fun o => hW.cell (p := ⟨w1.heap.size, o, none⟩) (by simp)
    exact ⟨(k 0).trans (by simp), (k 1).trans (by simp), (k 2).trans (by simp), (k 3).trans (by simp), (k 4).trans (by simp), (k 5).trans (by simp)⟩
  have hX1 : (w1.alloc (.cells #[.int .i64 (E i).kind, .string (E i).name, .string (E i).value, .int .i64 (z : Int), .int .i64 0, .int .i64 (-1)] 42)).heap.size = w1.heap.size + 1 := by simp
  generalize w1.alloc (.cells #[.int .i64 (E i).kind, .string (E i).name, .string (E i).value, .int .i64 (z : Int), .int .i64 0, .int .i64 (-1)] 42) = X1 at *
  have hX1' : w1.heap.size + 1 ≤ X1.heap.size := by omega
  have HWX : Hid (∀ W, Below (w1.heap.size + 1) X1 W → Below w.heap.size w W) := fun W hW => HBX.out.trans (hW.mono (by have := HB1.out.size; omega))
  have HO2 : Hid (w2.ownsRow (w1.heap.size + 1) 42 6 (.slice (some ⟨w1.heap.size + 1, 0, none⟩) 0 (m + 1 + z)) 0 []) := hown2
  have hz2w : w1.heap.size + 1 ≤ w2.heap.size := by have := HG2.out.size; omega
  clear hown2 hgrow2 e1 e2 e3 e4 e5 e6
  go_wp2_with (first | (at_builtin; refine wpList_append_own _ rfl _ _ 23 rfl (w1.heap.size + 1) 42 i0 _ 6 64 Tryd.underlying23 hi0 hz0 hz1 hz2 rfl (by decide) _ _ _ rfl HO2.out a2 m cap2 (ndCells F m) rfl (ndCells_len F m) (HTO.out w2 (HWX.out w2 HG2.out)) (ndCells_one F m) ?c3 ?c4 ?c5 ?_))
  case c3 => unfold maxLen; omega
  case c4 => omega
  case c5 => exact hz2w
  intro v3 w3 hown3 hgrow3 _
  have HR3 : Hid (RowIs w3 (w1.heap.size + 1) v3 m (madeN E F i m (-1))) := by
    have h : RowIs w3 (w1.heap.size + 1) v3 m (madeN E F i m (-1)) := by
      unfold RowIs
      rw [ndCells_congr (E := madeN E F i m (-1)) (F := F) (fun j hj => madeN_old hj)]
      exact hown3
    exact h
  have HG3 : Hid (Below (w1.heap.size + 1) X1 w3) := HG2.out.grown hgrow3 hz2w (fun q hq => (HO2.out.lt q hq).1)
  clear hown3 hgrow3
  obtain ⟨a3, c3, rfl⟩ := HR3.out.shape
  have hz3w : w1.heap.size + 1 ≤ w3.heap.size := by have := HG3.out.size; omega
  obtain ⟨t1, t2, t3, t4, t5, t6⟩ := HTC.out w3 HG3.out
  go_wp2_with (first | (at_builtin; refine wpList_append_own _ rfl _ _ 23 rfl (w1.heap.size + 1) 42 i0 _ 6 64 Tryd.underlying23 hi0 hz0 hz1 hz2 rfl (by decide) _ _ _ rfl (HR3.out.alloc _) ⟨w3.heap.size, 0, none⟩ 1 1 (six ⟨(E i).kind, (E i).name, (E i).value, (z : Int), 0, (-1)⟩) rfl rfl (six_in w3.heap.size ⟨(E i).kind, (E i).name, (E i).value, (z : Int), 0, (-1)⟩) (six_one _) ?c3 (by omega) ?c5 ?_))
  case c3 => unfold maxLen; omega
  case c5 => first | omega | (simp; omega)
  intro v4 w4 hown4 hgrow4 _
  have HR4 : Hid (RowIs w4 (w1.heap.size + 1) v4 (m + 1) (madeN E F i m (-1))) := RowIs.pushed hown4 (by
    have h := madeN_new E F i m (-1) 0
    rw [Nat.add_zero] at h
    rw [h]
    unfold copyN
    rw [if_pos rfl, HTL.out, hz])
  have HG4 : Hid (Below (w1.heap.size + 1) X1 w4) := (HG3.out.alloc (by omega) _).grown hgrow4 (by first | omega | (simp; omega)) (fun q hq => (World.ownsRow.lt HR3.out q hq).1)
  clear hown4 hgrow4 t1 t2 t3 t4 t5 t6
  obtain ⟨a4, c4, rfl⟩ := HR4.out.shape
  go_wp2_with (first | (go_at_call 30; refine (CW.out _ (HWX.out _ HG4.out)).mono ?_; rintro e w5 ⟨o, c, rfl, hzc, hcm, hsub, rfl⟩; have HSUB : Hid (NdsAt X1 b o z (fun r => E (i + 1 + r))) := hsub.back HG4.out (by omega); clear hsub))
  go_loopw [12, 78] (fun o12 q wr => ∃ k : Nat, k ≤ z ∧ q = .int .i64 k ∧ RowIs wr (w1.heap.size + 1) o12 (m + 1 + k) (madeN E F i m (-1)) ∧ Below (w1.heap.size + 1) X1 wr) (fun _ q _ => z - (intOf q).toNat)
  case atStart => exact ⟨0, Nat.zero_le _, rfl, HR4.out, HG4.out⟩
  case round =>
    obtain ⟨k, hkz, rfl, hrow, hbr⟩ := hrel
    obtain ⟨a, cp, rfl⟩ := hrow.shape
    have HROW : Hid (RowIs wr (w1.heap.size + 1) (.slice a (m + 1 + k) cp) (m + 1 + k) (madeN E F i m (-1))) := hrow
    have HBR : Hid (Below (w1.heap.size + 1) X1 wr) := hbr
    have hzr : w1.heap.size + 1 ≤ wr.heap.size := by have := hbr.size; omega
    by_cases hlt : k < z
    · obtain ⟨e1, e2, e3, e4, e5, e6⟩ := HSUB.out.below hbr (by omega) k hlt
      obtain ⟨_, _, _, _, l5, _⟩ := HE.out wr (HWX.out wr hbr) i hi
      obtain ⟨_, _, _, _, t5, _⟩ := HTC.out wr hbr
      obtain ⟨pj, hp1, hp2, hp3⟩ := HLV.out k hlt
      have HMN : Hid (madeN E F i m (-1) (m + 1 + k) = ⟨(E (i + 1 + k)).kind, (E (i + 1 + k)).name, (E (i + 1 + k)).value, (E (i + 1 + k)).size, wrap64 ((E (i + 1 + k)).level + wrap64 (-(E i).level)), (pj : Int) + ((m : Int) - i)⟩) := by
        have e : madeN E F i m (-1) (m + 1 + k) = ⟨(E (i + 1 + k)).kind, (E (i + 1 + k)).name, (E (i + 1 + k)).value, (E (i + 1 + k)).size, wrap64 ((E (i + 1 + k)).level + wrap64 (-(E i).level)), (pj : Int) + ((m : Int) - i)⟩ := by
          have h := madeN_new E F i m (-1) (1 + k)
          rw [← Nat.add_assoc] at h
          rw [h]
          unfold copyN
          rw [if_neg (by omega), HTL.out, ← hp3, ← Nat.add_assoc, Int.zero_sub]
        exact e
      rw [hp3] at e6
      have hbz : b < wr.heap.size := by omega
      have hTz : w1.heap.size < wr.heap.size := by omega
      have hiI : (i : Int) < (n : Int) := by omega
      clear hrow hbr hp3
      go_wp2
      go_region
      all_goals
        go_wp2_with (first | (at_builtin; refine wpList_append_own _ rfl _ _ 23 rfl (w1.heap.size + 1) 42 i0 _ 6 64 Tryd.underlying23 hi0 hz0 hz1 hz2 rfl (by decide) _ _ _ rfl (((HROW.out.alloc _).heap rfl).alloc _) ⟨_, 0, none⟩ 1 1 (six ⟨(E (i + 1 + k)).kind, (E (i + 1 + k)).name, (E (i + 1 + k)).value, (E (i + 1 + k)).size, wrap64 ((E (i + 1 + k)).level + wrap64 (-(E i).level)), (pj : Int) + ((m : Int) - i)⟩) rfl rfl ?c2 (six_one _) ?c3 ?c4 ?c5 ?_))
        case c2 =>
          intro j u hj
          have h := six_in (w := wr.alloc (.cells #[.int .i64 (E (i + 1 + k)).kind, .string (E (i + 1 + k)).name, .string (E (i + 1 + k)).value, .int .i64 (E (i + 1 + k)).size, .int .i64 (wrap64 ((E (i + 1 + k)).level + wrap64 (-(E i).level))), .int .i64 ((pj : Int) + ((m : Int) - i))] 42)) 0 ⟨(E (i + 1 + k)).kind, (E (i + 1 + k)).name, (E (i + 1 + k)).value, (E (i + 1 + k)).size, wrap64 ((E (i + 1 + k)).level + wrap64 (-(E i).level)), (pj : Int) + ((m : Int) - i)⟩ j u hj
          simpa using h
        case c3 => unfold maxLen; omega
        case c4 => omega
        case c5 => first | omega | (simp; omega)
        intro v6 w6 hown6 hgrow6 _
        have HR6 : Hid (RowIs w6 (w1.heap.size + 1) v6 (m + 1 + k + 1) (madeN E F i m (-1))) := RowIs.pushed hown6 HMN.out
        have HG6 : Hid (Below (w1.heap.size + 1) X1 w6) := Below.grown (by repeat (first | exact HBR.out | apply below_alloc2 _ hX1' | apply Below.drew)) hgrow6 (by first | omega | (simp; omega)) (fun q hq => (World.ownsRow.lt HROW.out q hq).1)
        clear hown6 hgrow6
        go_wp2
        go_roundw
        case rel => exact ⟨k + 1, by omega, by go_num, HR6.out, HG6.out⟩
        case measure => simp [intOf]; omega
    · have e : k = z := by omega
      subst e
      clear hrow hbr
      go_wp2
      go_ret2
      exact ⟨_, rfl, HROW.out.is, HWX.out _ HBR.out⟩
set_option maxHeartbeats 3200000 in
set_option maxRecDepth 100000 in
theorem copy_none (b off n cap i z : Nat) (E F : Nat → Nd) (w : World) (m : Nat) (hm0 : m = 0) (hn : n ≤ 100000) (hcap : n ≤ cap) (hm : cap ≤ maxLen) (hi : i < n) (hE : NdsAt w b off n E) (hb0 : b < w.heap.size) (hft : fitTo E n n) (hz : (E i).size = (z : Int)) (hzn : i + 1 + z ≤ n)
    (hm2 : m + 1 + z ≤ 100000) (hk : ((E i).kind == 6) = false)
    (hC : Calls Tryd.prog 28 #[.slice (some ⟨b, off, none⟩) n cap, .int .i64 i] w fun e w' => e = .returned (.int .i64 0) ∧ Below w.heap.size w w') :
    Calls Tryd.prog 16 #[.slice (some ⟨b, off, none⟩) n cap, .int .i64 i, .slice none m 0, .int .i64 (-1)] w fun e w' => ∃ v, e = .returned (.tuple #[v, .int .i64 0]) ∧ NdsIs w' v (m + 1 + z) (madeN E F i m (-1)) ∧ Below w.heap.size w w' := by
  have HM0 : Hid (m = 0) := hm0
  clear hm0
  have CC : Hid (Calls Tryd.prog 28 #[.slice (some ⟨b, off, none⟩) n cap, .int .i64 i] w fun e w' => e = .returned (.int .i64 0) ∧ Below w.heap.size w w') := hC
  have HE : Hid (∀ W, Below w.heap.size w W → NdsAt W b off n E) := fun W hW => hE.below hW hb0
  have CW : Hid (∀ W, Below w.heap.size w W → Calls Tryd.prog 30 #[.slice (some ⟨b, off, none⟩) n cap, .int .i64 i] W fun e w' => ∃ o c, e = .returned (.slice (some ⟨b, o, none⟩) z c) ∧ z ≤ c ∧ c ≤ maxLen ∧ NdsAt w' b o z (fun r => E (i + 1 + r)) ∧ w' = W) :=
    fun W hW => within_any b off n cap i z E W hn hcap hm hi (hE.below hW hb0) hz hzn
  have HLV : Hid (∀ k, k < z → ∃ p : Nat, i ≤ p ∧ p < i + 1 + k ∧ (E (i + 1 + k)).parent = p) := fun k hk => by
    obtain ⟨p, h1, h2, h3, _⟩ := within_up hft hi (j := i + 1 + k) (by omega) (by omega)
    exact ⟨p, h1, h2, h3⟩
  have HTL : Hid (topLv F (-1) = 0) := rfl
  unfold maxLen at hm
  obtain ⟨i0, hi0, hz0, hz1, hz2⟩ := info_parts info42
  clear hE hC hft
  go_enter Tryd.func16, Tryd.ntmps16
  go_wp2_with (first | (go_at_call 28; refine CC.out.mono ?_; rintro e w1 ⟨rfl, hb1⟩; have HB1 : Hid (Below w.heap.size w w1) := hb1; obtain ⟨e1, e2, e3, e4, e5, e6⟩ := HE.out w1 HB1.out i hi; rw [hz] at e4; have hbw : b < w1.heap.size := Nat.lt_of_lt_of_le hb0 hb1.size; clear hb1) |
    (at_make; refine wpList_make_own _ rfl _ _ 23 rfl (w1.heap.size + 1) 42 i0 _ 6 Tryd.underlying23 hi0 hz0 hz1 .i64 .i64 _ (m + 1 + z) rfl rfl (by first | omega | (simp; omega) | rfl) ?m2 ?m3 ?m4 ?_))
  case m2 => rw [hz2]; omega
  case m3 => unfold maxLen; omega
  case m4 => simp
  intro w2 hown2 hgrow2
  have HG2 : Hid (Below (w1.heap.size + 1) (w1.alloc (.cells #[.int .i64 (E i).kind, .string (E i).name, .string (E i).value, .int .i64 (z : Int), .int .i64 0, .int .i64 (-1)] 42)) w2) := (Below.refl _ _).grown hgrow2 (by simp) (fun k hk => by cases hk)
  have HBX : Hid (Below w.heap.size w (w1.alloc (.cells #[.int .i64 (E i).kind, .string (E i).name, .string (E i).value, .int .i64 (z : Int), .int .i64 0, .int .i64 (-1)] 42))) := HB1.out.alloc HB1.out.size _
  have HTC : Hid (∀ W, Below (w1.heap.size + 1) (w1.alloc (.cells #[.int .i64 (E i).kind, .string (E i).name, .string (E i).value, .int .i64 (z : Int), .int .i64 0, .int .i64 (-1)] 42)) W → W.cell? ⟨w1.heap.size, 0, none⟩ = some (.int .i64 (E i).kind) ∧ W.cell? ⟨w1.heap.size, 1, none⟩ = some (.string (E i).name) ∧ W.cell? ⟨w1.heap.size, 2, none⟩ = some (.string (E i).value) ∧ W.cell? ⟨w1.heap.size, 3, none⟩ = some (.int .i64 (z : Int)) ∧ W.cell? ⟨w1.heap.size, 4, none⟩ = some (.int .i64 0) ∧ W.cell? ⟨w1.heap.size, 5, none⟩ = some (.int .i64 (-1))) := fun W hW => by
    have k : ∀ o, W.cell? ⟨w1.heap.size, o, none⟩ = _ := fun o => hW.cell (p := ⟨w1.heap.size, o, none⟩) (by simp)
    exact ⟨(k 0).trans (by simp), (k 1).trans (by simp), (k 2).trans (by simp), (k 3).trans (by simp), (k 4).trans (by simp), (k 5).trans (by simp)⟩
  have hX1 : (w1.alloc (.cells #[.int .i64 (E i).kind, .string (E i).name, .string (E i).value, .int .i64 (z : Int), .int .i64 0, .int .i64 (-1)] 42)).heap.size = w1.heap.size + 1 := by simp
  generalize w1.alloc (.cells #[.int .i64 (E i).kind, .string (E i).name, .string (E i).value, .int .i64 (z : Int), .int .i64 0, .int .i64 (-1)] 42) = X1 at *
  have hX1' : w1.heap.size + 1 ≤ X1.heap.size := by omega
  have HWX : Hid (∀ W, Below (w1.heap.size + 1) X1 W → Below w.heap.size w W) := fun W hW => HBX.out.trans (hW.mono (by have := HB1.out.size; omega))
  have HO2 : Hid (w2.ownsRow (w1.heap.size + 1) 42 6 (.slice (some ⟨w1.heap.size + 1, 0, none⟩) 0 (m + 1 + z)) 0 []) := hown2
  have hz2w : w1.heap.size + 1 ≤ w2.heap.size := by have := HG2.out.size; omega
  clear hown2 hgrow2 e1 e2 e3 e4 e5 e6
  have HR3 : Hid (RowIs w2 (w1.heap.size + 1) (.slice (some ⟨w1.heap.size + 1, 0, none⟩) 0 (m + 1 + z)) m (madeN E F i m (-1))) := by
    have h := HO2.out
    have h' : RowIs w2 (w1.heap.size + 1) (.slice (some ⟨w1.heap.size + 1, 0, none⟩) 0 (m + 1 + z)) m (madeN E F i m (-1)) := by
      unfold RowIs
      rw [HM0.out] at h ⊢
      exact h
    exact h'
  have HG3 : Hid (Below (w1.heap.size + 1) X1 w2) := HG2.out
  have HSL : Hid ((Value.slice none m 0) = .slice none 0 0) := by
    have h : (Value.slice none m 0) = .slice none 0 0 := by rw [HM0.out]
    exact h
  have hz3v : w1.heap.size + 1 ≤ w2.heap.size := by have := HG3.out.size; omega
  obtain ⟨t1, t2, t3, t4, t5, t6⟩ := HTC.out w2 HG3.out
  go_wp2_with (first | (at_builtin; refine wpList_append_own_none rfl _ _ 23 rfl (w1.heap.size + 1) 42 i0 6 Tryd.underlying23 hi0 _ _ _ rfl HO2.out HSL.out ?_) | (at_builtin; refine wpList_append_own _ rfl _ _ 23 rfl (w1.heap.size + 1) 42 i0 _ 6 64 Tryd.underlying23 hi0 hz0 hz1 hz2 rfl (by decide) _ _ _ rfl (HR3.out.alloc _) ⟨w2.heap.size, 0, none⟩ 1 1 (six ⟨(E i).kind, (E i).name, (E i).value, (z : Int), 0, (-1)⟩) rfl rfl (six_in w2.heap.size ⟨(E i).kind, (E i).name, (E i).value, (z : Int), 0, (-1)⟩) (six_one _) ?c3 (by omega) ?c5 ?_))
  case c3 => unfold maxLen; omega
  case c5 => first | omega | (simp; omega)
  intro v4 w4 hown4 hgrow4 _
  have HR4 : Hid (RowIs w4 (w1.heap.size + 1) v4 (m + 1) (madeN E F i m (-1))) := RowIs.pushed hown4 (by
    have h := madeN_new E F i m (-1) 0
    rw [Nat.add_zero] at h
    rw [h]
    unfold copyN
    rw [if_pos rfl, HTL.out, hz])
  have HG4 : Hid (Below (w1.heap.size + 1) X1 w4) := (HG3.out.alloc (by omega) _).grown hgrow4 (by first | omega | (simp; omega)) (fun q hq => (World.ownsRow.lt HR3.out q hq).1)
  clear hown4 hgrow4 t1 t2 t3 t4 t5 t6
  obtain ⟨a4, c4, rfl⟩ := HR4.out.shape
  go_wp2_with (first | (go_at_call 30; refine (CW.out _ (HWX.out _ HG4.out)).mono ?_; rintro e w5 ⟨o, c, rfl, hzc, hcm, hsub, rfl⟩; have HSUB : Hid (NdsAt X1 b o z (fun r => E (i + 1 + r))) := hsub.back HG4.out (by omega); clear hsub))
  go_loopw [12, 78] (fun o12 q wr => ∃ k : Nat, k ≤ z ∧ q = .int .i64 k ∧ RowIs wr (w1.heap.size + 1) o12 (m + 1 + k) (madeN E F i m (-1)) ∧ Below (w1.heap.size + 1) X1 wr) (fun _ q _ => z - (intOf q).toNat)
  case atStart => exact ⟨0, Nat.zero_le _, rfl, HR4.out, HG4.out⟩
  case round =>
    obtain ⟨k, hkz, rfl, hrow, hbr⟩ := hrel
    obtain ⟨a, cp, rfl⟩ := hrow.shape
    have HROW : Hid (RowIs wr (w1.heap.size + 1) (.slice a (m + 1 + k) cp) (m + 1 + k) (madeN E F i m (-1))) := hrow
    have HBR : Hid (Below (w1.heap.size + 1) X1 wr) := hbr
    have hzr : w1.heap.size + 1 ≤ wr.heap.size := by have := hbr.size; omega
    by_cases hlt : k < z
    · obtain ⟨e1, e2, e3, e4, e5, e6⟩ := HSUB.out.below hbr (by omega) k hlt
      obtain ⟨_, _, _, _, l5, _⟩ := HE.out wr (HWX.out wr hbr) i hi
      obtain ⟨_, _, _, _, t5, _⟩ := HTC.out wr hbr
      obtain ⟨pj, hp1, hp2, hp3⟩ := HLV.out k hlt
      have HMN : Hid (madeN E F i m (-1) (m + 1 + k) = ⟨(E (i + 1 + k)).kind, (E (i + 1 + k)).name, (E (i + 1 + k)).value, (E (i + 1 + k)).size, wrap64 ((E (i + 1 + k)).level + wrap64 (-(E i).level)), (pj : Int) + ((m : Int) - i)⟩) := by
        have e : madeN E F i m (-1) (m + 1 + k) = ⟨(E (i + 1 + k)).kind, (E (i + 1 + k)).name, (E (i + 1 + k)).value, (E (i + 1 + k)).size, wrap64 ((E (i + 1 + k)).level + wrap64 (-(E i).level)), (pj : Int) + ((m : Int) - i)⟩ := by
          have h := madeN_new E F i m (-1) (1 + k)
          rw [← Nat.add_assoc] at h
          rw [h]
          unfold copyN
          rw [if_neg (by omega), HTL.out, ← hp3, ← Nat.add_assoc, Int.zero_sub]
        exact e
      rw [hp3] at e6
      have hbz : b < wr.heap.size := by omega
      have hTz : w1.heap.size < wr.heap.size := by omega
      have hiI : (i : Int) < (n : Int) := by omega
      clear hrow hbr hp3
      go_wp2
      go_region
      all_goals
        go_wp2_with (first | (at_builtin; refine wpList_append_own _ rfl _ _ 23 rfl (w1.heap.size + 1) 42 i0 _ 6 64 Tryd.underlying23 hi0 hz0 hz1 hz2 rfl (by decide) _ _ _ rfl (((HROW.out.alloc _).heap rfl).alloc _) ⟨_, 0, none⟩ 1 1 (six ⟨(E (i + 1 + k)).kind, (E (i + 1 + k)).name, (E (i + 1 + k)).value, (E (i + 1 + k)).size, wrap64 ((E (i + 1 + k)).level + wrap64 (-(E i).level)), (pj : Int) + ((m : Int) - i)⟩) rfl rfl ?c2 (six_one _) ?c3 ?c4 ?c5 ?_))
        case c2 =>
          intro j u hj
          have h := six_in (w := wr.alloc (.cells #[.int .i64 (E (i + 1 + k)).kind, .string (E (i + 1 + k)).name, .string (E (i + 1 + k)).value, .int .i64 (E (i + 1 + k)).size, .int .i64 (wrap64 ((E (i + 1 + k)).level + wrap64 (-(E i).level))), .int .i64 ((pj : Int) + ((m : Int) - i))] 42)) 0 ⟨(E (i + 1 + k)).kind, (E (i + 1 + k)).name, (E (i + 1 + k)).value, (E (i + 1 + k)).size, wrap64 ((E (i + 1 + k)).level + wrap64 (-(E i).level)), (pj : Int) + ((m : Int) - i)⟩ j u hj
          simpa using h
        case c3 => unfold maxLen; omega
        case c4 => omega
        case c5 => first | omega | (simp; omega)
        intro v6 w6 hown6 hgrow6 _
        have HR6 : Hid (RowIs w6 (w1.heap.size + 1) v6 (m + 1 + k + 1) (madeN E F i m (-1))) := RowIs.pushed hown6 HMN.out
        have HG6 : Hid (Below (w1.heap.size + 1) X1 w6) := Below.grown (by repeat (first | exact HBR.out | apply below_alloc2 _ hX1' | apply Below.drew)) hgrow6 (by first | omega | (simp; omega)) (fun q hq => (World.ownsRow.lt HROW.out q hq).1)
        clear hown6 hgrow6
        go_wp2
        go_roundw
        case rel => exact ⟨k + 1, by omega, by go_num, HR6.out, HG6.out⟩
        case measure => simp [intOf]; omega
    · have e : k = z := by omega
      subst e
      clear hrow hbr
      go_wp2
      go_ret2
      exact ⟨_, rfl, HROW.out.is, HWX.out _ HBR.out⟩
end Go.Proofs.YtpccfjoklinaiaaDoor
