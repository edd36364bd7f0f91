/-
  THE LAW ApplyRelations.
-/
import Derived.Test.YtmoeipdchapodaaGreatDoorRuRelE
set_option linter.unusedVariables false
namespace Go.Proofs.YtmoeipdchapodaaGreatDoor
set_option maxRecDepth 100000
open Go.RowKit Go.WideShapes

theorem six_str {w : World} {b k : Nat} (h : w.heap[b]? = some (.cells #[.string ⟨#[60]⟩, .string ⟨#[61]⟩, .string ⟨#[62]⟩, .string ⟨#[60, 61]⟩, .string ⟨#[62, 61]⟩, .string ⟨#[33, 61]⟩] 9)) (hk : k < 6) : w.cell? ⟨b, k, none⟩ = some (.string (opT k)) := by
  rw [Lib.cell_of_heap h]
  obtain rfl | rfl | rfl | rfl | rfl | rfl : k = 0 ∨ k = 1 ∨ k = 2 ∨ k = 3 ∨ k = 4 ∨ k = 5 := by omega
  all_goals rfl
set_option maxHeartbeats 12800000 in
theorem lawRel0 (a b : Int) (w : World) (ha : -9223372036854775808 ≤ a ∧ a ≤ 9223372036854775807) (hb : -9223372036854775808 ≤ b ∧ b ≤ 9223372036854775807) (hw : RelEnv w) :
    Calls Tryz.prog 4 #[.int .i64 a, .int .i64 b, .bool false] w fun e w' => e = .returned (.bool true) ∧ Below w.heap.size w w' := by
  have CN : Hid (∀ W n, Calls Tryz.prog 7 #[.int .i64 n] W fun e w' => e = .returned (.agg #[.int .i64 2, .int .i64 n, .string ⟨#[]⟩]) ∧ w' = W.alloc (.cells #[.int .i64 2, .int .i64 n, .string ⟨#[]⟩] 24)) := fun W n => number_is n W
  have CW : Hid (∀ W s, Calls Tryz.prog 8 #[.string s] W fun e w' => e = .returned (.agg #[.int .i64 3, .int .i64 0, .string s]) ∧ w' = W.alloc (.cells #[.int .i64 3, .int .i64 0, .string s] 24)) := fun W s => words_is s W
  have CA : Hid (∀ W, Calls Tryz.prog 5 #[.int .i64 a, .int .i64 9] W fun e w' => e = .returned (.int .i64 (pk a 9)) ∧ w' = W) := fun W => picked_is a 9 W ha (by decide) (by decide)
  have CB : Hid (∀ W, Calls Tryz.prog 5 #[.int .i64 b, .int .i64 9] W fun e w' => e = .returned (.int .i64 (pk b 9)) ∧ w' = W) := fun W => picked_is b 9 W hb (by decide) (by decide)
  have HW := hidR hw
  clear hw
  obtain ⟨xa, xb⟩ := pk_in (a := a) (m := 9) (by decide)
  obtain ⟨ya, yb⟩ := pk_in (a := b) (m := 9) (by decide)
  generalize pk a 9 = A0 at *
  generalize pk b 9 = B0 at *
  have hA : -4 ≤ A0 - 4 ∧ A0 - 4 ≤ 4 := by omega
  have hB : -4 ≤ B0 - 4 ∧ B0 - 4 ≤ 4 := by omega
  go_enter Tryz.func4, Tryz.ntmps4
  go_upto_region 7 with (first
    | (go_at_call 5; refine (CA.out _).mono ?_; rintro e w1 ⟨rfl, hw1⟩; obtain rfl := hw1.symm; clear CA)
    | (go_at_call 5; refine (CB.out _).mono ?_; rintro e w1 ⟨rfl, hw1⟩; obtain rfl := hw1.symm; clear CB)
    | (go_at_call 7; refine (CN.out _ _).mono ?_; rintro e w1 ⟨rfl, hw1⟩; subst hw1))
  obtain ⟨A, hAe⟩ : ∃ A, A = A0 - 4 := ⟨_, rfl⟩
  obtain ⟨B, hBe⟩ : ∃ B, B = B0 - 4 := ⟨_, rfl⟩
  rw [← hAe] at hA ⊢
  rw [← hBe] at hB ⊢
  clear hAe hBe xa xb ya yb
  obtain ⟨W2, hW2⟩ : ∃ W, W = (((w.alloc (.cells #[.int .i64 2, .int .i64 A, .string ⟨#[]⟩] 24)).alloc (.cells #[.int .i64 2, .int .i64 A, .string ⟨#[]⟩] 24)).alloc (.cells #[.int .i64 2, .int .i64 B, .string ⟨#[]⟩] 24)).alloc (.cells #[.int .i64 2, .int .i64 B, .string ⟨#[]⟩] 24) := ⟨_, rfl⟩
  have HB2 : Hid (Below w.heap.size w W2) := by rw [hW2]; (focus (repeat (first | exact Below.refl _ _ | exact Hid.out (by assumption) | refine Below.setCell ?_ (by first | omega | (simp <;> omega)) _ | refine Below.alloc ?_ (by first | omega | (simp <;> omega)) _)))
  have HX2 : Hid (W2.heap[w.heap.size + 1]? = some (.cells #[.int .i64 2, .int .i64 A, .string ⟨#[]⟩] 24)) := by rw [hW2]; exact alloc_old (alloc_old (alloc_newN (by simp)))
  have HY2 : Hid (W2.heap[w.heap.size + 1 + 1 + 1]? = some (.cells #[.int .i64 2, .int .i64 B, .string ⟨#[]⟩] 24)) := by rw [hW2]; exact alloc_newN (by simp)
  rw [← hW2]
  clear hW2
  obtain ⟨T7, hT7⟩ : ∃ T, T = w.heap.size + 1 := ⟨_, rfl⟩
  obtain ⟨T8, hT8⟩ : ∃ T, T = w.heap.size + 1 + 1 + 1 := ⟨_, rfl⟩
  rw [← hT8] at HY2 ⊢
  rw [← hT7] at HX2 ⊢
  have h7 : w.heap.size ≤ T7 := by omega
  have h8 : w.heap.size ≤ T8 := by omega
  have h78 : T7 < T8 := by omega
  clear hT7 hT8
  have V : Hid (∀ k, k < 6 → ValueAt w (opT k) (numI A) (numI B) (boolI (bt (ordN A B) k)) 0) := fun k hk => value_at (by have := op_size hk; unfold maxLen; omega) (num_size _) (num_size _) (rel_num HW.out hA hB hk)
  have HX3 : Hid (W2.heap[T7]? = some (.cells #[.int .i64 (numI A).kind, .int .i64 (numI A).n, .string (numI A).s] 24)) := HX2.out
  have HY3 : Hid (W2.heap[T8]? = some (.cells #[.int .i64 (numI B).kind, .int .i64 (numI B).n, .string (numI B).s] 24)) := HY2.out
  have HB3 := HB2
  clear HX2 HY2 HB2
  generalize numI B = y at *
  generalize W2 = W3 at *
  have V1 : Hid (ValueAt w ⟨#[61]⟩ (numI A) (txtI oneT) (boolI false) 0) := value_at (by decide) (num_size _) (by decide) (rel_one HW.out hA (k := 1) (by decide))
  have V2 : Hid (ValueAt w ⟨#[33, 61]⟩ (numI A) (txtI oneT) (boolI true) 0) := value_at (by decide) (num_size _) (by decide) (rel_one HW.out hA (k := 5) (by decide))
  have HC3 := hidR (ord_three A B)
  generalize ordN A B = c at *
  generalize numI A = x at *
  clear HW hA hB CN
  go_wp2_with fail
  obtain ⟨W4, hW4⟩ : ∃ W, W = W3.alloc (.cells #[.string ⟨#[60]⟩, .string ⟨#[61]⟩, .string ⟨#[62]⟩, .string ⟨#[60, 61]⟩, .string ⟨#[62, 61]⟩, .string ⟨#[33, 61]⟩] 9) := ⟨_, rfl⟩
  have HB4 : Hid (Below w.heap.size w W4) := by rw [hW4]; exact HB3.out.alloc HB3.out.size _
  have HX4 : Hid (W4.heap[T7]? = some (.cells #[.int .i64 x.kind, .int .i64 x.n, .string x.s] 24)) := by rw [hW4]; exact alloc_old HX3.out
  have HY4 : Hid (W4.heap[T8]? = some (.cells #[.int .i64 y.kind, .int .i64 y.n, .string y.s] 24)) := by rw [hW4]; exact alloc_old HY3.out
  have HS4 : Hid (W4.heap[W3.heap.size]? = some (.cells #[.string ⟨#[60]⟩, .string ⟨#[61]⟩, .string ⟨#[62]⟩, .string ⟨#[60, 61]⟩, .string ⟨#[62, 61]⟩, .string ⟨#[33, 61]⟩] 9)) := by rw [hW4]; exact alloc_newN rfl
  have h9 : w.heap.size ≤ W3.heap.size := HB3.out.size
  rw [← hW4]
  clear hW4 HB3 HX3 HY3
  generalize W3.heap.size = SB at *
  go_loopw [9, 10, 34] (fun n yes i wr => ∃ k : Nat, k ≤ 6 ∧ i = .int .i64 k ∧ n = .int .i64 (nY c k) ∧ yes = .string (sY c k) ∧ Below w.heap.size w wr ∧ wr.heap[T7]? = some (.cells #[.int .i64 x.kind, .int .i64 x.n, .string x.s] 24) ∧ wr.heap[T8]? = some (.cells #[.int .i64 y.kind, .int .i64 y.n, .string y.s] 24) ∧ wr.heap[SB]? = some (.cells #[.string ⟨#[60]⟩, .string ⟨#[61]⟩, .string ⟨#[62]⟩, .string ⟨#[60, 61]⟩, .string ⟨#[62, 61]⟩, .string ⟨#[33, 61]⟩] 9)) (fun _ _ i _ => 6 - (intOf i).toNat)
  case atStart => exact ⟨0, by decide, rfl, rfl, rfl, HB4.out, HX4.out, HY4.out, HS4.out⟩
  case round =>
    obtain ⟨k, hk, rfl, rfl, rfl, hbr, hxr, hyr, hsr⟩ := hrel
    have HBR := hidR hbr
    have HXR := hidR hxr
    have HBwr := hidR hbr
    have HXwr := hidR hxr
    have HYR := hidR hyr
    have HSR := hidR hsr
    obtain ⟨p0, p1, p2, _, _, _, p3⟩ := blk3 hxr
    obtain ⟨q0, q1, q2, _, _, _, q3⟩ := blk3 hyr
    have hzr := hbr.size
    have hsz : SB < wr.heap.size := (Array.getElem?_eq_some_iff.1 hsr).1
    clear hbr hxr hyr hsr
    by_cases hlt : k < 6
    · have s0 := six_str HSR.out hlt
      have hki : (k : Int) < 6 := by omega
      cases hbt : bt c k
      · have VK : Hid (∀ W g, Below w.heap.size w W → W.heap[g]? = some (.cells #[.int .i64 x.kind, .int .i64 x.n, .string x.s, .int .i64 y.kind, .int .i64 y.n, .string y.s] 24) → Calls Tryz.prog 6 #[.string (opT k), .slice (some ⟨g, 0, none⟩) 2 2] W fun e w' => e = .returned (.tuple #[.agg #[.int .i64 4, .int .i64 0, .string ⟨#[]⟩], .int .i64 0]) ∧ Below W.heap.size W w') := by
          have h := V.out k hlt
          rw [hbt] at h
          exact h
        have HN : Hid (nY c (k + 1) = nY c k + 0) := by show nY c k + (if bt c k then 1 else 0) = _; rw [hbt]; rfl
        have HSY : Hid (sY c (k + 1) = sY c k) := by show (if bt c k then sY c k ++ opT k else sY c k) = _; rw [hbt]; rfl
        obtain ⟨n1, n2⟩ := nY_le c k
        have hss : ¬ 9223372036854775807 < (sY c k).size + (opT k).size := by have := sY_le c k hk; have := op_size hlt; omega
        clear hbt
        generalize nY c k = n0 at *
        generalize sY c k = s1 at *
        generalize opT k = o1 at *
        go_wp2_with (go_at_call 6; refine (VK.out _ _ ?_ ?_).mono ?_; (· exact HBR.out.alloc hzr _); (· exact alloc_newN rfl); rintro e w5 ⟨rfl, hb5⟩; have HB5 : Hid (Below w.heap.size w w5) := Below.trans (HBR.out.alloc hzr _) (hb5.mono (by simp; omega)); have HX5 : Hid (w5.heap[T7]? = some (.cells #[.int .i64 x.kind, .int .i64 x.n, .string x.s] 24)) := (hb5.block _ (by simp; omega)).trans (alloc_old HXR.out); have HY5 : Hid (w5.heap[T8]? = some (.cells #[.int .i64 y.kind, .int .i64 y.n, .string y.s] 24)) := (hb5.block _ (by simp; omega)).trans (alloc_old HYR.out); have HS5 := hidR ((hb5.block _ (by simp; omega)).trans (alloc_old HSR.out)); have hz5 := HB5.out.size; clear hb5)
        go_roundw
        case rel => exact ⟨k + 1, by omega, by go_num, by rw [HN.out]; simp, by rw [HSY.out], HB5.out.alloc hz5 _, alloc_old HX5.out, alloc_old HY5.out, alloc_old HS5.out⟩
        case measure => simp [intOf]; omega
      · have VK : Hid (∀ W g, Below w.heap.size w W → W.heap[g]? = some (.cells #[.int .i64 x.kind, .int .i64 x.n, .string x.s, .int .i64 y.kind, .int .i64 y.n, .string y.s] 24) → Calls Tryz.prog 6 #[.string (opT k), .slice (some ⟨g, 0, none⟩) 2 2] W fun e w' => e = .returned (.tuple #[.agg #[.int .i64 4, .int .i64 1, .string ⟨#[]⟩], .int .i64 0]) ∧ Below W.heap.size W w') := by
          have h := V.out k hlt
          rw [hbt] at h
          exact h
        have HN : Hid (nY c (k + 1) = nY c k + 1) := by show nY c k + (if bt c k then 1 else 0) = _; rw [hbt]; rfl
        have HSY : Hid (sY c (k + 1) = sY c k ++ opT k) := by show (if bt c k then sY c k ++ opT k else sY c k) = _; rw [hbt]; rfl
        obtain ⟨n1, n2⟩ := nY_le c k
        have hss : ¬ 9223372036854775807 < (sY c k).size + (opT k).size := by have := sY_le c k hk; have := op_size hlt; omega
        clear hbt
        generalize nY c k = n0 at *
        generalize sY c k = s1 at *
        generalize opT k = o1 at *
        go_wp2_with (go_at_call 6; refine (VK.out _ _ ?_ ?_).mono ?_; (· exact HBR.out.alloc hzr _); (· exact alloc_newN rfl); rintro e w5 ⟨rfl, hb5⟩; have HB5 : Hid (Below w.heap.size w w5) := Below.trans (HBR.out.alloc hzr _) (hb5.mono (by simp; omega)); have HX5 : Hid (w5.heap[T7]? = some (.cells #[.int .i64 x.kind, .int .i64 x.n, .string x.s] 24)) := (hb5.block _ (by simp; omega)).trans (alloc_old HXR.out); have HY5 : Hid (w5.heap[T8]? = some (.cells #[.int .i64 y.kind, .int .i64 y.n, .string y.s] 24)) := (hb5.block _ (by simp; omega)).trans (alloc_old HYR.out); have HS5 := hidR ((hb5.block _ (by simp; omega)).trans (alloc_old HSR.out)); have hz5 := HB5.out.size; clear hb5)
        go_roundw
        case rel => exact ⟨k + 1, by omega, by go_num, by rw [HN.out], by rw [HSY.out], HB5.out.alloc hz5 _, alloc_old HX5.out, alloc_old HY5.out, alloc_old HS5.out⟩
        case measure => simp [intOf]; omega
    · obtain rfl : k = 6 := by omega
      obtain ⟨e1, e2⟩ := three_said HC3.out
      rw [e1]
      have HE2 := hidR e2
      clear e1 e2 hlt
      generalize sY c 6 = s6 at *
      clear q0 q1 q2 q3 p0 p1 p2
      go_upto_region 17 with fail
      have VK : Hid (∀ W g, Below w.heap.size w W → W.heap[g]? = some (.cells #[.int .i64 x.kind, .int .i64 x.n, .string x.s, .int .i64 3, .int .i64 0, .string ⟨#[111, 110, 101]⟩] 24) → Calls Tryz.prog 6 #[.string ⟨#[61]⟩, .slice (some ⟨g, 0, none⟩) 2 2] W fun e w' => e = .returned (.tuple #[.agg #[.int .i64 4, .int .i64 0, .string ⟨#[]⟩], .int .i64 0]) ∧ Below W.heap.size W w') := V1.out
      have h7P : T7 < wr.heap.size := (Array.getElem?_eq_some_iff.1 HXwr.out).1
      have hzP := HBwr.out.size
      refine wp_region_slots (by kernel_rfl) (fun j v W => (match j with | 0 => v = (.agg #[.int .i64 x.kind, .int .i64 x.n, .string x.s]) | 1 => v = (.agg #[.int .i64 3, .int .i64 0, .string ⟨#[111, 110, 101]⟩]) | 3 => v = (.tuple #[.agg #[.int .i64 4, .int .i64 0, .string ⟨#[]⟩], .int .i64 0]) | 4 => v = (.tuple #[.agg #[.int .i64 4, .int .i64 0, .string ⟨#[]⟩], .int .i64 0]) | 5 => v = (.agg #[.int .i64 4, .int .i64 0, .string ⟨#[]⟩]) | 6 => v = .int .i64 0 | 9 => v = .int .i64 0 | _ => True) ∧ (j = 2 → ∃ N, v = .slice (some ⟨N, 0, none⟩) 2 2 ∧ W.heap[N]? = some (.cells #[.int .i64 x.kind, .int .i64 x.n, .string x.s, .int .i64 3, .int .i64 0, .string ⟨#[111, 110, 101]⟩] 24))) (fun l a W => (Below w.heap.size w W ∧ wr.heap.size ≤ W.heap.size) ∧ W.heap[T7]? = some (.cells #[.int .i64 x.kind, .int .i64 x.n, .string x.s] 24) ∧ (l.getD 7 false = true → ∃ T, a.tmps[15]? = some (.pointer (some ⟨T, 0, none⟩)) ∧ wr.heap.size ≤ T ∧ W.heap[T]? = some (if l.getD 8 false = true then (.cells #[.int .i64 4, .int .i64 0, .string ⟨#[]⟩] 24) else (.cells #[.int .i64 0, .int .i64 0, .string ⟨#[]⟩] 24)))) (by kernel_rfl) (by kernel_rfl) ⟨⟨HBwr.out.trans (drew_belowE _ _), Nat.le_refl _⟩, HXwr.out, fun e7 => by rw [Array.getD_eq_getD_getElem?, Array.getElem?_replicate] at e7; split at e7 <;> cases e7⟩ ?_ ?_
      · intro l a W i o hsz h ho hl haf
        obtain ⟨⟨g1, g0⟩, g2, g3⟩ := h.more
        have gz := g1.size
        have hi : i < 10 := (Array.getElem?_eq_some_iff.1 ho).1
        obtain rfl | rfl | rfl | rfl | rfl | rfl | rfl | rfl | rfl | rfl : i = 0 ∨ i = 1 ∨ i = 2 ∨ i = 3 ∨ i = 4 ∨ i = 5 ∨ i = 6 ∨ i = 7 ∨ i = 8 ∨ i = 9 := by omega
        all_goals (obtain rfl := Option.some.inj ho; rw [if_pos (want_none rfl)])
        · have e8 := h.given 7 _ rfl (by kernel_rfl)
          obtain ⟨c0, c1, c2, _⟩ := blk3 g2
          refine wp_val (v := .agg #[.int .i64 x.kind, .int .i64 x.n, .string x.s]) (w' := W) ?_ ⟨_, rfl, ⟨rfl, fun e => absurd e (by decide)⟩, fun _ _ h => h, ⟨g1, g0⟩, g2, fun e7 => ?_⟩
          · unfold execOp
            simp [e8, go_sem, c0, c1, c2]
          · rw [set_other_get (by decide)] at e7
            obtain ⟨T, t1, t2, t3⟩ := g3 e7
            exact ⟨T, (put_other (by decide)).trans t1, t2, by rw [set_other_get (by decide)]; exact t3⟩
        · refine wp_enter (f := 8) (args := #[.string ⟨#[111, 110, 101]⟩]) (w' := W) ?_ ((CW.out W _).mono ?_)
          · unfold execOp
            simp [go_sem]
          · rintro e W' ⟨rfl, rfl⟩
            refine ⟨_, rfl, _, rfl, ⟨rfl, fun e => absurd e (by decide)⟩, fun j u hd => ⟨hd.1, fun e => by obtain ⟨N, n1, n2⟩ := hd.2 e; exact ⟨N, n1, alloc_old n2⟩⟩, ⟨g1.alloc gz _, by simp; omega⟩, alloc_old g2, fun e7 => ?_⟩
            rw [set_other_get (by decide)] at e7
            obtain ⟨T, t1, t2, t3⟩ := g3 e7
            exact ⟨T, (put_other (by decide)).trans t1, t2, by rw [set_other_get (by decide)]; exact alloc_old t3⟩
        · obtain ⟨u1, e1, d1⟩ := h.new 0 _ 60 rfl rfl (haf ⟨0, .data⟩ (by simp) rfl)
          obtain ⟨u2, e2, d2⟩ := h.new 1 _ 61 rfl rfl (haf ⟨1, .data⟩ (by simp) rfl)
          have d1' : u1 = (.agg #[.int .i64 x.kind, .int .i64 x.n, .string x.s]) := d1.1
          have d2' : u2 = (.agg #[.int .i64 3, .int .i64 0, .string ⟨#[111, 110, 101]⟩]) := d2.1
          subst d1' d2'
          refine wp_val (v := .slice (some ⟨W.heap.size, 0, none⟩) 2 2) (w' := W.alloc (.cells #[.int .i64 x.kind, .int .i64 x.n, .string x.s, .int .i64 3, .int .i64 0, .string ⟨#[111, 110, 101]⟩] 24)) ?_ ⟨_, rfl, ⟨trivial, fun _ => ⟨_, rfl, alloc_newN rfl⟩⟩, fun j u hd => ⟨hd.1, fun e => by obtain ⟨N, n1, n2⟩ := hd.2 e; exact ⟨N, n1, alloc_old n2⟩⟩, ⟨g1.alloc gz _, by simp; omega⟩, alloc_old g2, fun e7 => ?_⟩
          · unfold execOp
            simp [e1, e2, go_sem]
          · rw [set_other_get (by decide)] at e7
            obtain ⟨T, t1, t2, t3⟩ := g3 e7
            exact ⟨T, (put_other (by decide)).trans t1, t2, by rw [set_other_get (by decide)]; exact alloc_old t3⟩
        · obtain ⟨u1, e1, d1⟩ := h.new 2 _ 62 rfl rfl (haf ⟨2, .data⟩ (by simp) rfl)
          obtain ⟨N, rfl, n2⟩ := d1.2 rfl
          refine wp_enter (f := 6) (args := #[.string ⟨#[61]⟩, .slice (some ⟨N, 0, none⟩) 2 2]) (w' := W) ?_ ((VK.out W N g1 n2).mono ?_)
          · unfold execOp
            simp [e1, go_sem]
          · rintro e W' ⟨rfl, hb⟩
            refine ⟨_, rfl, _, rfl, ⟨rfl, fun e => absurd e (by decide)⟩, fun j u hd => ⟨hd.1, fun e => by obtain ⟨N, n1, n2⟩ := hd.2 e; exact ⟨N, n1, blk_below hb (Array.getElem?_eq_some_iff.1 n2).1 n2⟩⟩, ⟨g1.trans (hb.mono gz), Nat.le_trans g0 hb.size⟩, blk_below hb (Array.getElem?_eq_some_iff.1 g2).1 g2, fun e7 => ?_⟩
            rw [set_other_get (by decide)] at e7
            obtain ⟨T, t1, t2, t3⟩ := g3 e7
            exact ⟨T, (put_other (by decide)).trans t1, t2, by rw [set_other_get (by decide)]; exact blk_below hb (Array.getElem?_eq_some_iff.1 t3).1 t3⟩
        · obtain ⟨u1, e1, d1⟩ := h.new 3 _ 63 rfl rfl (haf ⟨3, .data⟩ (by simp) rfl)
          have d1' : u1 = (.tuple #[.agg #[.int .i64 4, .int .i64 0, .string ⟨#[]⟩], .int .i64 0]) := d1.1
          subst d1'
          refine wp_val (v := .tuple #[.agg #[.int .i64 4, .int .i64 0, .string ⟨#[]⟩], .int .i64 0]) (w' := W) ?_ ⟨_, rfl, ⟨rfl, fun e => absurd e (by decide)⟩, fun _ _ h => h, ⟨g1, g0⟩, g2, fun e7 => ?_⟩
          · unfold execOp
            simp [e1, go_sem]
          · rw [set_other_get (by decide)] at e7
            obtain ⟨T, t1, t2, t3⟩ := g3 e7
            exact ⟨T, (put_other (by decide)).trans t1, t2, by rw [set_other_get (by decide)]; exact t3⟩
        · obtain ⟨u1, e1, d1⟩ := h.new 4 _ 59 rfl rfl (haf ⟨4, .data⟩ (by simp) rfl)
          have d1' : u1 = (.tuple #[.agg #[.int .i64 4, .int .i64 0, .string ⟨#[]⟩], .int .i64 0]) := d1.1
          subst d1'
          refine wp_val (v := .agg #[.int .i64 4, .int .i64 0, .string ⟨#[]⟩]) (w' := W) ?_ ⟨_, rfl, ⟨rfl, fun e => absurd e (by decide)⟩, fun _ _ h => h, ⟨g1, g0⟩, g2, fun e7 => ?_⟩
          · unfold execOp
            simp [e1, go_sem]
          · rw [set_other_get (by decide)] at e7
            obtain ⟨T, t1, t2, t3⟩ := g3 e7
            exact ⟨T, (put_other (by decide)).trans t1, t2, by rw [set_other_get (by decide)]; exact t3⟩
        · obtain ⟨u1, e1, d1⟩ := h.new 4 _ 59 rfl rfl (haf ⟨4, .data⟩ (by simp) rfl)
          have d1' : u1 = (.tuple #[.agg #[.int .i64 4, .int .i64 0, .string ⟨#[]⟩], .int .i64 0]) := d1.1
          subst d1'
          refine wp_val (v := .int .i64 0) (w' := W) ?_ ⟨_, rfl, ⟨rfl, fun e => absurd e (by decide)⟩, fun _ _ h => h, ⟨g1, g0⟩, g2, fun e7 => ?_⟩
          · unfold execOp
            simp [e1, go_sem]
          · rw [set_other_get (by decide)] at e7
            obtain ⟨T, t1, t2, t3⟩ := g3 e7
            exact ⟨T, (put_other (by decide)).trans t1, t2, by rw [set_other_get (by decide)]; exact t3⟩
        · have n8 := h.later 8 7 _ ⟨7, .data⟩ rfl (by simp) rfl rfl hl
          refine wp_val (v := .pointer (some ⟨W.heap.size, 0, none⟩)) (w' := W.alloc (.cells #[.int .i64 0, .int .i64 0, .string ⟨#[]⟩] 24)) ?_ ⟨_, rfl, ⟨trivial, fun e => absurd e (by decide)⟩, fun j u hd => ⟨hd.1, fun e => by obtain ⟨N, n1, n2⟩ := hd.2 e; exact ⟨N, n1, alloc_old n2⟩⟩, ⟨g1.alloc gz _, by simp; omega⟩, alloc_old g2, fun e7 => ⟨W.heap.size, put_this (by rw [h.size]; exact (by decide : (15 : Nat) < 105)), ?_, ?_⟩⟩
          · unfold execOp
            simp [go_sem]
          · exact g0
          · rw [set_other_get (by decide), n8, if_neg (by decide)]; exact alloc_newN rfl
        · obtain ⟨u1, e1, d1⟩ := h.new 5 _ 64 rfl rfl (haf ⟨5, .data⟩ (by simp) rfl)
          have d1' : u1 = (.agg #[.int .i64 4, .int .i64 0, .string ⟨#[]⟩]) := d1.1
          subst d1'
          obtain ⟨T, t1, t2, t3⟩ := g3 (haf ⟨7, .data⟩ (by simp) rfl)
          have n8 : l.getD 8 false = false := by rw [Array.getD_eq_getD_getElem?] at hl ⊢; cases hx : l[8]? with | none => rfl | some bb => rw [hx] at hl; exact hl
          rw [n8, if_neg (by decide)] at t3
          obtain ⟨c0, c1, c2, k0, k1, k2, _⟩ := blk3 t3
          refine wp_skip (w' := ((W.setCell ⟨T, 0, none⟩ (.int .i64 4)).setCell ⟨T, 1, none⟩ (.int .i64 0)).setCell ⟨T, 2, none⟩ (.string ⟨#[]⟩)) ?_ ⟨_, rfl, ⟨trivial, fun e => absurd e (by decide)⟩, fun j u hd => ⟨hd.1, fun e => by
            obtain ⟨N, n1, n2⟩ := hd.2 e
            have hne : N ≠ T := by rintro rfl; rw [n2] at t3; simp at t3
            exact ⟨N, n1, set_other (set_other (set_other n2 hne) hne) hne⟩⟩, ⟨((g1.setCell (by simp only []; omega) _).setCell (by simp only []; omega) _).setCell (by simp only []; omega) _, by simpa using g0⟩, set_other (set_other (set_other g2 (by omega)) (by omega)) (by omega), fun e7 => ⟨T, t1, t2, ?_⟩⟩
          · unfold execOp
            simp [e1, t1, go_sem, c0, c1, c2, k0, k1, k2]
          · rw [set_this_get hsz (by decide), if_pos rfl]; exact set_same (set_same (set_same t3 0 _) 1 _) 2 _
        · obtain ⟨u1, e1, d1⟩ := h.new 6 _ 65 rfl rfl (haf ⟨6, .data⟩ (by simp) rfl)
          have d1' : u1 = .int .i64 0 := d1.1
          subst d1'
          refine wp_val (v := .int .i64 0) (w' := W) ?_ ⟨_, rfl, ⟨rfl, fun e => absurd e (by decide)⟩, fun _ _ h => h, ⟨g1, g0⟩, g2, fun e7 => ?_⟩
          · unfold execOp
            simp [e1, go_sem]
          · rw [set_other_get (by decide)] at e7
            obtain ⟨T, t1, t2, t3⟩ := g3 e7
            exact ⟨T, (put_other (by decide)).trans t1, t2, by rw [set_other_get (by decide)]; exact t3⟩
      intro v V17 hv hs hg
      obtain ⟨⟨g1, _⟩, g2, g3⟩ := hg
      obtain ⟨TV17, t1, t2, t3⟩ := g3 rfl
      have d7 : v 7 = .pointer (some ⟨TV17, 0, none⟩) := Option.some.inj ((hs 7 _ 15 rfl rfl).symm.trans t1)
      have d9 : v 9 = .int .i64 0 := (hv 9 _ 16 rfl rfl).1
      have t4 : V17.heap[TV17]? = some (.cells #[.int .i64 4, .int .i64 0, .string ⟨#[]⟩] 24) := t3
      simp only [putAll, d7, d9, Act.put, List.setIfInBounds_toArray, List.set_cons_succ, List.set_cons_zero]
      have HBV17 := hidR g1
      have HXV17 := hidR g2
      have HRV17 := hidR t4
      clear hv hs d7 d9 t1 t2 t3 t4 g1 g2 g3 VK
      go_upto_region 18 with fail
      have VK : Hid (∀ W g, Below w.heap.size w W → W.heap[g]? = some (.cells #[.int .i64 x.kind, .int .i64 x.n, .string x.s, .int .i64 3, .int .i64 0, .string ⟨#[111, 110, 101]⟩] 24) → Calls Tryz.prog 6 #[.string ⟨#[33, 61]⟩, .slice (some ⟨g, 0, none⟩) 2 2] W fun e w' => e = .returned (.tuple #[.agg #[.int .i64 4, .int .i64 1, .string ⟨#[]⟩], .int .i64 0]) ∧ Below W.heap.size W w') := V2.out
      have h7P : T7 < V17.heap.size := (Array.getElem?_eq_some_iff.1 HXV17.out).1
      have hzP := HBV17.out.size
      have hl0 := (Array.getElem?_eq_some_iff.1 (HRV17.out)).1
      refine wp_region_slots (by kernel_rfl) (fun j v W => (match j with | 0 => v = (.agg #[.int .i64 x.kind, .int .i64 x.n, .string x.s]) | 1 => v = (.agg #[.int .i64 3, .int .i64 0, .string ⟨#[111, 110, 101]⟩]) | 3 => v = (.tuple #[.agg #[.int .i64 4, .int .i64 1, .string ⟨#[]⟩], .int .i64 0]) | 4 => v = (.tuple #[.agg #[.int .i64 4, .int .i64 1, .string ⟨#[]⟩], .int .i64 0]) | 5 => v = (.agg #[.int .i64 4, .int .i64 1, .string ⟨#[]⟩]) | 6 => v = .int .i64 0 | 9 => v = .int .i64 0 | _ => True) ∧ (j = 2 → ∃ N, v = .slice (some ⟨N, 0, none⟩) 2 2 ∧ W.heap[N]? = some (.cells #[.int .i64 x.kind, .int .i64 x.n, .string x.s, .int .i64 3, .int .i64 0, .string ⟨#[111, 110, 101]⟩] 24))) (fun l a W => (Below w.heap.size w W ∧ V17.heap.size ≤ W.heap.size) ∧ W.heap[T7]? = some (.cells #[.int .i64 x.kind, .int .i64 x.n, .string x.s] 24) ∧ W.heap[TV17]? = some (.cells #[.int .i64 4, .int .i64 0, .string ⟨#[]⟩] 24) ∧ (l.getD 7 false = true → ∃ T, a.tmps[17]? = some (.pointer (some ⟨T, 0, none⟩)) ∧ V17.heap.size ≤ T ∧ W.heap[T]? = some (if l.getD 8 false = true then (.cells #[.int .i64 4, .int .i64 1, .string ⟨#[]⟩] 24) else (.cells #[.int .i64 0, .int .i64 0, .string ⟨#[]⟩] 24)))) (by kernel_rfl) (by kernel_rfl) ⟨⟨HBV17.out.trans (drew_belowE _ _), Nat.le_refl _⟩, HXV17.out, HRV17.out, fun e7 => by rw [Array.getD_eq_getD_getElem?, Array.getElem?_replicate] at e7; split at e7 <;> cases e7⟩ ?_ ?_
      · intro l a W i o hsz h ho hl haf
        obtain ⟨⟨g1, g0⟩, g2, x0, g3⟩ := h.more
        have gz := g1.size
        have hi : i < 10 := (Array.getElem?_eq_some_iff.1 ho).1
        obtain rfl | rfl | rfl | rfl | rfl | rfl | rfl | rfl | rfl | rfl : i = 0 ∨ i = 1 ∨ i = 2 ∨ i = 3 ∨ i = 4 ∨ i = 5 ∨ i = 6 ∨ i = 7 ∨ i = 8 ∨ i = 9 := by omega
        all_goals (obtain rfl := Option.some.inj ho; rw [if_pos (want_none rfl)])
        · have e8 := h.given 7 _ rfl (by kernel_rfl)
          obtain ⟨c0, c1, c2, _⟩ := blk3 g2
          refine wp_val (v := .agg #[.int .i64 x.kind, .int .i64 x.n, .string x.s]) (w' := W) ?_ ⟨_, rfl, ⟨rfl, fun e => absurd e (by decide)⟩, fun _ _ h => h, ⟨g1, g0⟩, g2, x0, fun e7 => ?_⟩
          · unfold execOp
            simp [e8, go_sem, c0, c1, c2]
          · rw [set_other_get (by decide)] at e7
            obtain ⟨T, t1, t2, t3⟩ := g3 e7
            exact ⟨T, (put_other (by decide)).trans t1, t2, by rw [set_other_get (by decide)]; exact t3⟩
        · refine wp_enter (f := 8) (args := #[.string ⟨#[111, 110, 101]⟩]) (w' := W) ?_ ((CW.out W _).mono ?_)
          · unfold execOp
            simp [go_sem]
          · rintro e W' ⟨rfl, rfl⟩
            refine ⟨_, rfl, _, rfl, ⟨rfl, fun e => absurd e (by decide)⟩, fun j u hd => ⟨hd.1, fun e => by obtain ⟨N, n1, n2⟩ := hd.2 e; exact ⟨N, n1, alloc_old n2⟩⟩, ⟨g1.alloc gz _, by simp; omega⟩, alloc_old g2, alloc_old x0, fun e7 => ?_⟩
            rw [set_other_get (by decide)] at e7
            obtain ⟨T, t1, t2, t3⟩ := g3 e7
            exact ⟨T, (put_other (by decide)).trans t1, t2, by rw [set_other_get (by decide)]; exact alloc_old t3⟩
        · obtain ⟨u1, e1, d1⟩ := h.new 0 _ 67 rfl rfl (haf ⟨0, .data⟩ (by simp) rfl)
          obtain ⟨u2, e2, d2⟩ := h.new 1 _ 68 rfl rfl (haf ⟨1, .data⟩ (by simp) rfl)
          have d1' : u1 = (.agg #[.int .i64 x.kind, .int .i64 x.n, .string x.s]) := d1.1
          have d2' : u2 = (.agg #[.int .i64 3, .int .i64 0, .string ⟨#[111, 110, 101]⟩]) := d2.1
          subst d1' d2'
          refine wp_val (v := .slice (some ⟨W.heap.size, 0, none⟩) 2 2) (w' := W.alloc (.cells #[.int .i64 x.kind, .int .i64 x.n, .string x.s, .int .i64 3, .int .i64 0, .string ⟨#[111, 110, 101]⟩] 24)) ?_ ⟨_, rfl, ⟨trivial, fun _ => ⟨_, rfl, alloc_newN rfl⟩⟩, fun j u hd => ⟨hd.1, fun e => by obtain ⟨N, n1, n2⟩ := hd.2 e; exact ⟨N, n1, alloc_old n2⟩⟩, ⟨g1.alloc gz _, by simp; omega⟩, alloc_old g2, alloc_old x0, fun e7 => ?_⟩
          · unfold execOp
            simp [e1, e2, go_sem]
          · rw [set_other_get (by decide)] at e7
            obtain ⟨T, t1, t2, t3⟩ := g3 e7
            exact ⟨T, (put_other (by decide)).trans t1, t2, by rw [set_other_get (by decide)]; exact alloc_old t3⟩
        · obtain ⟨u1, e1, d1⟩ := h.new 2 _ 69 rfl rfl (haf ⟨2, .data⟩ (by simp) rfl)
          obtain ⟨N, rfl, n2⟩ := d1.2 rfl
          refine wp_enter (f := 6) (args := #[.string ⟨#[33, 61]⟩, .slice (some ⟨N, 0, none⟩) 2 2]) (w' := W) ?_ ((VK.out W N g1 n2).mono ?_)
          · unfold execOp
            simp [e1, go_sem]
          · rintro e W' ⟨rfl, hb⟩
            refine ⟨_, rfl, _, rfl, ⟨rfl, fun e => absurd e (by decide)⟩, fun j u hd => ⟨hd.1, fun e => by obtain ⟨N, n1, n2⟩ := hd.2 e; exact ⟨N, n1, blk_below hb (Array.getElem?_eq_some_iff.1 n2).1 n2⟩⟩, ⟨g1.trans (hb.mono gz), Nat.le_trans g0 hb.size⟩, blk_below hb (Array.getElem?_eq_some_iff.1 g2).1 g2, blk_below hb (Array.getElem?_eq_some_iff.1 x0).1 x0, fun e7 => ?_⟩
            rw [set_other_get (by decide)] at e7
            obtain ⟨T, t1, t2, t3⟩ := g3 e7
            exact ⟨T, (put_other (by decide)).trans t1, t2, by rw [set_other_get (by decide)]; exact blk_below hb (Array.getElem?_eq_some_iff.1 t3).1 t3⟩
        · obtain ⟨u1, e1, d1⟩ := h.new 3 _ 70 rfl rfl (haf ⟨3, .data⟩ (by simp) rfl)
          have d1' : u1 = (.tuple #[.agg #[.int .i64 4, .int .i64 1, .string ⟨#[]⟩], .int .i64 0]) := d1.1
          subst d1'
          refine wp_val (v := .tuple #[.agg #[.int .i64 4, .int .i64 1, .string ⟨#[]⟩], .int .i64 0]) (w' := W) ?_ ⟨_, rfl, ⟨rfl, fun e => absurd e (by decide)⟩, fun _ _ h => h, ⟨g1, g0⟩, g2, x0, fun e7 => ?_⟩
          · unfold execOp
            simp [e1, go_sem]
          · rw [set_other_get (by decide)] at e7
            obtain ⟨T, t1, t2, t3⟩ := g3 e7
            exact ⟨T, (put_other (by decide)).trans t1, t2, by rw [set_other_get (by decide)]; exact t3⟩
        · obtain ⟨u1, e1, d1⟩ := h.new 4 _ 66 rfl rfl (haf ⟨4, .data⟩ (by simp) rfl)
          have d1' : u1 = (.tuple #[.agg #[.int .i64 4, .int .i64 1, .string ⟨#[]⟩], .int .i64 0]) := d1.1
          subst d1'
          refine wp_val (v := .agg #[.int .i64 4, .int .i64 1, .string ⟨#[]⟩]) (w' := W) ?_ ⟨_, rfl, ⟨rfl, fun e => absurd e (by decide)⟩, fun _ _ h => h, ⟨g1, g0⟩, g2, x0, fun e7 => ?_⟩
          · unfold execOp
            simp [e1, go_sem]
          · rw [set_other_get (by decide)] at e7
            obtain ⟨T, t1, t2, t3⟩ := g3 e7
            exact ⟨T, (put_other (by decide)).trans t1, t2, by rw [set_other_get (by decide)]; exact t3⟩
        · obtain ⟨u1, e1, d1⟩ := h.new 4 _ 66 rfl rfl (haf ⟨4, .data⟩ (by simp) rfl)
          have d1' : u1 = (.tuple #[.agg #[.int .i64 4, .int .i64 1, .string ⟨#[]⟩], .int .i64 0]) := d1.1
          subst d1'
          refine wp_val (v := .int .i64 0) (w' := W) ?_ ⟨_, rfl, ⟨rfl, fun e => absurd e (by decide)⟩, fun _ _ h => h, ⟨g1, g0⟩, g2, x0, fun e7 => ?_⟩
          · unfold execOp
            simp [e1, go_sem]
          · rw [set_other_get (by decide)] at e7
            obtain ⟨T, t1, t2, t3⟩ := g3 e7
            exact ⟨T, (put_other (by decide)).trans t1, t2, by rw [set_other_get (by decide)]; exact t3⟩
        · have n8 := h.later 8 7 _ ⟨7, .data⟩ rfl (by simp) rfl rfl hl
          refine wp_val (v := .pointer (some ⟨W.heap.size, 0, none⟩)) (w' := W.alloc (.cells #[.int .i64 0, .int .i64 0, .string ⟨#[]⟩] 24)) ?_ ⟨_, rfl, ⟨trivial, fun e => absurd e (by decide)⟩, fun j u hd => ⟨hd.1, fun e => by obtain ⟨N, n1, n2⟩ := hd.2 e; exact ⟨N, n1, alloc_old n2⟩⟩, ⟨g1.alloc gz _, by simp; omega⟩, alloc_old g2, alloc_old x0, fun e7 => ⟨W.heap.size, put_this (by rw [h.size]; exact (by decide : (17 : Nat) < 105)), ?_, ?_⟩⟩
          · unfold execOp
            simp [go_sem]
          · exact g0
          · rw [set_other_get (by decide), n8, if_neg (by decide)]; exact alloc_newN rfl
        · obtain ⟨u1, e1, d1⟩ := h.new 5 _ 71 rfl rfl (haf ⟨5, .data⟩ (by simp) rfl)
          have d1' : u1 = (.agg #[.int .i64 4, .int .i64 1, .string ⟨#[]⟩]) := d1.1
          subst d1'
          obtain ⟨T, t1, t2, t3⟩ := g3 (haf ⟨7, .data⟩ (by simp) rfl)
          have n8 : l.getD 8 false = false := by rw [Array.getD_eq_getD_getElem?] at hl ⊢; cases hx : l[8]? with | none => rfl | some bb => rw [hx] at hl; exact hl
          rw [n8, if_neg (by decide)] at t3
          obtain ⟨c0, c1, c2, k0, k1, k2, _⟩ := blk3 t3
          refine wp_skip (w' := ((W.setCell ⟨T, 0, none⟩ (.int .i64 4)).setCell ⟨T, 1, none⟩ (.int .i64 1)).setCell ⟨T, 2, none⟩ (.string ⟨#[]⟩)) ?_ ⟨_, rfl, ⟨trivial, fun e => absurd e (by decide)⟩, fun j u hd => ⟨hd.1, fun e => by
            obtain ⟨N, n1, n2⟩ := hd.2 e
            have hne : N ≠ T := by rintro rfl; rw [n2] at t3; simp at t3
            exact ⟨N, n1, set_other (set_other (set_other n2 hne) hne) hne⟩⟩, ⟨((g1.setCell (by simp only []; omega) _).setCell (by simp only []; omega) _).setCell (by simp only []; omega) _, by simpa using g0⟩, set_other (set_other (set_other g2 (by omega)) (by omega)) (by omega), set_other (set_other (set_other x0 (by omega)) (by omega)) (by omega), fun e7 => ⟨T, t1, t2, ?_⟩⟩
          · unfold execOp
            simp [e1, t1, go_sem, c0, c1, c2, k0, k1, k2]
          · rw [set_this_get hsz (by decide), if_pos rfl]; exact set_same (set_same (set_same t3 0 _) 1 _) 2 _
        · obtain ⟨u1, e1, d1⟩ := h.new 6 _ 72 rfl rfl (haf ⟨6, .data⟩ (by simp) rfl)
          have d1' : u1 = .int .i64 0 := d1.1
          subst d1'
          refine wp_val (v := .int .i64 0) (w' := W) ?_ ⟨_, rfl, ⟨rfl, fun e => absurd e (by decide)⟩, fun _ _ h => h, ⟨g1, g0⟩, g2, x0, fun e7 => ?_⟩
          · unfold execOp
            simp [e1, go_sem]
          · rw [set_other_get (by decide)] at e7
            obtain ⟨T, t1, t2, t3⟩ := g3 e7
            exact ⟨T, (put_other (by decide)).trans t1, t2, by rw [set_other_get (by decide)]; exact t3⟩
      intro v V18 hv hs hg
      obtain ⟨⟨g1, _⟩, g2, x0, g3⟩ := hg
      obtain ⟨TV18, t1, t2, t3⟩ := g3 rfl
      have d7 : v 7 = .pointer (some ⟨TV18, 0, none⟩) := Option.some.inj ((hs 7 _ 17 rfl rfl).symm.trans t1)
      have d9 : v 9 = .int .i64 0 := (hv 9 _ 18 rfl rfl).1
      have t4 : V18.heap[TV18]? = some (.cells #[.int .i64 4, .int .i64 1, .string ⟨#[]⟩] 24) := t3
      simp only [putAll, d7, d9, Act.put, List.setIfInBounds_toArray, List.set_cons_succ, List.set_cons_zero]
      have HBV18 := hidR g1
      have HXV18 := hidR g2
      have HRV18 := hidR t4
      have HE0V18 := hidR x0
      clear hv hs d7 d9 t1 t2 t3 t4 g1 g2 g3 VK x0
      obtain ⟨_, o1, _, _, _, _, o3⟩ := blk3 HE0V18.out
      obtain ⟨_, u1, _, _, _, _, u3⟩ := blk3 HRV18.out
      have e2 := HE2.out
      clear HE2
      rcases e2 with rfl | rfl | rfl
      all_goals
        go_wp2_with fail
        go_ret
        exact ⟨rfl, HBV18.out⟩
set_option maxHeartbeats 12800000 in
theorem lawRel1 (a b : Int) (w : World) (ha : -9223372036854775808 ≤ a ∧ a ≤ 9223372036854775807) (hb : -9223372036854775808 ≤ b ∧ b ≤ 9223372036854775807) (hw : RelEnv w) :
    Calls Tryz.prog 4 #[.int .i64 a, .int .i64 b, .bool true] w fun e w' => e = .returned (.bool true) ∧ Below w.heap.size w w' := by
  have CN : Hid (∀ W n, Calls Tryz.prog 7 #[.int .i64 n] W fun e w' => e = .returned (.agg #[.int .i64 2, .int .i64 n, .string ⟨#[]⟩]) ∧ w' = W.alloc (.cells #[.int .i64 2, .int .i64 n, .string ⟨#[]⟩] 24)) := fun W n => number_is n W
  have CW : Hid (∀ W s, Calls Tryz.prog 8 #[.string s] W fun e w' => e = .returned (.agg #[.int .i64 3, .int .i64 0, .string s]) ∧ w' = W.alloc (.cells #[.int .i64 3, .int .i64 0, .string s] 24)) := fun W s => words_is s W
  have CA : Hid (∀ W, Calls Tryz.prog 5 #[.int .i64 a, .int .i64 9] W fun e w' => e = .returned (.int .i64 (pk a 9)) ∧ w' = W) := fun W => picked_is a 9 W ha (by decide) (by decide)
  have CB : Hid (∀ W, Calls Tryz.prog 5 #[.int .i64 b, .int .i64 9] W fun e w' => e = .returned (.int .i64 (pk b 9)) ∧ w' = W) := fun W => picked_is b 9 W hb (by decide) (by decide)
  have HW := hidR hw
  clear hw
  obtain ⟨xa, xb⟩ := pk_in (a := a) (m := 9) (by decide)
  obtain ⟨ya, yb⟩ := pk_in (a := b) (m := 9) (by decide)
  generalize pk a 9 = A0 at *
  generalize pk b 9 = B0 at *
  have hA : -4 ≤ A0 - 4 ∧ A0 - 4 ≤ 4 := by omega
  have hB : -4 ≤ B0 - 4 ∧ B0 - 4 ≤ 4 := by omega
  go_enter Tryz.func4, Tryz.ntmps4
  go_upto_region 4 with (first
    | (go_at_call 5; refine (CA.out _).mono ?_; rintro e w1 ⟨rfl, hw1⟩; obtain rfl := hw1.symm; clear CA)
    | (go_at_call 5; refine (CB.out _).mono ?_; rintro e w1 ⟨rfl, hw1⟩; obtain rfl := hw1.symm; clear CB)
    | (go_at_call 7; refine (CN.out _ _).mono ?_; rintro e w1 ⟨rfl, hw1⟩; subst hw1))
  obtain ⟨A, hAe⟩ : ∃ A, A = A0 - 4 := ⟨_, rfl⟩
  obtain ⟨B, hBe⟩ : ∃ B, B = B0 - 4 := ⟨_, rfl⟩
  rw [← hAe] at hA ⊢
  rw [← hBe] at hB ⊢
  clear hAe hBe xa xb ya yb
  obtain ⟨W2, hW2⟩ : ∃ W, W = (((w.alloc (.cells #[.int .i64 2, .int .i64 A, .string ⟨#[]⟩] 24)).alloc (.cells #[.int .i64 2, .int .i64 A, .string ⟨#[]⟩] 24)).alloc (.cells #[.int .i64 2, .int .i64 B, .string ⟨#[]⟩] 24)).alloc (.cells #[.int .i64 2, .int .i64 B, .string ⟨#[]⟩] 24) := ⟨_, rfl⟩
  have HB2 : Hid (Below w.heap.size w W2) := by rw [hW2]; (focus (repeat (first | exact Below.refl _ _ | exact Hid.out (by assumption) | refine Below.setCell ?_ (by first | omega | (simp <;> omega)) _ | refine Below.alloc ?_ (by first | omega | (simp <;> omega)) _)))
  have HX2 : Hid (W2.heap[w.heap.size + 1]? = some (.cells #[.int .i64 2, .int .i64 A, .string ⟨#[]⟩] 24)) := by rw [hW2]; exact alloc_old (alloc_old (alloc_newN (by simp)))
  have HY2 : Hid (W2.heap[w.heap.size + 1 + 1 + 1]? = some (.cells #[.int .i64 2, .int .i64 B, .string ⟨#[]⟩] 24)) := by rw [hW2]; exact alloc_newN (by simp)
  rw [← hW2]
  clear hW2
  obtain ⟨T7, hT7⟩ : ∃ T, T = w.heap.size + 1 := ⟨_, rfl⟩
  obtain ⟨T8, hT8⟩ : ∃ T, T = w.heap.size + 1 + 1 + 1 := ⟨_, rfl⟩
  rw [← hT8] at HY2 ⊢
  rw [← hT7] at HX2 ⊢
  have h7 : w.heap.size ≤ T7 := by omega
  have h8 : w.heap.size ≤ T8 := by omega
  have h78 : T7 < T8 := by omega
  clear hT7 hT8
  have CI : Hid (∀ W, Calls Tryz.prog 9 #[.int .i64 B] W fun e w' => e = .returned (.string (numT B)) ∧ w' = W) := fun W => itoaSigned_is B hB W
  have V : Hid (∀ k, k < 6 → ValueAt w (opT k) (numI A) (txtI (numT B)) (boolI (bt (ordN A B) k)) 0) := fun k hk => value_at (by have := op_size hk; unfold maxLen; omega) (num_size _) (by have := (numT_back hB).2.1; show (numT B).size ≤ maxLen; unfold maxLen; omega) (rel_txt HW.out hA hB hk)
  obtain ⟨y0, y1, y2, y3, y4, y5, y6⟩ := blk3 HY2.out
  generalize numT B = tB at *
  go_upto_region 7 with (first
    | (go_at_call 9; refine (CI.out _).mono ?_; rintro e w1 ⟨rfl, hw1⟩; obtain rfl := hw1.symm)
    | (go_at_call 8; refine (CW.out _ _).mono ?_; rintro e w1 ⟨rfl, hw1⟩; subst hw1))
  obtain ⟨W3, hW3⟩ : ∃ W, W = (((W2.setCell ⟨T8, 0, none⟩ (.int .i64 3)).setCell ⟨T8, 1, none⟩ (.int .i64 0)).setCell ⟨T8, 2, none⟩ (.string tB)).alloc (.cells #[.int .i64 3, .int .i64 0, .string tB] 24) := ⟨_, rfl⟩
  have HB3 : Hid (Below w.heap.size w W3) := by rw [hW3]; exact (((HB2.out.setCell (by simp only []; omega) _).setCell (by simp only []; omega) _).setCell (by simp only []; omega) _).alloc (by have := HB2.out.size; simp; omega) _
  have HX3 : Hid (W3.heap[T7]? = some (.cells #[.int .i64 (numI A).kind, .int .i64 (numI A).n, .string (numI A).s] 24)) := by rw [hW3]; exact alloc_old (set_other (set_other (set_other HX2.out (by omega)) (by omega)) (by omega))
  have HY3 : Hid (W3.heap[T8]? = some (.cells #[.int .i64 (txtI tB).kind, .int .i64 (txtI tB).n, .string (txtI tB).s] 24)) := by rw [hW3]; exact alloc_old (set_same (set_same (set_same HY2.out 0 _) 1 _) 2 _)
  rw [← hW3]
  clear hW3 HX2 HY2 HB2 y0 y1 y2 y3 y4 y5 y6 CI
  generalize txtI tB = y at *
  have V1 : Hid (ValueAt w ⟨#[61]⟩ (numI A) (txtI oneT) (boolI false) 0) := value_at (by decide) (num_size _) (by decide) (rel_one HW.out hA (k := 1) (by decide))
  have V2 : Hid (ValueAt w ⟨#[33, 61]⟩ (numI A) (txtI oneT) (boolI true) 0) := value_at (by decide) (num_size _) (by decide) (rel_one HW.out hA (k := 5) (by decide))
  have HC3 := hidR (ord_three A B)
  generalize ordN A B = c at *
  generalize numI A = x at *
  clear HW hA hB CN
  go_wp2_with fail
  obtain ⟨W4, hW4⟩ : ∃ W, W = W3.alloc (.cells #[.string ⟨#[60]⟩, .string ⟨#[61]⟩, .string ⟨#[62]⟩, .string ⟨#[60, 61]⟩, .string ⟨#[62, 61]⟩, .string ⟨#[33, 61]⟩] 9) := ⟨_, rfl⟩
  have HB4 : Hid (Below w.heap.size w W4) := by rw [hW4]; exact HB3.out.alloc HB3.out.size _
  have HX4 : Hid (W4.heap[T7]? = some (.cells #[.int .i64 x.kind, .int .i64 x.n, .string x.s] 24)) := by rw [hW4]; exact alloc_old HX3.out
  have HY4 : Hid (W4.heap[T8]? = some (.cells #[.int .i64 y.kind, .int .i64 y.n, .string y.s] 24)) := by rw [hW4]; exact alloc_old HY3.out
  have HS4 : Hid (W4.heap[W3.heap.size]? = some (.cells #[.string ⟨#[60]⟩, .string ⟨#[61]⟩, .string ⟨#[62]⟩, .string ⟨#[60, 61]⟩, .string ⟨#[62, 61]⟩, .string ⟨#[33, 61]⟩] 9)) := by rw [hW4]; exact alloc_newN rfl
  have h9 : w.heap.size ≤ W3.heap.size := HB3.out.size
  rw [← hW4]
  clear hW4 HB3 HX3 HY3
  generalize W3.heap.size = SB at *
  go_loopw [9, 10, 34] (fun n yes i wr => ∃ k : Nat, k ≤ 6 ∧ i = .int .i64 k ∧ n = .int .i64 (nY c k) ∧ yes = .string (sY c k) ∧ Below w.heap.size w wr ∧ wr.heap[T7]? = some (.cells #[.int .i64 x.kind, .int .i64 x.n, .string x.s] 24) ∧ wr.heap[T8]? = some (.cells #[.int .i64 y.kind, .int .i64 y.n, .string y.s] 24) ∧ wr.heap[SB]? = some (.cells #[.string ⟨#[60]⟩, .string ⟨#[61]⟩, .string ⟨#[62]⟩, .string ⟨#[60, 61]⟩, .string ⟨#[62, 61]⟩, .string ⟨#[33, 61]⟩] 9)) (fun _ _ i _ => 6 - (intOf i).toNat)
  case atStart => exact ⟨0, by decide, rfl, rfl, rfl, HB4.out, HX4.out, HY4.out, HS4.out⟩
  case round =>
    obtain ⟨k, hk, rfl, rfl, rfl, hbr, hxr, hyr, hsr⟩ := hrel
    have HBR := hidR hbr
    have HXR := hidR hxr
    have HBwr := hidR hbr
    have HXwr := hidR hxr
    have HYR := hidR hyr
    have HSR := hidR hsr
    obtain ⟨p0, p1, p2, _, _, _, p3⟩ := blk3 hxr
    obtain ⟨q0, q1, q2, _, _, _, q3⟩ := blk3 hyr
    have hzr := hbr.size
    have hsz : SB < wr.heap.size := (Array.getElem?_eq_some_iff.1 hsr).1
    clear hbr hxr hyr hsr
    by_cases hlt : k < 6
    · have s0 := six_str HSR.out hlt
      have hki : (k : Int) < 6 := by omega
      cases hbt : bt c k
      · have VK : Hid (∀ W g, Below w.heap.size w W → W.heap[g]? = some (.cells #[.int .i64 x.kind, .int .i64 x.n, .string x.s, .int .i64 y.kind, .int .i64 y.n, .string y.s] 24) → Calls Tryz.prog 6 #[.string (opT k), .slice (some ⟨g, 0, none⟩) 2 2] W fun e w' => e = .returned (.tuple #[.agg #[.int .i64 4, .int .i64 0, .string ⟨#[]⟩], .int .i64 0]) ∧ Below W.heap.size W w') := by
          have h := V.out k hlt
          rw [hbt] at h
          exact h
        have HN : Hid (nY c (k + 1) = nY c k + 0) := by show nY c k + (if bt c k then 1 else 0) = _; rw [hbt]; rfl
        have HSY : Hid (sY c (k + 1) = sY c k) := by show (if bt c k then sY c k ++ opT k else sY c k) = _; rw [hbt]; rfl
        obtain ⟨n1, n2⟩ := nY_le c k
        have hss : ¬ 9223372036854775807 < (sY c k).size + (opT k).size := by have := sY_le c k hk; have := op_size hlt; omega
        clear hbt
        generalize nY c k = n0 at *
        generalize sY c k = s1 at *
        generalize opT k = o1 at *
        go_wp2_with (go_at_call 6; refine (VK.out _ _ ?_ ?_).mono ?_; (· exact HBR.out.alloc hzr _); (· exact alloc_newN rfl); rintro e w5 ⟨rfl, hb5⟩; have HB5 : Hid (Below w.heap.size w w5) := Below.trans (HBR.out.alloc hzr _) (hb5.mono (by simp; omega)); have HX5 : Hid (w5.heap[T7]? = some (.cells #[.int .i64 x.kind, .int .i64 x.n, .string x.s] 24)) := (hb5.block _ (by simp; omega)).trans (alloc_old HXR.out); have HY5 : Hid (w5.heap[T8]? = some (.cells #[.int .i64 y.kind, .int .i64 y.n, .string y.s] 24)) := (hb5.block _ (by simp; omega)).trans (alloc_old HYR.out); have HS5 := hidR ((hb5.block _ (by simp; omega)).trans (alloc_old HSR.out)); have hz5 := HB5.out.size; clear hb5)
        go_roundw
        case rel => exact ⟨k + 1, by omega, by go_num, by rw [HN.out]; simp, by rw [HSY.out], HB5.out.alloc hz5 _, alloc_old HX5.out, alloc_old HY5.out, alloc_old HS5.out⟩
        case measure => simp [intOf]; omega
      · have VK : Hid (∀ W g, Below w.heap.size w W → W.heap[g]? = some (.cells #[.int .i64 x.kind, .int .i64 x.n, .string x.s, .int .i64 y.kind, .int .i64 y.n, .string y.s] 24) → Calls Tryz.prog 6 #[.string (opT k), .slice (some ⟨g, 0, none⟩) 2 2] W fun e w' => e = .returned (.tuple #[.agg #[.int .i64 4, .int .i64 1, .string ⟨#[]⟩], .int .i64 0]) ∧ Below W.heap.size W w') := by
          have h := V.out k hlt
          rw [hbt] at h
          exact h
        have HN : Hid (nY c (k + 1) = nY c k + 1) := by show nY c k + (if bt c k then 1 else 0) = _; rw [hbt]; rfl
        have HSY : Hid (sY c (k + 1) = sY c k ++ opT k) := by show (if bt c k then sY c k ++ opT k else sY c k) = _; rw [hbt]; rfl
        obtain ⟨n1, n2⟩ := nY_le c k
        have hss : ¬ 9223372036854775807 < (sY c k).size + (opT k).size := by have := sY_le c k hk; have := op_size hlt; omega
        clear hbt
        generalize nY c k = n0 at *
        generalize sY c k = s1 at *
        generalize opT k = o1 at *
        go_wp2_with (go_at_call 6; refine (VK.out _ _ ?_ ?_).mono ?_; (· exact HBR.out.alloc hzr _); (· exact alloc_newN rfl); rintro e w5 ⟨rfl, hb5⟩; have HB5 : Hid (Below w.heap.size w w5) := Below.trans (HBR.out.alloc hzr _) (hb5.mono (by simp; omega)); have HX5 : Hid (w5.heap[T7]? = some (.cells #[.int .i64 x.kind, .int .i64 x.n, .string x.s] 24)) := (hb5.block _ (by simp; omega)).trans (alloc_old HXR.out); have HY5 : Hid (w5.heap[T8]? = some (.cells #[.int .i64 y.kind, .int .i64 y.n, .string y.s] 24)) := (hb5.block _ (by simp; omega)).trans (alloc_old HYR.out); have HS5 := hidR ((hb5.block _ (by simp; omega)).trans (alloc_old HSR.out)); have hz5 := HB5.out.size; clear hb5)
        go_roundw
        case rel => exact ⟨k + 1, by omega, by go_num, by rw [HN.out], by rw [HSY.out], HB5.out.alloc hz5 _, alloc_old HX5.out, alloc_old HY5.out, alloc_old HS5.out⟩
        case measure => simp [intOf]; omega
    · obtain rfl : k = 6 := by omega
      obtain ⟨e1, e2⟩ := three_said HC3.out
      rw [e1]
      have HE2 := hidR e2
      clear e1 e2 hlt
      generalize sY c 6 = s6 at *
      clear q0 q1 q2 q3 p0 p1 p2
      go_upto_region 17 with fail
      have VK : Hid (∀ W g, Below w.heap.size w W → W.heap[g]? = some (.cells #[.int .i64 x.kind, .int .i64 x.n, .string x.s, .int .i64 3, .int .i64 0, .string ⟨#[111, 110, 101]⟩] 24) → Calls Tryz.prog 6 #[.string ⟨#[61]⟩, .slice (some ⟨g, 0, none⟩) 2 2] W fun e w' => e = .returned (.tuple #[.agg #[.int .i64 4, .int .i64 0, .string ⟨#[]⟩], .int .i64 0]) ∧ Below W.heap.size W w') := V1.out
      have h7P : T7 < wr.heap.size := (Array.getElem?_eq_some_iff.1 HXwr.out).1
      have hzP := HBwr.out.size
      refine wp_region_slots (by kernel_rfl) (fun j v W => (match j with | 0 => v = (.agg #[.int .i64 x.kind, .int .i64 x.n, .string x.s]) | 1 => v = (.agg #[.int .i64 3, .int .i64 0, .string ⟨#[111, 110, 101]⟩]) | 3 => v = (.tuple #[.agg #[.int .i64 4, .int .i64 0, .string ⟨#[]⟩], .int .i64 0]) | 4 => v = (.tuple #[.agg #[.int .i64 4, .int .i64 0, .string ⟨#[]⟩], .int .i64 0]) | 5 => v = (.agg #[.int .i64 4, .int .i64 0, .string ⟨#[]⟩]) | 6 => v = .int .i64 0 | 9 => v = .int .i64 0 | _ => True) ∧ (j = 2 → ∃ N, v = .slice (some ⟨N, 0, none⟩) 2 2 ∧ W.heap[N]? = some (.cells #[.int .i64 x.kind, .int .i64 x.n, .string x.s, .int .i64 3, .int .i64 0, .string ⟨#[111, 110, 101]⟩] 24))) (fun l a W => (Below w.heap.size w W ∧ wr.heap.size ≤ W.heap.size) ∧ W.heap[T7]? = some (.cells #[.int .i64 x.kind, .int .i64 x.n, .string x.s] 24) ∧ (l.getD 7 false = true → ∃ T, a.tmps[15]? = some (.pointer (some ⟨T, 0, none⟩)) ∧ wr.heap.size ≤ T ∧ W.heap[T]? = some (if l.getD 8 false = true then (.cells #[.int .i64 4, .int .i64 0, .string ⟨#[]⟩] 24) else (.cells #[.int .i64 0, .int .i64 0, .string ⟨#[]⟩] 24)))) (by kernel_rfl) (by kernel_rfl) ⟨⟨HBwr.out.trans (drew_belowE _ _), Nat.le_refl _⟩, HXwr.out, fun e7 => by rw [Array.getD_eq_getD_getElem?, Array.getElem?_replicate] at e7; split at e7 <;> cases e7⟩ ?_ ?_
      · intro l a W i o hsz h ho hl haf
        obtain ⟨⟨g1, g0⟩, g2, g3⟩ := h.more
        have gz := g1.size
        have hi : i < 10 := (Array.getElem?_eq_some_iff.1 ho).1
        obtain rfl | rfl | rfl | rfl | rfl | rfl | rfl | rfl | rfl | rfl : i = 0 ∨ i = 1 ∨ i = 2 ∨ i = 3 ∨ i = 4 ∨ i = 5 ∨ i = 6 ∨ i = 7 ∨ i = 8 ∨ i = 9 := by omega
        all_goals (obtain rfl := Option.some.inj ho; rw [if_pos (want_none rfl)])
        · have e8 := h.given 7 _ rfl (by kernel_rfl)
          obtain ⟨c0, c1, c2, _⟩ := blk3 g2
          refine wp_val (v := .agg #[.int .i64 x.kind, .int .i64 x.n, .string x.s]) (w' := W) ?_ ⟨_, rfl, ⟨rfl, fun e => absurd e (by decide)⟩, fun _ _ h => h, ⟨g1, g0⟩, g2, fun e7 => ?_⟩
          · unfold execOp
            simp [e8, go_sem, c0, c1, c2]
          · rw [set_other_get (by decide)] at e7
            obtain ⟨T, t1, t2, t3⟩ := g3 e7
            exact ⟨T, (put_other (by decide)).trans t1, t2, by rw [set_other_get (by decide)]; exact t3⟩
        · refine wp_enter (f := 8) (args := #[.string ⟨#[111, 110, 101]⟩]) (w' := W) ?_ ((CW.out W _).mono ?_)
          · unfold execOp
            simp [go_sem]
          · rintro e W' ⟨rfl, rfl⟩
            refine ⟨_, rfl, _, rfl, ⟨rfl, fun e => absurd e (by decide)⟩, fun j u hd => ⟨hd.1, fun e => by obtain ⟨N, n1, n2⟩ := hd.2 e; exact ⟨N, n1, alloc_old n2⟩⟩, ⟨g1.alloc gz _, by simp; omega⟩, alloc_old g2, fun e7 => ?_⟩
            rw [set_other_get (by decide)] at e7
            obtain ⟨T, t1, t2, t3⟩ := g3 e7
            exact ⟨T, (put_other (by decide)).trans t1, t2, by rw [set_other_get (by decide)]; exact alloc_old t3⟩
        · obtain ⟨u1, e1, d1⟩ := h.new 0 _ 60 rfl rfl (haf ⟨0, .data⟩ (by simp) rfl)
          obtain ⟨u2, e2, d2⟩ := h.new 1 _ 61 rfl rfl (haf ⟨1, .data⟩ (by simp) rfl)
          have d1' : u1 = (.agg #[.int .i64 x.kind, .int .i64 x.n, .string x.s]) := d1.1
          have d2' : u2 = (.agg #[.int .i64 3, .int .i64 0, .string ⟨#[111, 110, 101]⟩]) := d2.1
          subst d1' d2'
          refine wp_val (v := .slice (some ⟨W.heap.size, 0, none⟩) 2 2) (w' := W.alloc (.cells #[.int .i64 x.kind, .int .i64 x.n, .string x.s, .int .i64 3, .int .i64 0, .string ⟨#[111, 110, 101]⟩] 24)) ?_ ⟨_, rfl, ⟨trivial, fun _ => ⟨_, rfl, alloc_newN rfl⟩⟩, fun j u hd => ⟨hd.1, fun e => by obtain ⟨N, n1, n2⟩ := hd.2 e; exact ⟨N, n1, alloc_old n2⟩⟩, ⟨g1.alloc gz _, by simp; omega⟩, alloc_old g2, fun e7 => ?_⟩
          · unfold execOp
            simp [e1, e2, go_sem]
          · rw [set_other_get (by decide)] at e7
            obtain ⟨T, t1, t2, t3⟩ := g3 e7
            exact ⟨T, (put_other (by decide)).trans t1, t2, by rw [set_other_get (by decide)]; exact alloc_old t3⟩
        · obtain ⟨u1, e1, d1⟩ := h.new 2 _ 62 rfl rfl (haf ⟨2, .data⟩ (by simp) rfl)
          obtain ⟨N, rfl, n2⟩ := d1.2 rfl
          refine wp_enter (f := 6) (args := #[.string ⟨#[61]⟩, .slice (some ⟨N, 0, none⟩) 2 2]) (w' := W) ?_ ((VK.out W N g1 n2).mono ?_)
          · unfold execOp
            simp [e1, go_sem]
          · rintro e W' ⟨rfl, hb⟩
            refine ⟨_, rfl, _, rfl, ⟨rfl, fun e => absurd e (by decide)⟩, fun j u hd => ⟨hd.1, fun e => by obtain ⟨N, n1, n2⟩ := hd.2 e; exact ⟨N, n1, blk_below hb (Array.getElem?_eq_some_iff.1 n2).1 n2⟩⟩, ⟨g1.trans (hb.mono gz), Nat.le_trans g0 hb.size⟩, blk_below hb (Array.getElem?_eq_some_iff.1 g2).1 g2, fun e7 => ?_⟩
            rw [set_other_get (by decide)] at e7
            obtain ⟨T, t1, t2, t3⟩ := g3 e7
            exact ⟨T, (put_other (by decide)).trans t1, t2, by rw [set_other_get (by decide)]; exact blk_below hb (Array.getElem?_eq_some_iff.1 t3).1 t3⟩
        · obtain ⟨u1, e1, d1⟩ := h.new 3 _ 63 rfl rfl (haf ⟨3, .data⟩ (by simp) rfl)
          have d1' : u1 = (.tuple #[.agg #[.int .i64 4, .int .i64 0, .string ⟨#[]⟩], .int .i64 0]) := d1.1
          subst d1'
          refine wp_val (v := .tuple #[.agg #[.int .i64 4, .int .i64 0, .string ⟨#[]⟩], .int .i64 0]) (w' := W) ?_ ⟨_, rfl, ⟨rfl, fun e => absurd e (by decide)⟩, fun _ _ h => h, ⟨g1, g0⟩, g2, fun e7 => ?_⟩
          · unfold execOp
            simp [e1, go_sem]
          · rw [set_other_get (by decide)] at e7
            obtain ⟨T, t1, t2, t3⟩ := g3 e7
            exact ⟨T, (put_other (by decide)).trans t1, t2, by rw [set_other_get (by decide)]; exact t3⟩
        · obtain ⟨u1, e1, d1⟩ := h.new 4 _ 59 rfl rfl (haf ⟨4, .data⟩ (by simp) rfl)
          have d1' : u1 = (.tuple #[.agg #[.int .i64 4, .int .i64 0, .string ⟨#[]⟩], .int .i64 0]) := d1.1
          subst d1'
          refine wp_val (v := .agg #[.int .i64 4, .int .i64 0, .string ⟨#[]⟩]) (w' := W) ?_ ⟨_, rfl, ⟨rfl, fun e => absurd e (by decide)⟩, fun _ _ h => h, ⟨g1, g0⟩, g2, fun e7 => ?_⟩
          · unfold execOp
            simp [e1, go_sem]
          · rw [set_other_get (by decide)] at e7
            obtain ⟨T, t1, t2, t3⟩ := g3 e7
            exact ⟨T, (put_other (by decide)).trans t1, t2, by rw [set_other_get (by decide)]; exact t3⟩
        · obtain ⟨u1, e1, d1⟩ := h.new 4 _ 59 rfl rfl (haf ⟨4, .data⟩ (by simp) rfl)
          have d1' : u1 = (.tuple #[.agg #[.int .i64 4, .int .i64 0, .string ⟨#[]⟩], .int .i64 0]) := d1.1
          subst d1'
          refine wp_val (v := .int .i64 0) (w' := W) ?_ ⟨_, rfl, ⟨rfl, fun e => absurd e (by decide)⟩, fun _ _ h => h, ⟨g1, g0⟩, g2, fun e7 => ?_⟩
          · unfold execOp
            simp [e1, go_sem]
          · rw [set_other_get (by decide)] at e7
            obtain ⟨T, t1, t2, t3⟩ := g3 e7
            exact ⟨T, (put_other (by decide)).trans t1, t2, by rw [set_other_get (by decide)]; exact t3⟩
        · have n8 := h.later 8 7 _ ⟨7, .data⟩ rfl (by simp) rfl rfl hl
          refine wp_val (v := .pointer (some ⟨W.heap.size, 0, none⟩)) (w' := W.alloc (.cells #[.int .i64 0, .int .i64 0, .string ⟨#[]⟩] 24)) ?_ ⟨_, rfl, ⟨trivial, fun e => absurd e (by decide)⟩, fun j u hd => ⟨hd.1, fun e => by obtain ⟨N, n1, n2⟩ := hd.2 e; exact ⟨N, n1, alloc_old n2⟩⟩, ⟨g1.alloc gz _, by simp; omega⟩, alloc_old g2, fun e7 => ⟨W.heap.size, put_this (by rw [h.size]; exact (by decide : (15 : Nat) < 105)), ?_, ?_⟩⟩
          · unfold execOp
            simp [go_sem]
          · exact g0
          · rw [set_other_get (by decide), n8, if_neg (by decide)]; exact alloc_newN rfl
        · obtain ⟨u1, e1, d1⟩ := h.new 5 _ 64 rfl rfl (haf ⟨5, .data⟩ (by simp) rfl)
          have d1' : u1 = (.agg #[.int .i64 4, .int .i64 0, .string ⟨#[]⟩]) := d1.1
          subst d1'
          obtain ⟨T, t1, t2, t3⟩ := g3 (haf ⟨7, .data⟩ (by simp) rfl)
          have n8 : l.getD 8 false = false := by rw [Array.getD_eq_getD_getElem?] at hl ⊢; cases hx : l[8]? with | none => rfl | some bb => rw [hx] at hl; exact hl
          rw [n8, if_neg (by decide)] at t3
          obtain ⟨c0, c1, c2, k0, k1, k2, _⟩ := blk3 t3
          refine wp_skip (w' := ((W.setCell ⟨T, 0, none⟩ (.int .i64 4)).setCell ⟨T, 1, none⟩ (.int .i64 0)).setCell ⟨T, 2, none⟩ (.string ⟨#[]⟩)) ?_ ⟨_, rfl, ⟨trivial, fun e => absurd e (by decide)⟩, fun j u hd => ⟨hd.1, fun e => by
            obtain ⟨N, n1, n2⟩ := hd.2 e
            have hne : N ≠ T := by rintro rfl; rw [n2] at t3; simp at t3
            exact ⟨N, n1, set_other (set_other (set_other n2 hne) hne) hne⟩⟩, ⟨((g1.setCell (by simp only []; omega) _).setCell (by simp only []; omega) _).setCell (by simp only []; omega) _, by simpa using g0⟩, set_other (set_other (set_other g2 (by omega)) (by omega)) (by omega), fun e7 => ⟨T, t1, t2, ?_⟩⟩
          · unfold execOp
            simp [e1, t1, go_sem, c0, c1, c2, k0, k1, k2]
          · rw [set_this_get hsz (by decide), if_pos rfl]; exact set_same (set_same (set_same t3 0 _) 1 _) 2 _
        · obtain ⟨u1, e1, d1⟩ := h.new 6 _ 65 rfl rfl (haf ⟨6, .data⟩ (by simp) rfl)
          have d1' : u1 = .int .i64 0 := d1.1
          subst d1'
          refine wp_val (v := .int .i64 0) (w' := W) ?_ ⟨_, rfl, ⟨rfl, fun e => absurd e (by decide)⟩, fun _ _ h => h, ⟨g1, g0⟩, g2, fun e7 => ?_⟩
          · unfold execOp
            simp [e1, go_sem]
          · rw [set_other_get (by decide)] at e7
            obtain ⟨T, t1, t2, t3⟩ := g3 e7
            exact ⟨T, (put_other (by decide)).trans t1, t2, by rw [set_other_get (by decide)]; exact t3⟩
      intro v V17 hv hs hg
      obtain ⟨⟨g1, _⟩, g2, g3⟩ := hg
      obtain ⟨TV17, t1, t2, t3⟩ := g3 rfl
      have d7 : v 7 = .pointer (some ⟨TV17, 0, none⟩) := Option.some.inj ((hs 7 _ 15 rfl rfl).symm.trans t1)
      have d9 : v 9 = .int .i64 0 := (hv 9 _ 16 rfl rfl).1
      have t4 : V17.heap[TV17]? = some (.cells #[.int .i64 4, .int .i64 0, .string ⟨#[]⟩] 24) := t3
      simp only [putAll, d7, d9, Act.put, List.setIfInBounds_toArray, List.set_cons_succ, List.set_cons_zero]
      have HBV17 := hidR g1
      have HXV17 := hidR g2
      have HRV17 := hidR t4
      clear hv hs d7 d9 t1 t2 t3 t4 g1 g2 g3 VK
      go_upto_region 18 with fail
      have VK : Hid (∀ W g, Below w.heap.size w W → W.heap[g]? = some (.cells #[.int .i64 x.kind, .int .i64 x.n, .string x.s, .int .i64 3, .int .i64 0, .string ⟨#[111, 110, 101]⟩] 24) → Calls Tryz.prog 6 #[.string ⟨#[33, 61]⟩, .slice (some ⟨g, 0, none⟩) 2 2] W fun e w' => e = .returned (.tuple #[.agg #[.int .i64 4, .int .i64 1, .string ⟨#[]⟩], .int .i64 0]) ∧ Below W.heap.size W w') := V2.out
      have h7P : T7 < V17.heap.size := (Array.getElem?_eq_some_iff.1 HXV17.out).1
      have hzP := HBV17.out.size
      have hl0 := (Array.getElem?_eq_some_iff.1 (HRV17.out)).1
      refine wp_region_slots (by kernel_rfl) (fun j v W => (match j with | 0 => v = (.agg #[.int .i64 x.kind, .int .i64 x.n, .string x.s]) | 1 => v = (.agg #[.int .i64 3, .int .i64 0, .string ⟨#[111, 110, 101]⟩]) | 3 => v = (.tuple #[.agg #[.int .i64 4, .int .i64 1, .string ⟨#[]⟩], .int .i64 0]) | 4 => v = (.tuple #[.agg #[.int .i64 4, .int .i64 1, .string ⟨#[]⟩], .int .i64 0]) | 5 => v = (.agg #[.int .i64 4, .int .i64 1, .string ⟨#[]⟩]) | 6 => v = .int .i64 0 | 9 => v = .int .i64 0 | _ => True) ∧ (j = 2 → ∃ N, v = .slice (some ⟨N, 0, none⟩) 2 2 ∧ W.heap[N]? = some (.cells #[.int .i64 x.kind, .int .i64 x.n, .string x.s, .int .i64 3, .int .i64 0, .string ⟨#[111, 110, 101]⟩] 24))) (fun l a W => (Below w.heap.size w W ∧ V17.heap.size ≤ W.heap.size) ∧ W.heap[T7]? = some (.cells #[.int .i64 x.kind, .int .i64 x.n, .string x.s] 24) ∧ W.heap[TV17]? = some (.cells #[.int .i64 4, .int .i64 0, .string ⟨#[]⟩] 24) ∧ (l.getD 7 false = true → ∃ T, a.tmps[17]? = some (.pointer (some ⟨T, 0, none⟩)) ∧ V17.heap.size ≤ T ∧ W.heap[T]? = some (if l.getD 8 false = true then (.cells #[.int .i64 4, .int .i64 1, .string ⟨#[]⟩] 24) else (.cells #[.int .i64 0, .int .i64 0, .string ⟨#[]⟩] 24)))) (by kernel_rfl) (by kernel_rfl) ⟨⟨HBV17.out.trans (drew_belowE _ _), Nat.le_refl _⟩, HXV17.out, HRV17.out, fun e7 => by rw [Array.getD_eq_getD_getElem?, Array.getElem?_replicate] at e7; split at e7 <;> cases e7⟩ ?_ ?_
      · intro l a W i o hsz h ho hl haf
        obtain ⟨⟨g1, g0⟩, g2, x0, g3⟩ := h.more
        have gz := g1.size
        have hi : i < 10 := (Array.getElem?_eq_some_iff.1 ho).1
        obtain rfl | rfl | rfl | rfl | rfl | rfl | rfl | rfl | rfl | rfl : i = 0 ∨ i = 1 ∨ i = 2 ∨ i = 3 ∨ i = 4 ∨ i = 5 ∨ i = 6 ∨ i = 7 ∨ i = 8 ∨ i = 9 := by omega
        all_goals (obtain rfl := Option.some.inj ho; rw [if_pos (want_none rfl)])
        · have e8 := h.given 7 _ rfl (by kernel_rfl)
          obtain ⟨c0, c1, c2, _⟩ := blk3 g2
          refine wp_val (v := .agg #[.int .i64 x.kind, .int .i64 x.n, .string x.s]) (w' := W) ?_ ⟨_, rfl, ⟨rfl, fun e => absurd e (by decide)⟩, fun _ _ h => h, ⟨g1, g0⟩, g2, x0, fun e7 => ?_⟩
          · unfold execOp
            simp [e8, go_sem, c0, c1, c2]
          · rw [set_other_get (by decide)] at e7
            obtain ⟨T, t1, t2, t3⟩ := g3 e7
            exact ⟨T, (put_other (by decide)).trans t1, t2, by rw [set_other_get (by decide)]; exact t3⟩
        · refine wp_enter (f := 8) (args := #[.string ⟨#[111, 110, 101]⟩]) (w' := W) ?_ ((CW.out W _).mono ?_)
          · unfold execOp
            simp [go_sem]
          · rintro e W' ⟨rfl, rfl⟩
            refine ⟨_, rfl, _, rfl, ⟨rfl, fun e => absurd e (by decide)⟩, fun j u hd => ⟨hd.1, fun e => by obtain ⟨N, n1, n2⟩ := hd.2 e; exact ⟨N, n1, alloc_old n2⟩⟩, ⟨g1.alloc gz _, by simp; omega⟩, alloc_old g2, alloc_old x0, fun e7 => ?_⟩
            rw [set_other_get (by decide)] at e7
            obtain ⟨T, t1, t2, t3⟩ := g3 e7
            exact ⟨T, (put_other (by decide)).trans t1, t2, by rw [set_other_get (by decide)]; exact alloc_old t3⟩
        · obtain ⟨u1, e1, d1⟩ := h.new 0 _ 67 rfl rfl (haf ⟨0, .data⟩ (by simp) rfl)
          obtain ⟨u2, e2, d2⟩ := h.new 1 _ 68 rfl rfl (haf ⟨1, .data⟩ (by simp) rfl)
          have d1' : u1 = (.agg #[.int .i64 x.kind, .int .i64 x.n, .string x.s]) := d1.1
          have d2' : u2 = (.agg #[.int .i64 3, .int .i64 0, .string ⟨#[111, 110, 101]⟩]) := d2.1
          subst d1' d2'
          refine wp_val (v := .slice (some ⟨W.heap.size, 0, none⟩) 2 2) (w' := W.alloc (.cells #[.int .i64 x.kind, .int .i64 x.n, .string x.s, .int .i64 3, .int .i64 0, .string ⟨#[111, 110, 101]⟩] 24)) ?_ ⟨_, rfl, ⟨trivial, fun _ => ⟨_, rfl, alloc_newN rfl⟩⟩, fun j u hd => ⟨hd.1, fun e => by obtain ⟨N, n1, n2⟩ := hd.2 e; exact ⟨N, n1, alloc_old n2⟩⟩, ⟨g1.alloc gz _, by simp; omega⟩, alloc_old g2, alloc_old x0, fun e7 => ?_⟩
          · unfold execOp
            simp [e1, e2, go_sem]
          · rw [set_other_get (by decide)] at e7
            obtain ⟨T, t1, t2, t3⟩ := g3 e7
            exact ⟨T, (put_other (by decide)).trans t1, t2, by rw [set_other_get (by decide)]; exact alloc_old t3⟩
        · obtain ⟨u1, e1, d1⟩ := h.new 2 _ 69 rfl rfl (haf ⟨2, .data⟩ (by simp) rfl)
          obtain ⟨N, rfl, n2⟩ := d1.2 rfl
          refine wp_enter (f := 6) (args := #[.string ⟨#[33, 61]⟩, .slice (some ⟨N, 0, none⟩) 2 2]) (w' := W) ?_ ((VK.out W N g1 n2).mono ?_)
          · unfold execOp
            simp [e1, go_sem]
          · rintro e W' ⟨rfl, hb⟩
            refine ⟨_, rfl, _, rfl, ⟨rfl, fun e => absurd e (by decide)⟩, fun j u hd => ⟨hd.1, fun e => by obtain ⟨N, n1, n2⟩ := hd.2 e; exact ⟨N, n1, blk_below hb (Array.getElem?_eq_some_iff.1 n2).1 n2⟩⟩, ⟨g1.trans (hb.mono gz), Nat.le_trans g0 hb.size⟩, blk_below hb (Array.getElem?_eq_some_iff.1 g2).1 g2, blk_below hb (Array.getElem?_eq_some_iff.1 x0).1 x0, fun e7 => ?_⟩
            rw [set_other_get (by decide)] at e7
            obtain ⟨T, t1, t2, t3⟩ := g3 e7
            exact ⟨T, (put_other (by decide)).trans t1, t2, by rw [set_other_get (by decide)]; exact blk_below hb (Array.getElem?_eq_some_iff.1 t3).1 t3⟩
        · obtain ⟨u1, e1, d1⟩ := h.new 3 _ 70 rfl rfl (haf ⟨3, .data⟩ (by simp) rfl)
          have d1' : u1 = (.tuple #[.agg #[.int .i64 4, .int .i64 1, .string ⟨#[]⟩], .int .i64 0]) := d1.1
          subst d1'
          refine wp_val (v := .tuple #[.agg #[.int .i64 4, .int .i64 1, .string ⟨#[]⟩], .int .i64 0]) (w' := W) ?_ ⟨_, rfl, ⟨rfl, fun e => absurd e (by decide)⟩, fun _ _ h => h, ⟨g1, g0⟩, g2, x0, fun e7 => ?_⟩
          · unfold execOp
            simp [e1, go_sem]
          · rw [set_other_get (by decide)] at e7
            obtain ⟨T, t1, t2, t3⟩ := g3 e7
            exact ⟨T, (put_other (by decide)).trans t1, t2, by rw [set_other_get (by decide)]; exact t3⟩
        · obtain ⟨u1, e1, d1⟩ := h.new 4 _ 66 rfl rfl (haf ⟨4, .data⟩ (by simp) rfl)
          have d1' : u1 = (.tuple #[.agg #[.int .i64 4, .int .i64 1, .string ⟨#[]⟩], .int .i64 0]) := d1.1
          subst d1'
          refine wp_val (v := .agg #[.int .i64 4, .int .i64 1, .string ⟨#[]⟩]) (w' := W) ?_ ⟨_, rfl, ⟨rfl, fun e => absurd e (by decide)⟩, fun _ _ h => h, ⟨g1, g0⟩, g2, x0, fun e7 => ?_⟩
          · unfold execOp
            simp [e1, go_sem]
          · rw [set_other_get (by decide)] at e7
            obtain ⟨T, t1, t2, t3⟩ := g3 e7
            exact ⟨T, (put_other (by decide)).trans t1, t2, by rw [set_other_get (by decide)]; exact t3⟩
        · obtain ⟨u1, e1, d1⟩ := h.new 4 _ 66 rfl rfl (haf ⟨4, .data⟩ (by simp) rfl)
          have d1' : u1 = (.tuple #[.agg #[.int .i64 4, .int .i64 1, .string ⟨#[]⟩], .int .i64 0]) := d1.1
          subst d1'
          refine wp_val (v := .int .i64 0) (w' := W) ?_ ⟨_, rfl, ⟨rfl, fun e => absurd e (by decide)⟩, fun _ _ h => h, ⟨g1, g0⟩, g2, x0, fun e7 => ?_⟩
          · unfold execOp
            simp [e1, go_sem]
          · rw [set_other_get (by decide)] at e7
            obtain ⟨T, t1, t2, t3⟩ := g3 e7
            exact ⟨T, (put_other (by decide)).trans t1, t2, by rw [set_other_get (by decide)]; exact t3⟩
        · have n8 := h.later 8 7 _ ⟨7, .data⟩ rfl (by simp) rfl rfl hl
          refine wp_val (v := .pointer (some ⟨W.heap.size, 0, none⟩)) (w' := W.alloc (.cells #[.int .i64 0, .int .i64 0, .string ⟨#[]⟩] 24)) ?_ ⟨_, rfl, ⟨trivial, fun e => absurd e (by decide)⟩, fun j u hd => ⟨hd.1, fun e => by obtain ⟨N, n1, n2⟩ := hd.2 e; exact ⟨N, n1, alloc_old n2⟩⟩, ⟨g1.alloc gz _, by simp; omega⟩, alloc_old g2, alloc_old x0, fun e7 => ⟨W.heap.size, put_this (by rw [h.size]; exact (by decide : (17 : Nat) < 105)), ?_, ?_⟩⟩
          · unfold execOp
            simp [go_sem]
          · exact g0
          · rw [set_other_get (by decide), n8, if_neg (by decide)]; exact alloc_newN rfl
        · obtain ⟨u1, e1, d1⟩ := h.new 5 _ 71 rfl rfl (haf ⟨5, .data⟩ (by simp) rfl)
          have d1' : u1 = (.agg #[.int .i64 4, .int .i64 1, .string ⟨#[]⟩]) := d1.1
          subst d1'
          obtain ⟨T, t1, t2, t3⟩ := g3 (haf ⟨7, .data⟩ (by simp) rfl)
          have n8 : l.getD 8 false = false := by rw [Array.getD_eq_getD_getElem?] at hl ⊢; cases hx : l[8]? with | none => rfl | some bb => rw [hx] at hl; exact hl
          rw [n8, if_neg (by decide)] at t3
          obtain ⟨c0, c1, c2, k0, k1, k2, _⟩ := blk3 t3
          refine wp_skip (w' := ((W.setCell ⟨T, 0, none⟩ (.int .i64 4)).setCell ⟨T, 1, none⟩ (.int .i64 1)).setCell ⟨T, 2, none⟩ (.string ⟨#[]⟩)) ?_ ⟨_, rfl, ⟨trivial, fun e => absurd e (by decide)⟩, fun j u hd => ⟨hd.1, fun e => by
            obtain ⟨N, n1, n2⟩ := hd.2 e
            have hne : N ≠ T := by rintro rfl; rw [n2] at t3; simp at t3
            exact ⟨N, n1, set_other (set_other (set_other n2 hne) hne) hne⟩⟩, ⟨((g1.setCell (by simp only []; omega) _).setCell (by simp only []; omega) _).setCell (by simp only []; omega) _, by simpa using g0⟩, set_other (set_other (set_other g2 (by omega)) (by omega)) (by omega), set_other (set_other (set_other x0 (by omega)) (by omega)) (by omega), fun e7 => ⟨T, t1, t2, ?_⟩⟩
          · unfold execOp
            simp [e1, t1, go_sem, c0, c1, c2, k0, k1, k2]
          · rw [set_this_get hsz (by decide), if_pos rfl]; exact set_same (set_same (set_same t3 0 _) 1 _) 2 _
        · obtain ⟨u1, e1, d1⟩ := h.new 6 _ 72 rfl rfl (haf ⟨6, .data⟩ (by simp) rfl)
          have d1' : u1 = .int .i64 0 := d1.1
          subst d1'
          refine wp_val (v := .int .i64 0) (w' := W) ?_ ⟨_, rfl, ⟨rfl, fun e => absurd e (by decide)⟩, fun _ _ h => h, ⟨g1, g0⟩, g2, x0, fun e7 => ?_⟩
          · unfold execOp
            simp [e1, go_sem]
          · rw [set_other_get (by decide)] at e7
            obtain ⟨T, t1, t2, t3⟩ := g3 e7
            exact ⟨T, (put_other (by decide)).trans t1, t2, by rw [set_other_get (by decide)]; exact t3⟩
      intro v V18 hv hs hg
      obtain ⟨⟨g1, _⟩, g2, x0, g3⟩ := hg
      obtain ⟨TV18, t1, t2, t3⟩ := g3 rfl
      have d7 : v 7 = .pointer (some ⟨TV18, 0, none⟩) := Option.some.inj ((hs 7 _ 17 rfl rfl).symm.trans t1)
      have d9 : v 9 = .int .i64 0 := (hv 9 _ 18 rfl rfl).1
      have t4 : V18.heap[TV18]? = some (.cells #[.int .i64 4, .int .i64 1, .string ⟨#[]⟩] 24) := t3
      simp only [putAll, d7, d9, Act.put, List.setIfInBounds_toArray, List.set_cons_succ, List.set_cons_zero]
      have HBV18 := hidR g1
      have HXV18 := hidR g2
      have HRV18 := hidR t4
      have HE0V18 := hidR x0
      clear hv hs d7 d9 t1 t2 t3 t4 g1 g2 g3 VK x0
      obtain ⟨_, o1, _, _, _, _, o3⟩ := blk3 HE0V18.out
      obtain ⟨_, u1, _, _, _, _, u3⟩ := blk3 HRV18.out
      have e2 := HE2.out
      clear HE2
      rcases e2 with rfl | rfl | rfl
      all_goals
        go_wp2_with fail
        go_ret
        exact ⟨rfl, HBV18.out⟩
end Go.Proofs.YtmoeipdchapodaaGreatDoor
