/-
  THE LAW ApplyNumbers, of great numbers.
-/
import Derived.Test.YtmoeipdchapodaaGreatDoorRuLawB
import Derived.Deep.RegionHeld3
import Derived.Shelf.SlSortCmp.QuietGrown
set_option linter.unusedVariables false
namespace Go.Proofs.YtmoeipdchapodaaGreatDoor
set_option maxRecDepth 100000
open Go.RowKit Go.WideShapes

set_option maxHeartbeats 12800000 in
theorem lawNumbers1 (a b : Int) (w : World) (ha : -9223372036854775808 ≤ a ∧ a ≤ 9223372036854775807) (hb : -9223372036854775808 ≤ b ∧ b ≤ 9223372036854775807) (hw : RunEnv w) :
    Calls Tryz.prog 3 #[.int .i64 a, .int .i64 b, .bool true] w fun e w' => e = .returned (.bool true) ∧ Below w.heap.size w w' := by
  have CN : Hid (∀ W n, Calls Tryz.prog 7 #[.int .i64 n] W fun e w' => e = .returned (.agg #[.int .i64 2, .int .i64 n, .string ⟨#[]⟩]) ∧ w' = W.alloc (.cells #[.int .i64 2, .int .i64 n, .string ⟨#[]⟩] 24)) := fun W n => number_is n W
  have HW := hidR hw
  clear hw
  · have CA : Hid (∀ W, Calls Tryz.prog 5 #[.int .i64 a, .int .i64 1099511627777] W fun e w' => e = .returned (.int .i64 (pk a 1099511627777)) ∧ w' = W) := fun W => picked_is a 1099511627777 W ha (by decide) (by decide)
    have CB : Hid (∀ W, Calls Tryz.prog 5 #[.int .i64 b, .int .i64 1099511627777] W fun e w' => e = .returned (.int .i64 (pk b 1099511627777)) ∧ w' = W) := fun W => picked_is b 1099511627777 W hb (by decide) (by decide)
    obtain ⟨xa, xb⟩ := pk_in (a := a) (m := 1099511627777) (by decide)
    obtain ⟨ya, yb⟩ := pk_in (a := b) (m := 1099511627777) (by decide)
    generalize pk a 1099511627777 = X at *
    generalize pk b 1099511627777 = Y0 at *
    have hX : 0 ≤ X ∧ X ≤ 1099511627776 := by omega
    have hY : -549755813888 ≤ Y0 - 549755813888 ∧ Y0 - 549755813888 ≤ 549755813888 := by omega
    go_enter Tryz.func3, Tryz.ntmps3
    go_upto_region 6 with (first
      | (go_at_call 5; refine (CA.out _).mono ?_; rintro e w1 ⟨rfl, hw1⟩; obtain rfl := hw1.symm; clear CA)
      | (go_at_call 5; refine (CB.out _).mono ?_; rintro e w1 ⟨rfl, hw1⟩; obtain rfl := hw1.symm; clear CB))
    obtain ⟨Y, hYe⟩ : ∃ Y, Y = Y0 - 549755813888 := ⟨_, rfl⟩
    rw [← hYe] at hY ⊢
    clear hYe ya yb
    obtain ⟨S, B, Q, R, E1, E2, E3, E4, F4⟩ := four_are HW.out hX hY
    have V1 := hidR F4.v1
    have V2 := hidR F4.v2
    have V3 := hidR F4.v3
    have V4 := hidR F4.v4
    have HF := hidR F4
    clear F4
    go_upto_region 7 with (first
      | (go_at_call 7; refine (CN.out _ _).mono ?_; rintro e w1 ⟨rfl, hw1⟩; subst hw1)
      | (go_at_call 6; refine (V1.out _ _ ?_ ?_).mono ?_; (· (focus (repeat (first | exact Below.refl _ _ | exact Hid.out (by assumption) | refine Below.setCell ?_ (by first | omega | (simp <;> omega)) _ | refine Below.alloc ?_ (by first | omega | (simp <;> omega)) _ | refine Below.trans ?_ (drew_belowE _ _))))); (· exact alloc_newN (by simp)); rintro e w2 ⟨rfl, hb2⟩; have HB2 : Hid (Below w.heap.size w w2) := Below.trans (by (focus (repeat (first | exact Below.refl _ _ | exact Hid.out (by assumption) | refine Below.setCell ?_ (by first | omega | (simp <;> omega)) _ | refine Below.alloc ?_ (by first | omega | (simp <;> omega)) _ | refine Below.trans ?_ (drew_belowE _ _))))) (hb2.mono (by first | omega | (simp <;> omega))); clear hb2 V1))
    obtain ⟨W6, hW6⟩ : ∃ W, W = w2.alloc (.cells #[.int .i64 S.kind, .int .i64 S.n, .string S.s] 24) := ⟨_, rfl⟩
    have HB6 : Hid (Below w.heap.size w W6) := by rw [hW6]; exact HB2.out.alloc HB2.out.size _
    have HS6 : Hid (W6.heap[w2.heap.size]? = some (.cells #[.int .i64 S.kind, .int .i64 S.n, .string S.s] 24)) := by rw [hW6]; exact alloc_newN rfl
    have hz6 : w2.heap.size < W6.heap.size := by rw [hW6]; simp
    rw [← hW6]
    clear hW6 HB2
    generalize w2.heap.size = T at *
    clear w2
    have HS : Hid (∀ W, Below W6.heap.size W6 W → W.cell? ⟨T, 0, none⟩ = some (.int .i64 S.kind) ∧ W.cell? ⟨T, 1, none⟩ = some (.int .i64 S.n) ∧ W.cell? ⟨T, 2, none⟩ = some (.string S.s) ∧ T < W.heap.size) := fun W hW => by
      obtain ⟨c0, c1, c2, _, _, _, c3⟩ := blk3 ((hW.block _ hz6).trans HS6.out)
      exact ⟨c0, c1, c2, c3⟩
    have HB0 : Hid (Below W6.heap.size W6 W6.drew) := drew_belowE _ _
    go_region_held3 (fun W => W.cell? ⟨T, 0, none⟩ = some (.int .i64 S.kind) ∧ W.cell? ⟨T, 1, none⟩ = some (.int .i64 S.n) ∧ W.cell? ⟨T, 2, none⟩ = some (.string S.s) ∧ T < W.heap.size)
      ((refine HS.out _ ?_; (focus (repeat (first | exact Below.refl _ _ | exact Hid.out (by assumption) | refine Below.setCell ?_ (by first | omega | (simp <;> omega)) _ | refine Below.alloc ?_ (by first | omega | (simp <;> omega)) _ | refine Below.trans ?_ (drew_belowE _ _))))))
      (first
        | (go_at_call 7; refine (CN.out _ _).mono ?_; rintro e w3 ⟨rfl, hw3⟩; subst hw3)
        | (go_at_call 6; refine (V2.out _ _ ?_ ?_).mono ?_; (· refine HB6.out.trans (Below.mono (B := W6.heap.size) ?_ HB6.out.size); (focus (repeat (first | exact Below.refl _ _ | exact Hid.out (by assumption) | refine Below.setCell ?_ (by first | omega | (simp <;> omega)) _ | refine Below.alloc ?_ (by first | omega | (simp <;> omega)) _ | refine Below.trans ?_ (drew_belowE _ _))))); (· (first | exact alloc_newN (by simp) | exact alloc_old (alloc_newN (by simp)))); rintro e w4 ⟨rfl, hb4⟩; have HB4 : Hid (Below W6.heap.size W6 w4) := Below.trans (by (focus (repeat (first | exact Below.refl _ _ | exact Hid.out (by assumption) | refine Below.setCell ?_ (by first | omega | (simp <;> omega)) _ | refine Below.alloc ?_ (by first | omega | (simp <;> omega)) _ | refine Below.trans ?_ (drew_belowE _ _))))) (hb4.mono (by first | omega | (simp <;> omega))); (first | (have zy := ((hb4.block (W6.heap.size) (by first | omega | (simp <;> omega))).trans (blk_drew (alloc_old (alloc_old (alloc_newN (o := .cells #[.int .i64 0, .int .i64 0, .string ⟨#[]⟩] 24) rfl))))); have HZ4 := hidR zy; have zz := blk3 zy; clear zy; obtain ⟨z0, z1, z2, z3, z4, z5, z6⟩ := zz) | (have zy := ((hb4.block (W6.heap.size + 1) (by first | omega | (simp <;> omega))).trans (blk_drew (alloc_old (alloc_newN (o := .cells #[.int .i64 0, .int .i64 0, .string ⟨#[]⟩] 24) (by simp))))); have HZ4 := hidR zy; have zz := blk3 zy; clear zy; obtain ⟨z0, z1, z2, z3, z4, z5, z6⟩ := zz) | (have zy := ((hb4.block (W6.heap.size + 1 + 1) (by first | omega | (simp <;> omega))).trans (blk_drew (alloc_newN (o := .cells #[.int .i64 0, .int .i64 0, .string ⟨#[]⟩] 24) (by simp)))); have HZ4 := hidR zy; have zz := blk3 zy; clear zy; obtain ⟨z0, z1, z2, z3, z4, z5, z6⟩ := zz) | skip); have hz4 := HB4.out.size; clear hb4))
    all_goals
      rename_i hHeld
      clear hHeld
      (first
        | (obtain ⟨W7, hW7⟩ : ∃ W, W = w4.alloc (.cells #[.int .i64 B.kind, .int .i64 B.n, .string B.s] 24) := ⟨_, rfl⟩; rw [← hW7]; have HB7 : Hid (Below w.heap.size w W7) := (by rw [hW7]; exact HB6.out.trans ((HB4.out.alloc (by omega) _).mono HB6.out.size)); have HT7 : Hid (W7.heap[w4.heap.size]? = some (.cells #[.int .i64 B.kind, .int .i64 B.n, .string B.s] 24)) := (by rw [hW7]; exact alloc_newN rfl); obtain ⟨T7, hT7⟩ : ∃ T, T = w4.heap.size := ⟨_, rfl⟩; rw [← hT7] at HT7 ⊢)
        | (obtain ⟨W7, hW7⟩ : ∃ W, W = ((w4.setCell ⟨W6.heap.size + 1 + 1, 0, none⟩ (.int .i64 B.kind)).setCell ⟨W6.heap.size + 1 + 1, 1, none⟩ (.int .i64 B.n)).setCell ⟨W6.heap.size + 1 + 1, 2, none⟩ (.string B.s) := ⟨_, rfl⟩; rw [← hW7]; have HB7 : Hid (Below w.heap.size w W7) := (by rw [hW7]; exact HB6.out.trans ((((HB4.out.setCell (by simp only []; omega) _).setCell (by simp only []; omega) _).setCell (by simp only []; omega) _).mono HB6.out.size)); have HT7 : Hid (W7.heap[W6.heap.size + 1 + 1]? = some (.cells #[.int .i64 B.kind, .int .i64 B.n, .string B.s] 24)) := (by rw [hW7]; exact set_same (set_same (set_same HZ4.out 0 _) 1 _) 2 _); clear HZ4 z0 z1 z2 z3 z4 z5 z6; obtain ⟨T7, hT7⟩ : ∃ T, T = W6.heap.size + 1 + 1 := ⟨_, rfl⟩; rw [← hT7] at HT7 ⊢)
        | (obtain ⟨W7, hW7⟩ : ∃ W, W = ((w4.setCell ⟨W6.heap.size + 1, 0, none⟩ (.int .i64 B.kind)).setCell ⟨W6.heap.size + 1, 1, none⟩ (.int .i64 B.n)).setCell ⟨W6.heap.size + 1, 2, none⟩ (.string B.s) := ⟨_, rfl⟩; rw [← hW7]; have HB7 : Hid (Below w.heap.size w W7) := (by rw [hW7]; exact HB6.out.trans ((((HB4.out.setCell (by simp only []; omega) _).setCell (by simp only []; omega) _).setCell (by simp only []; omega) _).mono HB6.out.size)); have HT7 : Hid (W7.heap[W6.heap.size + 1]? = some (.cells #[.int .i64 B.kind, .int .i64 B.n, .string B.s] 24)) := (by rw [hW7]; exact set_same (set_same (set_same HZ4.out 0 _) 1 _) 2 _); clear HZ4 z0 z1 z2 z3 z4 z5 z6; obtain ⟨T7, hT7⟩ : ∃ T, T = W6.heap.size + 1 := ⟨_, rfl⟩; rw [← hT7] at HT7 ⊢)
        | (obtain ⟨W7, hW7⟩ : ∃ W, W = ((w4.setCell ⟨W6.heap.size, 0, none⟩ (.int .i64 B.kind)).setCell ⟨W6.heap.size, 1, none⟩ (.int .i64 B.n)).setCell ⟨W6.heap.size, 2, none⟩ (.string B.s) := ⟨_, rfl⟩; rw [← hW7]; have HB7 : Hid (Below w.heap.size w W7) := (by rw [hW7]; exact HB6.out.trans ((((HB4.out.setCell (by simp only []; omega) _).setCell (by simp only []; omega) _).setCell (by simp only []; omega) _).mono HB6.out.size)); have HT7 : Hid (W7.heap[W6.heap.size]? = some (.cells #[.int .i64 B.kind, .int .i64 B.n, .string B.s] 24)) := (by rw [hW7]; exact set_same (set_same (set_same HZ4.out 0 _) 1 _) 2 _); clear HZ4 z0 z1 z2 z3 z4 z5 z6; obtain ⟨T7, hT7⟩ : ∃ T, T = W6.heap.size := ⟨_, rfl⟩; rw [← hT7] at HT7 ⊢)
        | fail)
      clear HB4 HB6 HS6 HS HB0 hz6
      have hz7 : T7 < W7.heap.size := (Array.getElem?_eq_some_iff.1 HT7.out).1
      have hy7 := HB7.out.size
      clear hT7 hW7 hz4
      go_upto_region 10 with (first
        | (go_at_call 7; refine (CN.out _ _).mono ?_; rintro e w1 ⟨rfl, hw1⟩; subst hw1)
        | (go_at_call 6; refine (V3.out _ _ ?_ ?_).mono ?_; (· (focus (repeat (first | exact Below.refl _ _ | exact Hid.out (by assumption) | refine Below.setCell ?_ (by first | omega | (simp <;> omega)) _ | refine Below.alloc ?_ (by first | omega | (simp <;> omega)) _ | refine Below.trans ?_ (drew_belowE _ _))))); (· exact alloc_newN (by simp)); rintro e w8 ⟨rfl, hb8⟩; have HB8 : Hid (Below w.heap.size w w8) := Below.trans (by (focus (repeat (first | exact Below.refl _ _ | exact Hid.out (by assumption) | refine Below.setCell ?_ (by first | omega | (simp <;> omega)) _ | refine Below.alloc ?_ (by first | omega | (simp <;> omega)) _ | refine Below.trans ?_ (drew_belowE _ _))))) (hb8.mono (by first | omega | (simp <;> omega))); have HT8 : Hid (w8.heap[T7]? = some (.cells #[.int .i64 B.kind, .int .i64 B.n, .string B.s] 24)) := (hb8.block _ (by first | omega | (simp <;> omega))).trans (alloc_old (alloc_old (alloc_old HT7.out))); have hz8 : T7 < w8.heap.size := (Array.getElem?_eq_some_iff.1 HT8.out).1; have hy8 := HB8.out.size; clear hb8 V3 HB7 HT7)
        | (go_at_call 6; refine (V4.out _ _ ?_ ?_).mono ?_; (· (focus (repeat (first | exact Below.refl _ _ | exact Hid.out (by assumption) | refine Below.setCell ?_ (by first | omega | (simp <;> omega)) _ | refine Below.alloc ?_ (by first | omega | (simp <;> omega)) _ | refine Below.trans ?_ (drew_belowE _ _))))); (· exact alloc_newN (by simp)); rintro e w9 ⟨rfl, hb9⟩; have HB9 : Hid (Below w.heap.size w w9) := Below.trans (by (focus (repeat (first | exact Below.refl _ _ | exact Hid.out (by assumption) | refine Below.setCell ?_ (by first | omega | (simp <;> omega)) _ | refine Below.alloc ?_ (by first | omega | (simp <;> omega)) _ | refine Below.trans ?_ (drew_belowE _ _))))) (hb9.mono (by first | omega | (simp <;> omega))); have HT9 : Hid (w9.heap[T7]? = some (.cells #[.int .i64 B.kind, .int .i64 B.n, .string B.s] 24)) := (hb9.block _ (by first | omega | (simp <;> omega))).trans (alloc_old (alloc_old (alloc_old (alloc_old HT8.out)))); have HQ9 : Hid (w9.heap[w8.heap.size]? = some (.cells #[.int .i64 Q.kind, .int .i64 Q.n, .string Q.s] 24)) := (hb9.block _ (by first | omega | (simp <;> omega))).trans (alloc_old (alloc_old (alloc_old (alloc_newN rfl)))); have hz9 : T7 < w9.heap.size := (Array.getElem?_eq_some_iff.1 HT9.out).1; have hx9 : w8.heap.size < w9.heap.size := (Array.getElem?_eq_some_iff.1 HQ9.out).1; have hy9 := HB9.out.size; clear hb9 V4 HB8 HT8))
      obtain ⟨W10, hW10⟩ : ∃ W, W = w9.alloc (.cells #[.int .i64 R.kind, .int .i64 R.n, .string R.s] 24) := ⟨_, rfl⟩
      have HB10 : Hid (Below w.heap.size w W10) := by rw [hW10]; exact HB9.out.alloc HB9.out.size _
      have HT10 : Hid (W10.heap[T7]? = some (.cells #[.int .i64 B.kind, .int .i64 B.n, .string B.s] 24)) := by rw [hW10]; exact alloc_old HT9.out
      have HQ10 : Hid (W10.heap[w8.heap.size]? = some (.cells #[.int .i64 Q.kind, .int .i64 Q.n, .string Q.s] 24)) := by rw [hW10]; exact alloc_old HQ9.out
      have HR10 : Hid (W10.heap[w9.heap.size]? = some (.cells #[.int .i64 R.kind, .int .i64 R.n, .string R.s] 24)) := by rw [hW10]; exact alloc_newN rfl
      rw [← hW10]
      clear hW10 HB9 HT9 HQ9 hy9 hz9 hx9
      generalize w8.heap.size = T8 at *
      generalize w9.heap.size = T9 at *
      by_cases hbig : 1099511627776 < X + Y
      · have e1 := HF.out.big hbig
        subst e1
        go_wp2_with fail
        go_ret
        exact ⟨rfl, HB10.out⟩
      · by_cases h0 : Y = 0
        · obtain ⟨e1, e3, e4⟩ := HF.out.none_ hbig h0
          subst e1 e3 e4
          have h1 : (Y == 0) = true := by simpa using h0
          clear h0
          go_wp2_with fail
          go_ret
          exact ⟨rfl, HB10.out⟩
        · obtain ⟨e1, e2, e3, e4, eB, hq, hr1, hr2⟩ := HF.out.some_ hbig h0
          subst e1 e2 e3 e4
          have HT11 : Hid (W10.heap[T7]? = some (.cells #[.int .i64 2, .int .i64 X, .string ⟨#[]⟩] 24)) := by rw [eB] at HT10; exact HT10.out
          clear HT10
          have h1 : (Y == 0) = false := by simpa using h0
          obtain ⟨t0, t1, t2, _, _, _, t3⟩ := blk3 HT11.out
          obtain ⟨_, q1, _, _, _, _, q3⟩ := blk3 HQ10.out
          obtain ⟨_, r1, _, _, _, _, r3⟩ := blk3 HR10.out
          have f0 := fun nn oo => cell_grown (a := ⟨T7, 0, none⟩) t3 t0 nn oo
          have f1 := fun nn oo => cell_grown (a := ⟨T7, 1, none⟩) t3 t1 nn oo
          have f2 := fun nn oo => cell_grown (a := ⟨T7, 2, none⟩) t3 t2 nn oo
          have f3 := fun nn oo => cell_grown (a := ⟨T8, 1, none⟩) q3 q1 nn oo
          have f4 := fun nn oo => cell_grown (a := ⟨T9, 1, none⟩) r3 r1 nn oo
          have hqy : IntKind.i64.wrap (Q.n * Y) = Q.n * Y := (fun (P : Int) (h : P + R.n = X) => (wrap_in (by omega) (by omega) : IntKind.i64.wrap P = P)) _ hq
          have hqx : IntKind.i64.wrap (Q.n * Y + R.n) = X := by rw [hq]; exact wrap_in (by omega) (by omega)
          have CNG : Hid (∀ W, Calls Tryz.prog 7 #[.int .i64 X] W fun e w' => e = .returned (.agg #[.int .i64 2, .int .i64 X, .string ⟨#[]⟩]) ∧ ∃ q os', w' = Go.Sort.grow (W.drewN q) os') := fun W => (CN.out W X).mono fun e w' ⟨he, hw⟩ => ⟨he, 0, #[.cells #[.int .i64 2, .int .i64 X, .string ⟨#[]⟩] 24], by rw [hw]; rfl⟩
          have mixed : Tryz.prog.follows .mixedOrders = true := by kernel_rfl
          clear h0 hq t0 t1 t2 t3 q1 q3 r1 r3
          go_upto_region 14 with fail
          go_quiet_grown ((go_at_call 7; refine Calls.grown_of (CNG.out _)))
          go_wp2_with fail
          go_ret
          exact ⟨rfl, HB10.out.trans ((grow_below _ _ _).mono HB10.out.size)⟩
end Go.Proofs.YtmoeipdchapodaaGreatDoor
