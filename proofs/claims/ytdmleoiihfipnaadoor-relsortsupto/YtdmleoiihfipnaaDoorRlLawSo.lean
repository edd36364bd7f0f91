/-
  CONTRACT of the law RelSorts: both answers are the same.
-/
import Derived.Test.YtdmleoiihfipnaaDoorRlSorted
import Derived.Test.YtdmleoiihfipnaaDoorRlChain
import Derived.Test.YtdmleoiihfipnaaDoorRlRels
set_option linter.unusedVariables false
namespace Go.Proofs.YtdmleoiihfipnaaDoor
set_option maxRecDepth 100000
open Go.RowKit Go.WideShapes

theorem carry2 {w wr : World} {b : Nat} {x y : Value} (h : Chain w wr) (h0 : w.cell? ⟨b, 0, none⟩ = some x) (h1 : w.cell? ⟨b, 1, none⟩ = some y) (hb : b < w.heap.size) : wr.cell? ⟨b, 0, none⟩ = some x ∧ wr.cell? ⟨b, 1, none⟩ = some y ∧ b < wr.heap.size :=
  ⟨(Below.cell h (p := ⟨b, 0, none⟩) hb).trans h0, (Below.cell h (p := ⟨b, 1, none⟩) hb).trans h1, Nat.lt_of_lt_of_le hb (Below.size h)⟩
set_option maxHeartbeats 6400000 in
theorem lawSorts (c q l : Value) (n m ko : Nat) (C O : Nat → ByteArray) (R : Nat → Row) (w : World) (hc : StrsIs w c n C) (hq : RowsIs w q m R) (hf : StrsFine n C) (hg : RowsFine m R) (hl : StrsIs w l ko O) (hfl : StrsFine ko O) (hko : ko * 32 ≤ 140737488351232) (hT : Tabs w) :
    Calls Tryd.prog 3 #[.agg #[c, q], l] w fun e w' => e = .returned (.bool true) ∧ Below w.heap.size w w' := by
  have CR : Hid (∀ o, Calls Tryd.prog 5 #[.agg #[c, q]] (w.alloc o) fun e w' => ∃ a1 k1 b1 l1, e = .returned (.agg #[.slice a1 n k1, .slice b1 m l1]) ∧ CopyIs w' (.slice a1 n k1) (.slice b1 m l1) n m C R ∧ Chain (w.alloc o) w') := fun o => (rels_is c q n m C R _ (hc.below ((Below.refl _ _).alloc (Nat.le_refl _) _)) (hq.below ((Below.refl _ _).alloc (Nat.le_refl _) _)) hf hg).mono (fun e w' ⟨c1, q1, h1, h2, h3, h4⟩ => by
    have k2 := h2
    have k3 := h3
    obtain ⟨a1, k1, rfl, _⟩ := h2
    obtain ⟨b1, l1, rfl, _⟩ := h3
    exact ⟨a1, k1, b1, l1, h1, ⟨k2, k3⟩, h4⟩)
  have CP : Hid (∀ W c1 q1 v2, Below w.heap.size w W → CopyIs W c1 q1 n m C R → StrsIs W v2 ko O → Calls Tryd.prog 6 #[.agg #[c1, q1], v2] W fun e w' => ∃ a3 k3 b3 l3, e = .returned (.tuple #[.agg #[.slice a3 (okN (soF C n R m O ko) n) k3, .slice b3 (okN (soF C n R m O ko) m) l3], .int .i64 (soF C n R m O ko)]) ∧ FreshRel W w' (.slice a3 (okN (soF C n R m O ko) n) k3) (.slice b3 (okN (soF C n R m O ko) m) l3) (okN (soF C n R m O ko) n) (okN (soF C n R m O ko) m) C (soR R (prP C n O) ko m) ∧ Chain W w') := fun W c1 q1 v2 hW h1 h2 =>
    (sort_is c1 q1 v2 n m ko C O R W h1.1 h1.2 hf hg h2 hfl (Utf8Tabs_below hT hW)).mono (fun e w' ⟨c3, q3, h3, h4, h5⟩ => by
      obtain ⟨⟨a3, k3, rfl, _⟩, ⟨b3, l3, rfl, _⟩⟩ := h4 w' (Nat.le_refl _) (fun _ _ _ => rfl)
      exact ⟨a3, k3, b3, l3, h3, h4, h5⟩)
  have CD : Hid (∀ W, Below w.heap.size w W → Calls Tryd.prog 7 #[.agg #[c, q], l] W fun e w' => ∃ a3 k3 b3 l3, e = .returned (.tuple #[.agg #[.slice a3 (okN (soF C n R m O ko) n) k3, .slice b3 (okN (soF C n R m O ko) m) l3], .int .i64 (soF C n R m O ko)]) ∧ CopyIs w' (.slice a3 (okN (soF C n R m O ko) n) k3) (.slice b3 (okN (soF C n R m O ko) m) l3) (okN (soF C n R m O ko) n) (okN (soF C n R m O ko) m) C (soR R (prP C n O) ko m) ∧ Chain W w') := fun W h =>
    (sortedOf_is c q l n m ko C O R W (hc.below h) (hq.below h) hf hg (hl.below h) hfl hko (Utf8Tabs_below hT h)).mono (fun e w' ⟨c3, q3, h3, h4, h5, h6⟩ => by
      have k4 := h4
      have k5 := h5
      obtain ⟨a3, k3, rfl, _⟩ := h4
      obtain ⟨b3, l3, rfl, _⟩ := h5
      exact ⟨a3, k3, b3, l3, h3, ⟨k4, k5⟩, h6⟩)
  have CS : Hid (∀ W c3 q3 c4 q4 N M (E : Nat → ByteArray) U, CopyIs W c3 q3 N M E U → CopyIs W c4 q4 N M E U → Calls Tryd.prog 8 #[.agg #[c3, q3], .agg #[c4, q4]] W fun e w' => e = .returned (.bool true) ∧ Chain W w') := fun W c3 q3 c4 q4 N M E U h1 h2 => sameRel_is c3 q3 c4 q4 N M E U W h1.1 h1.2 h2.1 h2.2
  have HO : Hid (∀ W, Below w.heap.size w W → StrsIs W l ko O) := fun W h => hl.below h
  have HKO : Hid (ko * 16 ≤ 140737488351232) := hfl.1
  have HCQ : Hid (∀ W, Below w.heap.size w W → CopyIs W c q n m C R) := fun W h => ⟨hc.below h, hq.below h⟩
  obtain ⟨ca, ccap, rfl, _⟩ := hc
  obtain ⟨qa, qcap, rfl, _⟩ := hq
  obtain ⟨la, lcap, rfl, _⟩ := hl
  clear hT hf hg hfl hko
  generalize soF C n R m O ko = F at *
  generalize okN F n = N1 at *
  generalize soR R (prP C n O) ko m = U at *
  generalize okN F m = M1 at *
  go_enter Tryd.func3, Tryd.ntmps3
  go_upto_region 2 with (first | (go_at_call 5; refine (CR.out _).mono ?_; rintro e w1 ⟨va, vk, ua, uk, rfl, hc1, hb1⟩; have HC1 : Hid (CopyIs w1 (.slice va n vk) (.slice ua m uk) n m C R) := hc1; have HB1 : Hid (Chain (w.alloc (.cells #[.slice ca n ccap, .slice qa m qcap] 25)) w1) := hb1; obtain ⟨x0, x1, x2, x3, x4⟩ := kept_new hb1; clear hc1 hb1))
  have HS : Hid (∀ W, Chain (w1.alloc (.cells #[.slice va n vk, .slice ua m uk] 25)) W → W.cell? ⟨w.heap.size, 0, none⟩ = some (.slice ca n ccap) ∧ W.cell? ⟨w.heap.size, 1, none⟩ = some (.slice qa m qcap) ∧ W.cell? ⟨w1.heap.size, 0, none⟩ = some (.slice va n vk) ∧ W.cell? ⟨w1.heap.size, 1, none⟩ = some (.slice ua m uk) ∧ w1.heap.size < W.heap.size ∧ Below w.heap.size w W) := fun W h => by
    have h1 : Chain w1 W := ((Chain.refl _).alloc _).trans h
    obtain ⟨y0, y1, y2, _, _⟩ := kept_new h
    exact ⟨(Below.cell h1 (p := ⟨w.heap.size, 0, none⟩) x2).trans x0, (Below.cell h1 (p := ⟨w.heap.size, 1, none⟩) x2).trans x1, y0, y1, y2, Chain.trans ((Chain.refl w).alloc _) (HB1.out.trans h1)⟩
  have HB0 : Hid (Chain (w1.alloc (.cells #[.slice va n vk, .slice ua m uk] 25)) (w1.alloc (.cells #[.slice va n vk, .slice ua m uk] 25)).drew) := (Chain.refl _).drew
  have HC0 : Hid (CopyIs (w1.alloc (.cells #[.slice va n vk, .slice ua m uk] 25)) (.slice va n vk) (.slice ua m uk) n m C R) := HC1.out.alloc _
  clear x0 x1 HC1
  go_region_held3 (fun W => W.cell? ⟨w.heap.size, 0, none⟩ = some (.slice ca n ccap) ∧ W.cell? ⟨w.heap.size, 1, none⟩ = some (.slice qa m qcap) ∧ W.cell? ⟨w1.heap.size, 0, none⟩ = some (.slice va n vk) ∧ W.cell? ⟨w1.heap.size, 1, none⟩ = some (.slice ua m uk) ∧ w1.heap.size < W.heap.size ∧ Below w.heap.size w W)
    ((refine HS.out _ ?_; repeat (first | exact Hid.out (by assumption) | exact Chain.refl _ | refine Chain.alloc ?_ _ | refine Chain.setCell ?_ (by simp <;> omega) _ | refine Chain.drew ?_)))
    (first
      | (refine step_copy_strs rfl (.const (.slice none 0 0)) (.tmp 14) rfl rfl _ ko O rfl (by refine (HO.out _ (HS.out _ ?_).2.2.2.2.2); (focus (repeat (first | exact Hid.out (by assumption) | exact Chain.refl _ | refine Chain.alloc ?_ _ | refine Chain.setCell ?_ (by simp <;> omega) _ | refine Chain.drew ?_)))) HKO.out ?_; intro v3 w3 hs3 hsh3 hb3; have hn3 := Chain.trans (a := (w1.alloc (.cells #[.slice va n vk, .slice ua m uk] 25))) (by (focus (repeat (first | exact Hid.out (by assumption) | exact Chain.refl _ | refine Chain.alloc ?_ _ | refine Chain.setCell ?_ (by simp <;> omega) _ | refine Chain.drew ?_)))) hb3; obtain ⟨ga, gk, rfl⟩ := hsh3; (first | (have zz := boxed1 hb3; obtain ⟨z0, z1, z2, z3, z4⟩ := zz) | (have zz := boxed hb3; obtain ⟨z0, z1, z2, z3, z4⟩ := zz) | (have zz := carried hb3 z0 z1 z2 z3 z4; clear z0 z1 z2 z3 z4; obtain ⟨z0, z1, z2, z3, z4⟩ := zz) | skip); have HC3 : Hid (StrsIs w3 (.slice ga ko gk) ko O) := hs3.is; have HCH3 : Hid (Chain _ w3) := hb3; have HN3 : Hid (Chain (w1.alloc (.cells #[.slice va n vk, .slice ua m uk] 25)) w3) := hn3; have hs3 := (HS.out _ hn3).2.2.2.2.1; clear hb3 hn3)
      | (go_at_call 6; refine (CP.out _ _ _ _ ?_ ?_ ?_).mono ?_; (focus (refine (HS.out _ ?_).2.2.2.2.2; (focus (repeat (first | exact Hid.out (by assumption) | exact Chain.refl _ | refine Chain.alloc ?_ _ | refine Chain.setCell ?_ (by simp <;> omega) _ | refine Chain.drew ?_))))); (focus (refine HC0.out.chain ?_; (focus (repeat (first | exact Hid.out (by assumption) | exact Chain.refl _ | refine Chain.alloc ?_ _ | refine Chain.setCell ?_ (by simp <;> omega) _ | refine Chain.drew ?_))))); (focus (repeat (first | exact HC3.out | refine strs_chain ?_ ((Chain.refl _).alloc _)))); rintro e w4 ⟨a3, k3, b3, l3, rfl, hf4, hb4⟩; have hn4 := Chain.trans (a := (w1.alloc (.cells #[.slice va n vk, .slice ua m uk] 25))) (by (focus (repeat (first | exact Hid.out (by assumption) | exact Chain.refl _ | refine Chain.alloc ?_ _ | refine Chain.setCell ?_ (by simp <;> omega) _ | refine Chain.drew ?_)))) hb4; (first | (have zz := boxed1 hb4; obtain ⟨z0, z1, z2, z3, z4⟩ := zz) | (have zz := boxed hb4; obtain ⟨z0, z1, z2, z3, z4⟩ := zz) | (have zu := z4; have zz := carried hb4 z0 z1 z2 z3 z4; clear z0 z1 z2 z3 z4; obtain ⟨z0, z1, z2, z3, z4⟩ := zz) | skip); have HFR := Hid.out (p := Hid (FreshRel _ w4 _ _ _ _ _ _)) hf4; have HN4 : Hid (Chain (w1.alloc (.cells #[.slice va n vk, .slice ua m uk] 25)) w4) := hn4; have hs4 := (HS.out _ hn4).2.2.2.2.1; clear hf4 hb4 hn4))
  all_goals
    clear HC3 HCH3 HN3
    go_split_ands
    go_wp2_with (first
      | (go_at_call 7; refine (CD.out _ ?_).mono ?_; (focus (refine (HS.out _ ?_).2.2.2.2.2; (focus (repeat (first | exact Hid.out (by assumption) | exact Chain.refl _ | refine Chain.alloc ?_ _ | refine Chain.setCell ?_ (by simp <;> omega) _ | refine Chain.drew ?_))))); rintro e w5 ⟨a4, k4, b4, l4, rfl, hc5, hb5⟩; have hn5 := Chain.trans (a := (w1.alloc (.cells #[.slice va n vk, .slice ua m uk] 25))) (by (focus (repeat (first | exact Hid.out (by assumption) | exact Chain.refl _ | refine Chain.alloc ?_ _ | refine Chain.setCell ?_ (by simp <;> omega) _ | refine Chain.drew ?_)))) hb5; have HC5 : Hid (CopyIs w5 (.slice a3 N1 k3) (.slice b3 M1 l3) N1 M1 C U) := (by first | exact fresh_new HFR.out hb5 | exact fresh_old HFR.out (by first | exact zu | simp) hb5); obtain ⟨r0, r1, r2, r3, r4⟩ := (by first | exact kept_new hb5 | exact kept2 hb5 z0 z1 z4); have HC6 : Hid (CopyIs w5 (.slice a4 N1 k4) (.slice b4 M1 l4) N1 M1 C U) := hc5; have HN5 : Hid (Chain (w1.alloc (.cells #[.slice va n vk, .slice ua m uk] 25)) w5) := hn5; obtain ⟨i0, i1, i2, i3, i4, _⟩ := HS.out _ hn5; clear hc5 hb5 hn5)
      | (go_at_call_has 8 (Value.slice a3 N1 k3); refine (CS.out _ _ _ _ _ _ _ _ _ (HC5.out.chain ((Chain.refl _).alloc _)) (HC6.out.chain ((Chain.refl _).alloc _))).mono ?_; rintro e w6 ⟨rfl, hb6⟩; have hn6 := (HN5.out.alloc _).trans hb6; have HN6 : Hid (Chain (w1.alloc (.cells #[.slice va n vk, .slice ua m uk] 25)) w6) := hn6; obtain ⟨j0, j1, j2, j3, j4, _⟩ := HS.out _ hn6; clear hb6 hn6)
      | (go_at_call_has 8 (Value.slice ca n ccap); refine (CS.out _ _ _ _ _ _ _ _ _ (HC0.out.chain HN6.out) (HCQ.out _ (HS.out _ HN6.out).2.2.2.2.2)).mono ?_; rintro e w7 ⟨rfl, hb7⟩))
    go_ret
    exact ⟨ret_bool (by simp), (HS.out _ (HN6.out.trans hb7)).2.2.2.2.2⟩
end Go.Proofs.YtdmleoiihfipnaaDoor
