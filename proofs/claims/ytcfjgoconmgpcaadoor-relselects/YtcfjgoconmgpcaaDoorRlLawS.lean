/-
  CONTRACT of the law RelSelects: both answers are the same.
-/
import Derived.Test.YtcfjgoconmgpcaaDoorRlSelI
import Derived.Test.YtcfjgoconmgpcaaDoorRlChain
import Derived.Test.YtcfjgoconmgpcaaDoorRlRels
set_option linter.unusedVariables false
namespace Go.Proofs.YtcfjgoconmgpcaaDoor
set_option maxRecDepth 100000
open Go.RowKit Go.WideShapes

set_option maxHeartbeats 12800000 in
theorem lawSelects (c q : Value) (n m : Nat) (C : Nat → ByteArray) (R : Nat → Row) (s : ByteArray) (w : World) (hc : StrsIs w c n C) (hq : RowsIs w q m R) (hf : StrsFine n C) (hg : RowsFine m R) (hT : Tabs w) :
    Calls Tryd.prog 4 #[.agg #[c, q], .string s] w fun e w' => e = .returned (.bool true) ∧ Below w.heap.size w w' := by
  have CR : Hid (∀ o, Calls Tryd.prog 8 #[.agg #[c, q]] (w.alloc o) fun e w' => ∃ a1 k1 b1 l1, e = .returned (.agg #[.slice a1 n k1, .slice b1 m l1]) ∧ CopyIs w' (.slice a1 n k1) (.slice b1 m l1) n m C R ∧ Chain (w.alloc o) w') := fun o => (rels_is c q n m C R _ (hc.below ((Below.refl _ _).alloc (Nat.le_refl _) _)) (hq.below ((Below.refl _ _).alloc (Nat.le_refl _) _)) hf hg).mono (fun e w' ⟨c1, q1, h1, h2, h3, h4⟩ => by
    have k2 := h2
    have k3 := h3
    obtain ⟨a1, k1, rfl, _⟩ := h2
    obtain ⟨b1, l1, rfl, _⟩ := h3
    exact ⟨a1, k1, b1, l1, h1, ⟨k2, k3⟩, h4⟩)
  have CP : Hid (∀ W c1 q1, Below w.heap.size w W → CopyIs W c1 q1 n m C R → Calls Tryd.prog 12 #[.agg #[c1, q1], .string s] W fun e w' => ∃ a3 k3 b3 l3, e = .returned (.tuple #[.agg #[.slice a3 (okN (selF C n R m s) n) k3, .slice b3 (okN (selF C n R m s) (keptN (selK R (colI C n s).toNat) m)) l3], .int .i64 (selF C n R m s)]) ∧ FreshRel W w' (.slice a3 (okN (selF C n R m s) n) k3) (.slice b3 (okN (selF C n R m s) (keptN (selK R (colI C n s).toNat) m)) l3) (okN (selF C n R m s) n) (okN (selF C n R m s) (keptN (selK R (colI C n s).toNat) m)) C (keptR (selK R (colI C n s).toNat) m R) ∧ Chain W w') := fun W c1 q1 hW h1 =>
    (select_is c1 q1 n m C R s W h1.1 h1.2 hf hg (Utf8Tabs_below hT hW)).mono (fun e w' ⟨c3, q3, h3, h4, h5⟩ => by
      obtain ⟨⟨a3, k3, rfl, _⟩, ⟨b3, l3, rfl, _⟩⟩ := h4 w' (Nat.le_refl _) (fun _ _ _ => rfl)
      exact ⟨a3, k3, b3, l3, h3, h4, h5⟩)
  have CD : Hid (∀ W, Below w.heap.size w W → Calls Tryd.prog 13 #[.agg #[c, q], .string s] W fun e w' => ∃ a3 k3 b3 l3, e = .returned (.tuple #[.agg #[.slice a3 (okN (selF C n R m s) n) k3, .slice b3 (okN (selF C n R m s) (keptN (selK R (colI C n s).toNat) m)) l3], .int .i64 (selF C n R m s)]) ∧ CopyIs w' (.slice a3 (okN (selF C n R m s) n) k3) (.slice b3 (okN (selF C n R m s) (keptN (selK R (colI C n s).toNat) m)) l3) (okN (selF C n R m s) n) (okN (selF C n R m s) (keptN (selK R (colI C n s).toNat) m)) C (keptR (selK R (colI C n s).toNat) m R) ∧ Chain W w') := fun W h =>
    (selected_is c q n m C R s W (hc.below h) (hq.below h) hf hg (Utf8Tabs_below hT h)).mono (fun e w' ⟨c3, q3, h3, h4, h5, h6⟩ => by
      have k4 := h4
      have k5 := h5
      obtain ⟨a3, k3, rfl, _⟩ := h4
      obtain ⟨b3, l3, rfl, _⟩ := h5
      exact ⟨a3, k3, b3, l3, h3, ⟨k4, k5⟩, h6⟩)
  have CS : Hid (∀ W c3 q3 c4 q4 N M (E : Nat → ByteArray) U, CopyIs W c3 q3 N M E U → CopyIs W c4 q4 N M E U → Calls Tryd.prog 11 #[.agg #[c3, q3], .agg #[c4, q4]] W fun e w' => e = .returned (.bool true) ∧ Chain W w') := fun W c3 q3 c4 q4 N M E U h1 h2 => sameRel_is c3 q3 c4 q4 N M E U W h1.1 h1.2 h2.1 h2.2
  have HO : Hid (∀ W, Below w.heap.size w W → CopyIs W c q n m C R) := fun W h => ⟨hc.below h, hq.below h⟩
  obtain ⟨ca, ccap, rfl, _⟩ := hc
  obtain ⟨qa, qcap, rfl, _⟩ := hq
  clear hT hf hg
  generalize selF C n R m s = F at *
  generalize okN F n = N1 at *
  generalize keptR (selK R (colI C n s).toNat) m R = U at *
  generalize okN F (keptN (selK R (colI C n s).toNat) m) = M1 at *
  go_enter Tryd.func4, Tryd.ntmps4
  go_upto_region 2 with (first | (go_at_call 8; refine (CR.out _).mono ?_; rintro e w1 ⟨va, vk, ua, uk, rfl, hc1, hb1⟩; have HC1 : Hid (CopyIs w1 (.slice va n vk) (.slice ua m uk) n m C R) := hc1; have HB1 : Hid (Chain (w.alloc (.cells #[.slice ca n ccap, .slice qa m qcap] 25)) w1) := hb1; obtain ⟨x0, x1, x2, x3, x4⟩ := kept_new hb1; clear hc1 hb1))
  have HS : Hid (∀ W, Chain (w1.alloc (.cells #[.slice va n vk, .slice ua m uk] 25)) W → W.cell? ⟨w.heap.size, 0, none⟩ = some (.slice ca n ccap) ∧ W.cell? ⟨w.heap.size, 1, none⟩ = some (.slice qa m qcap) ∧ W.cell? ⟨w1.heap.size, 0, none⟩ = some (.slice va n vk) ∧ W.cell? ⟨w1.heap.size, 1, none⟩ = some (.slice ua m uk) ∧ w1.heap.size < W.heap.size ∧ Below w.heap.size w W) := fun W h => by
    have h1 : Chain w1 W := ((Chain.refl _).alloc _).trans h
    obtain ⟨y0, y1, y2, _, _⟩ := kept_new h
    exact ⟨(Below.cell h1 (p := ⟨w.heap.size, 0, none⟩) x2).trans x0, (Below.cell h1 (p := ⟨w.heap.size, 1, none⟩) x2).trans x1, y0, y1, y2, Chain.trans ((Chain.refl w).alloc _) (HB1.out.trans h1)⟩
  have HC0 : Hid (CopyIs (w1.alloc (.cells #[.slice va n vk, .slice ua m uk] 25)) (.slice va n vk) (.slice ua m uk) n m C R) := HC1.out.alloc _
  clear HC1
  go_wp2_with (first
      | (go_at_call 12; refine (CP.out _ _ _ (HS.out _ (Chain.refl _)).2.2.2.2.2 HC0.out).mono ?_; rintro e w4 ⟨a3, k3, b3, l3, rfl, hf4, hb4⟩; have HFR := Hid.out (p := Hid (FreshRel _ w4 _ _ _ _ _ _)) hf4; have HN4 : Hid (Chain (w1.alloc (.cells #[.slice va n vk, .slice ua m uk] 25)) w4) := hb4; clear x0 x1; obtain ⟨x0, x1, y0, y1, y2, _⟩ := HS.out _ hb4; have y3 : w.heap.size < w4.heap.size := Nat.lt_trans x2 y2; clear hf4 hb4)
      | (go_at_call 13; refine (CD.out _ (HS.out _ (HN4.out.alloc _)).2.2.2.2.2).mono ?_; rintro e w5 ⟨a4, k4, b4, l4, rfl, hc5, hb5⟩; have hn5 := (HN4.out.alloc _).trans hb5; have HC5 : Hid (CopyIs w5 (.slice a3 N1 k3) (.slice b3 M1 l3) N1 M1 C U) := fresh_new HFR.out hb5; obtain ⟨r0, r1, r2, r3, r4⟩ := kept_new hb5; have HC6 : Hid (CopyIs w5 (.slice a4 N1 k4) (.slice b4 M1 l4) N1 M1 C U) := hc5; have HN5 : Hid (Chain (w1.alloc (.cells #[.slice va n vk, .slice ua m uk] 25)) w5) := hn5; clear x0 x1 y0 y1 y2; obtain ⟨x0, x1, y0, y1, y2, _⟩ := HS.out _ hn5; have y4 : w.heap.size < w5.heap.size := Nat.lt_trans x2 y2; clear hc5 hb5 hn5)
      | (go_at_call_has 11 (Value.slice a3 N1 k3); refine (CS.out _ _ _ _ _ _ _ _ _ (HC5.out.chain ((Chain.refl _).alloc _)) (HC6.out.chain ((Chain.refl _).alloc _))).mono ?_; rintro e w6 ⟨rfl, hb6⟩; have hn6 := (HN5.out.alloc _).trans hb6; have HN6 : Hid (Chain (w1.alloc (.cells #[.slice va n vk, .slice ua m uk] 25)) w6) := hn6; clear x0 x1 y0 y1 y2; obtain ⟨x0, x1, y0, y1, y2, _⟩ := HS.out _ hn6; clear hb6 hn6)
      | (go_at_call_has 11 (Value.slice ca n ccap); refine (CS.out _ _ _ _ _ _ _ _ _ (HC0.out.chain HN6.out) (HO.out _ (HS.out _ HN6.out).2.2.2.2.2)).mono ?_; rintro e w7 ⟨rfl, hb7⟩))
  go_ret
  exact ⟨ret_bool (by simp), (HS.out _ (HN6.out.trans hb7)).2.2.2.2.2⟩
end Go.Proofs.YtcfjgoconmgpcaaDoor
