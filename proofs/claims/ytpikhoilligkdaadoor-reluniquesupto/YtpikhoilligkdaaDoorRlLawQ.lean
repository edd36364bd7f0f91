/-
  CONTRACT of the law RelUniques: both answers are the same.
-/
import Derived.Test.YtpikhoilligkdaaDoorRlUniqI
import Derived.Test.YtpikhoilligkdaaDoorRlChain
import Derived.Test.YtpikhoilligkdaaDoorRlRels
set_option linter.unusedVariables false
namespace Go.Proofs.YtpikhoilligkdaaDoor
set_option maxRecDepth 100000
open Go.RowKit Go.WideShapes

set_option maxHeartbeats 6400000 in
theorem lawUniques (c q l : Value) (n m ko : Nat) (C O : Nat → ByteArray) (R : Nat → Row) (w : World) (hc : StrsIs w c n C) (hq : RowsIs w q m R) (hf : StrsFine n C) (hg : RowsFine m R) (hl : StrsIs w l ko O) (hfl : StrsFine ko O) (hko : ko * 32 ≤ 140737488351232) (hT : Tabs w) :
    Calls Tryd.prog 4 #[.agg #[c, q], l] w fun e w' => e = .returned (.bool true) ∧ Below w.heap.size w w' := by
  have CR : Hid (∀ o, Calls Tryd.prog 6 #[.agg #[c, q]] (w.alloc o) fun e w' => ∃ a1 k1 b1 l1, e = .returned (.agg #[.slice a1 n k1, .slice b1 m l1]) ∧ CopyIs w' (.slice a1 n k1) (.slice b1 m l1) n m C R ∧ Chain (w.alloc o) w') := fun o => (rels_is c q n m C R _ (hc.below ((Below.refl _ _).alloc (Nat.le_refl _) _)) (hq.below ((Below.refl _ _).alloc (Nat.le_refl _) _)) hf hg).mono (fun e w' ⟨c1, q1, h1, h2, h3, h4⟩ => by
    have k2 := h2
    have k3 := h3
    obtain ⟨a1, k1, rfl, _⟩ := h2
    obtain ⟨b1, l1, rfl, _⟩ := h3
    exact ⟨a1, k1, b1, l1, h1, ⟨k2, k3⟩, h4⟩)
  have CP : Hid (∀ W c1 q1 v2, Below w.heap.size w W → CopyIs W c1 q1 n m C R → StrsIs W v2 ko O → Calls Tryd.prog 9 #[.agg #[c1, q1], v2] W fun e w' => ∃ a3 k3 b3 l3, e = .returned (.tuple #[.agg #[.slice a3 (okN (uniF C n R m O ko) n) k3, .slice b3 (okN (uniF C n R m O ko) (keptN (uniK R (prP C n O) ko) m)) l3], .int .i64 (uniF C n R m O ko)]) ∧ FreshRel W w' (.slice a3 (okN (uniF C n R m O ko) n) k3) (.slice b3 (okN (uniF C n R m O ko) (keptN (uniK R (prP C n O) ko) m)) l3) (okN (uniF C n R m O ko) n) (okN (uniF C n R m O ko) (keptN (uniK R (prP C n O) ko) m)) C (keptR (uniK R (prP C n O) ko) m R) ∧ Chain W w') := fun W c1 q1 v2 hW h1 h2 =>
    (unique_is c1 q1 v2 n m ko C O R W h1.1 h1.2 hf hg h2 hfl (Utf8Tabs_below hT hW)).mono (fun e w' ⟨c3, q3, h3, h4, h5⟩ => by
      obtain ⟨⟨a3, k3, rfl, _⟩, ⟨b3, l3, rfl, _⟩⟩ := h4 w' (Nat.le_refl _) (fun _ _ _ => rfl)
      exact ⟨a3, k3, b3, l3, h3, h4, h5⟩)
  have CD : Hid (∀ W, Below w.heap.size w W → Calls Tryd.prog 10 #[.agg #[c, q], l] W fun e w' => ∃ a3 k3 b3 l3, e = .returned (.tuple #[.agg #[.slice a3 (okN (uniF C n R m O ko) n) k3, .slice b3 (okN (uniF C n R m O ko) (keptN (uniK R (prP C n O) ko) m)) l3], .int .i64 (uniF C n R m O ko)]) ∧ CopyIs w' (.slice a3 (okN (uniF C n R m O ko) n) k3) (.slice b3 (okN (uniF C n R m O ko) (keptN (uniK R (prP C n O) ko) m)) l3) (okN (uniF C n R m O ko) n) (okN (uniF C n R m O ko) (keptN (uniK R (prP C n O) ko) m)) C (keptR (uniK R (prP C n O) ko) m R) ∧ Chain W w') := fun W h =>
    (uniqueOf_is c q l n m ko C O R W (hc.below h) (hq.below h) hf hg (hl.below h) hfl hko (Utf8Tabs_below hT h)).mono (fun e w' ⟨c3, q3, h3, h4, h5, h6⟩ => by
      have k4 := h4
      have k5 := h5
      obtain ⟨a3, k3, rfl, _⟩ := h4
      obtain ⟨b3, l3, rfl, _⟩ := h5
      exact ⟨a3, k3, b3, l3, h3, ⟨k4, k5⟩, h6⟩)
  have CS : Hid (∀ W c3 q3 c4 q4 N M (E : Nat → ByteArray) U, CopyIs W c3 q3 N M E U → CopyIs W c4 q4 N M E U → Calls Tryd.prog 8 #[.agg #[c3, q3], .agg #[c4, q4]] W fun e w' => e = .returned (.bool true) ∧ Chain W w') := fun W c3 q3 c4 q4 N M E U h1 h2 => sameRel_is c3 q3 c4 q4 N M E U W h1.1 h1.2 h2.1 h2.2
  have HO : Hid (∀ W, Below w.heap.size w W → StrsIs W l ko O) := fun W h => hl.below h
  have HKO : Hid (ko * 16 ≤ 140737488351232) := hfl.1
  obtain ⟨ca, ccap, rfl, _⟩ := hc
  obtain ⟨qa, qcap, rfl, _⟩ := hq
  obtain ⟨la, lcap, rfl, _⟩ := hl
  clear hT hf hg hfl hko
  generalize uniF C n R m O ko = F at *
  generalize okN F n = N1 at *
  generalize keptR (uniK R (prP C n O) ko) m R = U at *
  generalize okN F (keptN (uniK R (prP C n O) ko) m) = M1 at *
  have HSB : Hid (∀ W, Chain (w.alloc (.cells #[.slice ca n ccap, .slice qa m qcap] 25)) W → W.cell? ⟨w.heap.size, 0, none⟩ = some (.slice ca n ccap) ∧ W.cell? ⟨w.heap.size, 1, none⟩ = some (.slice qa m qcap) ∧ w.heap.size < W.heap.size ∧ Below w.heap.size w W) := fun W h => by
    obtain ⟨y0, y1, y2, _, _⟩ := kept_new h
    exact ⟨y0, y1, y2, Chain.trans ((Chain.refl w).alloc _) h⟩
  go_enter Tryd.func4, Tryd.ntmps4
  go_wp2_with (first
      | (go_at_call 6; refine (CR.out _).mono ?_; rintro e w1 ⟨va, vk, ua, uk, rfl, hc1, hb1⟩; have HC1 : Hid (CopyIs w1 (.slice va n vk) (.slice ua m uk) n m C R) := hc1; have HN1 : Hid (Chain (w.alloc (.cells #[.slice ca n ccap, .slice qa m qcap] 25)) w1) := hb1; obtain ⟨x0, x1, x2, _⟩ := HSB.out _ hb1; clear hc1 hb1)
      | (at_builtin; refine wpList_copy_strs rfl (.const (.slice none 0 0)) (.tmp 12) rfl rfl _ ko O rfl (HO.out _ (HSB.out _ HN1.out).2.2.2) HKO.out ?_; intro v2 w2 hs2 hsh2 hb2; obtain ⟨ea, ek, rfl⟩ := hsh2; have HC2 : Hid (StrsIs w2 (.slice ea ko ek) ko O) := hs2.is; have HCH2 : Hid (Chain w1 w2) := hb2; have HN2 : Hid (Chain (w.alloc (.cells #[.slice ca n ccap, .slice qa m qcap] 25)) w2) := HN1.out.trans hb2; clear hs2 hb2)
      | (go_at_call 9; refine (CP.out _ _ _ _ (HSB.out _ HN2.out).2.2.2 (HC1.out.chain HCH2.out) HC2.out).mono ?_; rintro e w4 ⟨a3, k3, b3, l3, rfl, hf4, hb4⟩; have HFR : Hid (FreshRel w2 w4 (.slice a3 N1 k3) (.slice b3 M1 l3) N1 M1 C U) := hf4; have hn4 := HN2.out.trans hb4; have HN4 : Hid (Chain (w.alloc (.cells #[.slice ca n ccap, .slice qa m qcap] 25)) w4) := hn4; clear x0 x1 x2; obtain ⟨x0, x1, x2, _⟩ := HSB.out _ hn4; clear hf4 hb4 hn4)
      | (go_at_call 10; refine (CD.out _ (HSB.out _ (HN4.out.alloc _)).2.2.2).mono ?_; rintro e w5 ⟨a4, k4, b4, l4, rfl, hc5, hb5⟩; have hn5 := (HN4.out.alloc _).trans hb5; have HC5 : Hid (CopyIs w5 (.slice a3 N1 k3) (.slice b3 M1 l3) N1 M1 C U) := fresh_new HFR.out hb5; obtain ⟨r0, r1, r2, r3, r4⟩ := kept_new hb5; have HC6 : Hid (CopyIs w5 (.slice a4 N1 k4) (.slice b4 M1 l4) N1 M1 C U) := hc5; have HN5 : Hid (Chain (w.alloc (.cells #[.slice ca n ccap, .slice qa m qcap] 25)) w5) := hn5; clear hc5 hb5 hn5)
      | (go_at_call 8; refine (CS.out _ _ _ _ _ _ _ _ _ (HC5.out.chain ((Chain.refl _).alloc _)) (HC6.out.chain ((Chain.refl _).alloc _))).mono ?_; rintro e w6 ⟨rfl, hb6⟩))
  go_ret
  exact ⟨ret_bool (by simp), (HSB.out _ ((HN5.out.alloc _).trans hb6)).2.2.2⟩
end Go.Proofs.YtpikhoilligkdaaDoor
