/-
  CONTRACT of the law RelJoins: both answers are the same.
-/
import Derived.Test.YtcfjgoconmgpcaaDoorRlJoined
import Derived.Test.YtcfjgoconmgpcaaDoorRlChain
import Derived.Test.YtcfjgoconmgpcaaDoorRlRels
import Derived.Sort.AtCall
set_option linter.unusedVariables false
namespace Go.Proofs.YtcfjgoconmgpcaaDoor
set_option maxRecDepth 100000
open Go.RowKit Go.WideShapes

set_option maxHeartbeats 12800000 in
theorem lawJoins (c q c' q' : Value) (n m n' m' : Nat) (C C' : Nat → ByteArray) (R R' : Nat → Row) (x y : ByteArray) (w : World) (hc : StrsIs w c n C) (hq : RowsIs w q m R) (hf : StrsFine n C) (hg : RowsFine m R) (hc' : StrsIs w c' n' C') (hq' : RowsIs w q' m' R') (hf' : StrsFine n' C') (hg' : RowsFine m' R') (hT : Tabs w) :
    Calls Tryd.prog 5 #[.agg #[c, q], .agg #[c', q'], .string x, .string y] w fun e w' => e = .returned (.bool true) ∧ Below w.heap.size w w' := by
  have hc0 := hc
  have hq0 := hq
  have hc0' := hc'
  have hq0' := hq'
  obtain ⟨ca, ccap, rfl, _⟩ := hc0
  obtain ⟨qa, qcap, rfl, _⟩ := hq0
  obtain ⟨ca', ccap', rfl, _⟩ := hc0'
  obtain ⟨qa', qcap', rfl, _⟩ := hq0'
  have HWW : Hid (∀ {W : World}, Chain ((w.alloc (.cells #[.slice ca n ccap, .slice qa m qcap] 25)).alloc (.cells #[.slice ca' n' ccap', .slice qa' m' qcap'] 25)) W → Below w.heap.size w W) := fun {W} h => (below_two _ _).trans (Below.mono h (by simp; omega))
  have CR1 : Hid (∀ W, Chain ((w.alloc (.cells #[.slice ca n ccap, .slice qa m qcap] 25)).alloc (.cells #[.slice ca' n' ccap', .slice qa' m' qcap'] 25)) W → Calls Tryd.prog 8 #[.agg #[.slice ca n ccap, .slice qa m qcap]] W fun e w' => ∃ a1 k1 b1 l1, e = .returned (.agg #[.slice a1 n k1, .slice b1 m l1]) ∧ CopyIs w' (.slice a1 n k1) (.slice b1 m l1) n m C R ∧ Chain W w') := fun W h => (rels_is _ _ n m C R W (hc.below (HWW.out h)) (hq.below (HWW.out h)) hf hg).mono (fun e w' ⟨c1, q1, h1, h2, h3, h4⟩ => by
    have k2 := h2
    have k3 := h3
    obtain ⟨a1, k1, rfl, _⟩ := h2
    obtain ⟨b1, l1, rfl, _⟩ := h3
    exact ⟨a1, k1, b1, l1, h1, ⟨k2, k3⟩, h4⟩)
  have CR2 : Hid (∀ W, Chain ((w.alloc (.cells #[.slice ca n ccap, .slice qa m qcap] 25)).alloc (.cells #[.slice ca' n' ccap', .slice qa' m' qcap'] 25)) W → Calls Tryd.prog 8 #[.agg #[.slice ca' n' ccap', .slice qa' m' qcap']] W fun e w' => ∃ a1 k1 b1 l1, e = .returned (.agg #[.slice a1 n' k1, .slice b1 m' l1]) ∧ CopyIs w' (.slice a1 n' k1) (.slice b1 m' l1) n' m' C' R' ∧ Chain W w') := fun W h => (rels_is _ _ n' m' C' R' W (hc'.below (HWW.out h)) (hq'.below (HWW.out h)) hf' hg').mono (fun e w' ⟨c1, q1, h1, h2, h3, h4⟩ => by
    have k2 := h2
    have k3 := h3
    obtain ⟨a1, k1, rfl, _⟩ := h2
    obtain ⟨b1, l1, rfl, _⟩ := h3
    exact ⟨a1, k1, b1, l1, h1, ⟨k2, k3⟩, h4⟩)
  have CU : Hid (∀ W c1 q1 c2 q2, Chain ((w.alloc (.cells #[.slice ca n ccap, .slice qa m qcap] 25)).alloc (.cells #[.slice ca' n' ccap', .slice qa' m' qcap'] 25)) W → CopyIs W c1 q1 n m C R → CopyIs W c2 q2 n' m' C' R' → Calls Tryd.prog 14 #[.agg #[c1, q1], .agg #[c2, q2], .string x, .string y] W fun e w' => ∃ a3 k3 b3 l3, e = .returned (.tuple #[.agg #[.slice a3 (okN (joF C n R m C' n' R' m' x y) (n + n')) k3, .slice b3 (okN (joF C n R m C' n' R' m' x y) (joN R m R' m' (joP C n x) (joP C' n' y))) l3], .int .i64 (joF C n R m C' n' R' m' x y)]) ∧ FreshRel W w' (.slice a3 (okN (joF C n R m C' n' R' m' x y) (n + n')) k3) (.slice b3 (okN (joF C n R m C' n' R' m' x y) (joN R m R' m' (joP C n x) (joP C' n' y))) l3) (okN (joF C n R m C' n' R' m' x y) (n + n')) (okN (joF C n R m C' n' R' m' x y) (joN R m R' m' (joP C n x) (joP C' n' y))) (colsT C n C' n') (joR R m R' m' (joP C n x) (joP C' n' y)) ∧ Chain W w') := fun W c1 q1 c2 q2 h h1 h2 =>
    (join_is c1 q1 c2 q2 n m n' m' C C' R R' x y W h1.1 h1.2 hf hg h2.1 h2.2 hf' hg' (Utf8Tabs_below hT (HWW.out h))).mono (fun e w' ⟨c3, q3, h3, h4, h5⟩ => by
      obtain ⟨⟨a3, k3, rfl, _⟩, ⟨b3, l3, rfl, _⟩⟩ := h4 w' (Nat.le_refl _) (fun _ _ _ => rfl)
      exact ⟨a3, k3, b3, l3, h3, h4, h5⟩)
  have CD : Hid (∀ W, Chain ((w.alloc (.cells #[.slice ca n ccap, .slice qa m qcap] 25)).alloc (.cells #[.slice ca' n' ccap', .slice qa' m' qcap'] 25)) W → Calls Tryd.prog 15 #[.agg #[.slice ca n ccap, .slice qa m qcap], .agg #[.slice ca' n' ccap', .slice qa' m' qcap'], .string x, .string y] W fun e w' => ∃ a3 k3 b3 l3, e = .returned (.tuple #[.agg #[.slice a3 (okN (joF C n R m C' n' R' m' x y) (n + n')) k3, .slice b3 (okN (joF C n R m C' n' R' m' x y) (joN R m R' m' (joP C n x) (joP C' n' y))) l3], .int .i64 (joF C n R m C' n' R' m' x y)]) ∧ CopyIs w' (.slice a3 (okN (joF C n R m C' n' R' m' x y) (n + n')) k3) (.slice b3 (okN (joF C n R m C' n' R' m' x y) (joN R m R' m' (joP C n x) (joP C' n' y))) l3) (okN (joF C n R m C' n' R' m' x y) (n + n')) (okN (joF C n R m C' n' R' m' x y) (joN R m R' m' (joP C n x) (joP C' n' y))) (colsT C n C' n') (joR R m R' m' (joP C n x) (joP C' n' y)) ∧ Chain W w') := fun W h =>
    (joined_is _ _ _ _ n m n' m' C C' R R' x y W (hc.below (HWW.out h)) (hq.below (HWW.out h)) hf hg (hc'.below (HWW.out h)) (hq'.below (HWW.out h)) hf' hg' (Utf8Tabs_below hT (HWW.out h))).mono (fun e w' ⟨c3, q3, h3, h4, h5, h6⟩ => by
      have k4 := h4
      have k5 := h5
      obtain ⟨a3, k3, rfl, _⟩ := h4
      obtain ⟨b3, l3, rfl, _⟩ := h5
      exact ⟨a3, k3, b3, l3, h3, ⟨k4, k5⟩, h6⟩)
  have CS : Hid (∀ W c3 q3 c4 q4 N M (E : Nat → ByteArray) U, CopyIs W c3 q3 N M E U → CopyIs W c4 q4 N M E U → Calls Tryd.prog 11 #[.agg #[c3, q3], .agg #[c4, q4]] W fun e w' => e = .returned (.bool true) ∧ Chain W w') := fun W c3 q3 c4 q4 N M E U h1 h2 => sameRel_is c3 q3 c4 q4 N M E U W h1.1 h1.2 h2.1 h2.2
  have HO : Hid (∀ W, Chain ((w.alloc (.cells #[.slice ca n ccap, .slice qa m qcap] 25)).alloc (.cells #[.slice ca' n' ccap', .slice qa' m' qcap'] 25)) W → CopyIs W (.slice ca n ccap) (.slice qa m qcap) n m C R) := fun W h => ⟨hc.below (HWW.out h), hq.below (HWW.out h)⟩
  have HO' : Hid (∀ W, Chain ((w.alloc (.cells #[.slice ca n ccap, .slice qa m qcap] 25)).alloc (.cells #[.slice ca' n' ccap', .slice qa' m' qcap'] 25)) W → CopyIs W (.slice ca' n' ccap') (.slice qa' m' qcap') n' m' C' R') := fun W h => ⟨hc'.below (HWW.out h), hq'.below (HWW.out h)⟩
  clear hT hf hg hf' hg' hc hq hc' hq'
  generalize joF C n R m C' n' R' m' x y = F at *
  generalize okN F (n + n') = N1 at *
  generalize joR R m R' m' (joP C n x) (joP C' n' y) = U at *
  generalize okN F (joN R m R' m' (joP C n x) (joP C' n' y)) = M1 at *
  go_enter Tryd.func5, Tryd.ntmps5
  go_upto_region 3 with (first
    | (go_at_call_has 8 (Value.slice ca n ccap); refine (CR1.out _ (Chain.refl _)).mono ?_; rintro e w1 ⟨va, vk, ua, uk, rfl, hc1, hb1⟩; have HC1 : Hid (CopyIs w1 (.slice va n vk) (.slice ua m uk) n m C R) := hc1; have HB1 : Hid (Chain ((w.alloc (.cells #[.slice ca n ccap, .slice qa m qcap] 25)).alloc (.cells #[.slice ca' n' ccap', .slice qa' m' qcap'] 25)) w1) := hb1; obtain ⟨x0, x1, x2, x3, x4⟩ := box22 hb1; have x5 : w.heap.size < w1.heap.size := (by omega); clear hc1 hb1)
    | (go_at_call_has 8 (Value.slice ca' n' ccap'); refine (CR2.out _ (HB1.out.alloc _)).mono ?_; rintro e w2 ⟨va', vk', ua', uk', rfl, hc2, hb2⟩; have HC2 : Hid (CopyIs w2 (.slice va' n' vk') (.slice ua' m' uk') n' m' C' R') := hc2; have HB2 : Hid (Chain (w1.alloc (.cells #[.slice va n vk, .slice ua m uk] 25)) w2) := hb2; clear x0 x1 x2 x3; obtain ⟨x0, x1, x2, x3, x6⟩ := box22 ((HB1.out.alloc _).trans hb2); obtain ⟨y0, y1, y2, _, _⟩ := kept_new hb2; have x7 : w.heap.size < w2.heap.size := (by omega); clear hc2 hb2))
  have HS : Hid (∀ W, Chain (w2.alloc (.cells #[.slice va' n' vk', .slice ua' m' uk'] 25)) W → W.cell? ⟨w.heap.size, 0, none⟩ = some (.slice ca n ccap) ∧ W.cell? ⟨w.heap.size, 1, none⟩ = some (.slice qa m qcap) ∧ W.cell? ⟨w.heap.size + 1, 0, none⟩ = some (.slice ca' n' ccap') ∧ W.cell? ⟨w.heap.size + 1, 1, none⟩ = some (.slice qa' m' qcap') ∧ W.cell? ⟨w1.heap.size, 0, none⟩ = some (.slice va n vk) ∧ W.cell? ⟨w1.heap.size, 1, none⟩ = some (.slice ua m uk) ∧ W.cell? ⟨w2.heap.size, 0, none⟩ = some (.slice va' n' vk') ∧ W.cell? ⟨w2.heap.size, 1, none⟩ = some (.slice ua' m' uk') ∧ w.heap.size < W.heap.size ∧ w.heap.size + 1 < W.heap.size ∧ w1.heap.size < W.heap.size ∧ w2.heap.size < W.heap.size) := fun W h => by
    have h2 : Chain w2 W := ((Chain.refl _).alloc _).trans h
    obtain ⟨z0, z1, z2, _, _⟩ := kept_new h
    exact ⟨(Below.cell h2 (p := ⟨w.heap.size, 0, none⟩) x7).trans x0, (Below.cell h2 (p := ⟨w.heap.size, 1, none⟩) x7).trans x1, (Below.cell h2 (p := ⟨w.heap.size + 1, 0, none⟩) x6).trans x2, (Below.cell h2 (p := ⟨w.heap.size + 1, 1, none⟩) x6).trans x3, (Below.cell h2 (p := ⟨w1.heap.size, 0, none⟩) y2).trans y0, (Below.cell h2 (p := ⟨w1.heap.size, 1, none⟩) y2).trans y1, z0, z1, by omega, by omega, by omega, z2⟩
  have HT : Hid (∀ {W : World}, Chain (w2.alloc (.cells #[.slice va' n' vk', .slice ua' m' uk'] 25)) W → Chain ((w.alloc (.cells #[.slice ca n ccap, .slice qa m qcap] 25)).alloc (.cells #[.slice ca' n' ccap', .slice qa' m' qcap'] 25)) W) := fun {W} h => (HB1.out.alloc _).trans (HB2.out.trans (((Chain.refl _).alloc _).trans h))
  have HK : Hid (CopyIs (w2.alloc (.cells #[.slice va' n' vk', .slice ua' m' uk'] 25)) (.slice va n vk) (.slice ua m uk) n m C R) := HC1.out.chain (((Chain.refl _).alloc _).trans (HB2.out.alloc _))
  have HM : Hid (CopyIs (w2.alloc (.cells #[.slice va' n' vk', .slice ua' m' uk'] 25)) (.slice va' n' vk') (.slice ua' m' uk') n' m' C' R') := HC2.out.alloc _
  clear HC1 HC2
  go_wp2_with (first
      | (go_at_call 14; refine (CU.out _ _ _ _ _ (HT.out (Chain.refl _)) HK.out HM.out).mono ?_; rintro e w4 ⟨a3, k3, b3, l3, rfl, hf4, hb4⟩; have HFR := Hid.out (p := Hid (FreshRel _ w4 _ _ _ _ _ _)) hf4; have HN4 : Hid (Chain (w2.alloc (.cells #[.slice va' n' vk', .slice ua' m' uk'] 25)) w4) := hb4; clear x0 x1 x2 x3 y0 y1; obtain ⟨x0, x1, x2, x3, y0, y1, z0, z1, s0, s1, s2, s3⟩ := HS.out _ hb4; clear hf4 hb4)
      | (go_at_call 15; refine (CD.out _ (HT.out (HN4.out.alloc _))).mono ?_; rintro e w5 ⟨a4, k4, b4, l4, rfl, hc5, hb5⟩; have hn5 := (HN4.out.alloc _).trans hb5; have HC5 : Hid (CopyIs w5 (.slice a3 N1 k3) (.slice b3 M1 l3) N1 M1 (colsT C n C' n') U) := fresh_new HFR.out hb5; obtain ⟨r0, r1, r2, r3, r4⟩ := kept_new hb5; have HC6 : Hid (CopyIs w5 (.slice a4 N1 k4) (.slice b4 M1 l4) N1 M1 (colsT C n C' n') U) := hc5; have HN5 : Hid (Chain (w2.alloc (.cells #[.slice va' n' vk', .slice ua' m' uk'] 25)) w5) := hn5; clear x0 x1 x2 x3 y0 y1 z0 z1 s0 s1 s2 s3; obtain ⟨x0, x1, x2, x3, y0, y1, z0, z1, s0, s1, s2, s3⟩ := HS.out _ hn5; clear hc5 hb5 hn5)
      | (go_at_call_has 11 (Value.slice a3 N1 k3); refine (CS.out _ _ _ _ _ _ _ _ _ (HC5.out.chain ((Chain.refl _).alloc _)) (HC6.out.chain ((Chain.refl _).alloc _))).mono ?_; rintro e w6 ⟨rfl, hb6⟩; have hn6 := (HN5.out.alloc _).trans hb6; have HN6 : Hid (Chain (w2.alloc (.cells #[.slice va' n' vk', .slice ua' m' uk'] 25)) w6) := hn6; clear x0 x1 x2 x3 y0 y1 z0 z1 s0 s1 s2 s3; obtain ⟨x0, x1, x2, x3, y0, y1, z0, z1, s0, s1, s2, s3⟩ := HS.out _ hn6; clear hb6 hn6)
      | (go_at_call_has 11 (Value.slice ca n ccap); refine (CS.out _ _ _ _ _ _ _ _ _ (HK.out.chain HN6.out) (HO.out _ (HT.out HN6.out))).mono ?_; rintro e w7 ⟨rfl, hb7⟩; have hn7 := HN6.out.trans hb7; have HN7 : Hid (Chain (w2.alloc (.cells #[.slice va' n' vk', .slice ua' m' uk'] 25)) w7) := hn7; clear x0 x1 x2 x3 y0 y1 z0 z1 s0 s1 s2 s3; obtain ⟨x0, x1, x2, x3, y0, y1, z0, z1, s0, s1, s2, s3⟩ := HS.out _ hn7; clear hb7 hn7)
      | (go_at_call_has 11 (Value.slice ca' n' ccap'); refine (CS.out _ _ _ _ _ _ _ _ _ (HM.out.chain HN7.out) (HO'.out _ (HT.out HN7.out))).mono ?_; rintro e w8 ⟨rfl, hb8⟩))
  go_ret
  exact ⟨ret_bool (by simp), HWW.out (HT.out (HN7.out.trans hb8))⟩
end Go.Proofs.YtcfjgoconmgpcaaDoor
