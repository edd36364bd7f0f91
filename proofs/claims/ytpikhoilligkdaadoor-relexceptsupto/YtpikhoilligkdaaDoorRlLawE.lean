/-
  CONTRACT of the law RelExcepts: both answers are the same.
-/
import Derived.Test.YtpikhoilligkdaaDoorRlExcI
import Derived.Test.YtpikhoilligkdaaDoorRlChain
import Derived.Test.YtpikhoilligkdaaDoorRlRels
import Derived.Deep.RegionHeld3
import Derived.Sort.AtCall
set_option linter.unusedVariables false
namespace Go.Proofs.YtpikhoilligkdaaDoor
set_option maxRecDepth 100000
open Go.RowKit Go.WideShapes

set_option maxHeartbeats 12800000 in
theorem lawExcepts (c q c' q' l : Value) (n m n' m' ko : Nat) (C C' O : Nat → ByteArray) (R R' : Nat → Row) (w : World) (hc : StrsIs w c n C) (hq : RowsIs w q m R) (hf : StrsFine n C) (hg : RowsFine m R) (hc' : StrsIs w c' n' C') (hq' : RowsIs w q' m' R') (hf' : StrsFine n' C') (hg' : RowsFine m' R') (hl : StrsIs w l ko O) (hfl : StrsFine ko O) (hko : ko * 32 ≤ 140737488351232) (hT : Tabs w) :
    Calls Tryd.prog 3 #[.agg #[c, q], .agg #[c', q'], l] w fun e w' => e = .returned (.bool true) ∧ Below w.heap.size w w' := by
  have hc0 := hc
  have hq0 := hq
  have hc0' := hc'
  have hq0' := hq'
  obtain ⟨ca, ccap, rfl, _⟩ := hc0
  obtain ⟨qa, qcap, rfl, _⟩ := hq0
  obtain ⟨ca', ccap', rfl, _⟩ := hc0'
  obtain ⟨qa', qcap', rfl, _⟩ := hq0'
  have hl0 := hl
  obtain ⟨la, lcap, rfl, _⟩ := hl0
  have HWW : Hid (∀ {W : World}, Chain ((w.alloc (.cells #[.slice ca n ccap, .slice qa m qcap] 25)).alloc (.cells #[.slice ca' n' ccap', .slice qa' m' qcap'] 25)) W → Below w.heap.size w W) := fun {W} h => (below_two _ _).trans (Below.mono h (by simp; omega))
  have CR1 : Hid (∀ W, Chain ((w.alloc (.cells #[.slice ca n ccap, .slice qa m qcap] 25)).alloc (.cells #[.slice ca' n' ccap', .slice qa' m' qcap'] 25)) W → Calls Tryd.prog 6 #[.agg #[.slice ca n ccap, .slice qa m qcap]] W fun e w' => ∃ c1 q1, e = .returned (.agg #[c1, q1]) ∧ CopyIs w' c1 q1 n m C R ∧ Chain W w' ∧ Chain ((w.alloc (.cells #[.slice ca n ccap, .slice qa m qcap] 25)).alloc (.cells #[.slice ca' n' ccap', .slice qa' m' qcap'] 25)) w') := fun W h => (rels_is _ _ n m C R W (hc.below (HWW.out h)) (hq.below (HWW.out h)) hf hg).mono (fun e w' ⟨c1, q1, h1, h2, h3, h4⟩ => ⟨c1, q1, h1, ⟨h2, h3⟩, h4, h.trans h4⟩)
  have CR2 : Hid (∀ W, Chain ((w.alloc (.cells #[.slice ca n ccap, .slice qa m qcap] 25)).alloc (.cells #[.slice ca' n' ccap', .slice qa' m' qcap'] 25)) W → Calls Tryd.prog 6 #[.agg #[.slice ca' n' ccap', .slice qa' m' qcap']] W fun e w' => ∃ c1 q1, e = .returned (.agg #[c1, q1]) ∧ CopyIs w' c1 q1 n' m' C' R' ∧ Chain W w' ∧ Chain ((w.alloc (.cells #[.slice ca n ccap, .slice qa m qcap] 25)).alloc (.cells #[.slice ca' n' ccap', .slice qa' m' qcap'] 25)) w') := fun W h => (rels_is _ _ n' m' C' R' W (hc'.below (HWW.out h)) (hq'.below (HWW.out h)) hf' hg').mono (fun e w' ⟨c1, q1, h1, h2, h3, h4⟩ => ⟨c1, q1, h1, ⟨h2, h3⟩, h4, h.trans h4⟩)
  have CU : Hid (∀ W c1 q1 c2 q2 v3, Chain ((w.alloc (.cells #[.slice ca n ccap, .slice qa m qcap] 25)).alloc (.cells #[.slice ca' n' ccap', .slice qa' m' qcap'] 25)) W → CopyIs W c1 q1 n m C R → CopyIs W c2 q2 n' m' C' R' → StrsIs W v3 ko O → Calls Tryd.prog 5 #[.agg #[c1, q1], .agg #[c2, q2], v3] W fun e w' => ∃ a3 k3 b3 l3, e = .returned (.tuple #[.agg #[.slice a3 (okN (excF C n R m C' n' R' m' O ko) n) k3, .slice b3 (okN (excF C n R m C' n' R' m' O ko) (keptN (excK R (prP C n O) R' (prP C' n' O) m' ko) m)) l3], .int .i64 (excF C n R m C' n' R' m' O ko)]) ∧ FreshRel W w' (.slice a3 (okN (excF C n R m C' n' R' m' O ko) n) k3) (.slice b3 (okN (excF C n R m C' n' R' m' O ko) (keptN (excK R (prP C n O) R' (prP C' n' O) m' ko) m)) l3) (okN (excF C n R m C' n' R' m' O ko) n) (okN (excF C n R m C' n' R' m' O ko) (keptN (excK R (prP C n O) R' (prP C' n' O) m' ko) m)) C (keptR (excK R (prP C n O) R' (prP C' n' O) m' ko) m R) ∧ Chain W w' ∧ Chain ((w.alloc (.cells #[.slice ca n ccap, .slice qa m qcap] 25)).alloc (.cells #[.slice ca' n' ccap', .slice qa' m' qcap'] 25)) w') := fun W c1 q1 c2 q2 v3 h h1 h2 h3 =>
    (except_is c1 q1 c2 q2 v3 n m n' m' ko C C' O R R' W h1.1 h1.2 hf hg h2.1 h2.2 hf' hg' h3 hfl (Utf8Tabs_below hT (HWW.out h))).mono (fun e w' ⟨c3, q3, h3, h4, h5⟩ => by
      obtain ⟨⟨a3, k3, rfl, _⟩, ⟨b3, l3, rfl, _⟩⟩ := h4 w' (Nat.le_refl _) (fun _ _ _ => rfl)
      exact ⟨a3, k3, b3, l3, h3, h4, h5, h.trans h5⟩)
  have CD : Hid (∀ W, Chain ((w.alloc (.cells #[.slice ca n ccap, .slice qa m qcap] 25)).alloc (.cells #[.slice ca' n' ccap', .slice qa' m' qcap'] 25)) W → Calls Tryd.prog 7 #[.agg #[.slice ca n ccap, .slice qa m qcap], .agg #[.slice ca' n' ccap', .slice qa' m' qcap'], .slice la ko lcap] W fun e w' => ∃ a3 k3 b3 l3, e = .returned (.tuple #[.agg #[.slice a3 (okN (excF C n R m C' n' R' m' O ko) n) k3, .slice b3 (okN (excF C n R m C' n' R' m' O ko) (keptN (excK R (prP C n O) R' (prP C' n' O) m' ko) m)) l3], .int .i64 (excF C n R m C' n' R' m' O ko)]) ∧ CopyIs w' (.slice a3 (okN (excF C n R m C' n' R' m' O ko) n) k3) (.slice b3 (okN (excF C n R m C' n' R' m' O ko) (keptN (excK R (prP C n O) R' (prP C' n' O) m' ko) m)) l3) (okN (excF C n R m C' n' R' m' O ko) n) (okN (excF C n R m C' n' R' m' O ko) (keptN (excK R (prP C n O) R' (prP C' n' O) m' ko) m)) C (keptR (excK R (prP C n O) R' (prP C' n' O) m' ko) m R) ∧ Chain W w' ∧ Chain ((w.alloc (.cells #[.slice ca n ccap, .slice qa m qcap] 25)).alloc (.cells #[.slice ca' n' ccap', .slice qa' m' qcap'] 25)) w') := fun W h =>
    (exceptedOf_is _ _ _ _ _ n m n' m' ko C C' O R R' W (hc.below (HWW.out h)) (hq.below (HWW.out h)) hf hg (hc'.below (HWW.out h)) (hq'.below (HWW.out h)) hf' hg' (hl.below (HWW.out h)) hfl hko (Utf8Tabs_below hT (HWW.out h))).mono (fun e w' ⟨c3, q3, h3, h4, h5, h6⟩ => by
      have k4 := h4
      have k5 := h5
      obtain ⟨a3, k3, rfl, _⟩ := h4
      obtain ⟨b3, l3, rfl, _⟩ := h5
      exact ⟨a3, k3, b3, l3, h3, ⟨k4, k5⟩, h6, h.trans h6⟩)
  have CS : Hid (∀ W c3 q3 c4 q4 N M U, CopyIs W c3 q3 N M C U → CopyIs W c4 q4 N M C U → Calls Tryd.prog 8 #[.agg #[c3, q3], .agg #[c4, q4]] W fun e w' => e = .returned (.bool true) ∧ Chain W w') := fun W c3 q3 c4 q4 N M U h1 h2 => sameRel_is c3 q3 c4 q4 N M C U W h1.1 h1.2 h2.1 h2.2
  have HL : Hid (∀ W, Below w.heap.size w W → StrsIs W (.slice la ko lcap) ko O) := fun W h => hl.below h
  have HKO : Hid (ko * 16 ≤ 140737488351232) := hfl.1
  clear hT hf hg hf' hg' hc hq hc' hq' hl hfl hko
  generalize excF C n R m C' n' R' m' O ko = F at *
  generalize okN F n = N1 at *
  generalize keptR (excK R (prP C n O) R' (prP C' n' O) m' ko) m R = U at *
  generalize okN F (keptN (excK R (prP C n O) R' (prP C' n' O) m' ko) m) = M1 at *
  have HS : Hid (∀ W, Chain ((w.alloc (.cells #[.slice ca n ccap, .slice qa m qcap] 25)).alloc (.cells #[.slice ca' n' ccap', .slice qa' m' qcap'] 25)) W → W.cell? ⟨w.heap.size, 0, none⟩ = some (.slice ca n ccap) ∧ W.cell? ⟨w.heap.size, 1, none⟩ = some (.slice qa m qcap) ∧ W.cell? ⟨w.heap.size + 1, 0, none⟩ = some (.slice ca' n' ccap') ∧ W.cell? ⟨w.heap.size + 1, 1, none⟩ = some (.slice qa' m' qcap') ∧ w.heap.size + 1 < W.heap.size) := fun W h => box22 h
  have HB0 : Hid (Chain ((w.alloc (.cells #[.slice ca n ccap, .slice qa m qcap] 25)).alloc (.cells #[.slice ca' n' ccap', .slice qa' m' qcap'] 25)) ((w.alloc (.cells #[.slice ca n ccap, .slice qa m qcap] 25)).alloc (.cells #[.slice ca' n' ccap', .slice qa' m' qcap'] 25)).drew) := (Chain.refl _).drew
  go_enter Tryd.func3, Tryd.ntmps3
  go_upto_region 1 with fail
  go_region_held3 (fun W => W.cell? ⟨w.heap.size, 0, none⟩ = some (.slice ca n ccap) ∧ W.cell? ⟨w.heap.size, 1, none⟩ = some (.slice qa m qcap) ∧ W.cell? ⟨w.heap.size + 1, 0, none⟩ = some (.slice ca' n' ccap') ∧ W.cell? ⟨w.heap.size + 1, 1, none⟩ = some (.slice qa' m' qcap') ∧ w.heap.size + 1 < W.heap.size)
    ((refine HS.out _ ?_; repeat (first | exact Hid.out (by assumption) | exact Chain.refl _ | refine Chain.alloc ?_ _ | refine Chain.setCell ?_ (by simp <;> omega) _ | refine Chain.drew ?_)))
    (first
      | (go_at_call_has 6 (Value.slice ca n ccap); refine (CR1.out _ ?_).mono ?_; (focus (repeat (first | exact Hid.out (by assumption) | exact Chain.refl _ | refine Chain.alloc ?_ _ | refine Chain.drew ?_))); rintro e w1 ⟨c1, q1, rfl, hc1, hb1, hn1⟩; (first | (have zz := boxed0 hb1; obtain ⟨z0, z1, z2, z3, z4⟩ := zz) | (have zz := boxed hb1; obtain ⟨z0, z1, z2, z3, z4⟩ := zz) | (have zz := carried hb1 z0 z1 z2 z3 z4; clear z0 z1 z2 z3 z4; obtain ⟨z0, z1, z2, z3, z4⟩ := zz) | skip); have HC1 : Hid (CopyIs w1 c1 q1 n m C R) := hc1; have HCH1 : Hid (Chain _ w1) := hb1; have HN1 : Hid (Chain _ w1) := hn1; have hs1 := (HS.out _ hn1).2.2.2.2; clear hc1 hb1 hn1)
      | (go_at_call_has 6 (Value.slice ca' n' ccap'); refine (CR2.out _ ?_).mono ?_; (focus (repeat (first | exact Hid.out (by assumption) | exact Chain.refl _ | refine Chain.alloc ?_ _ | refine Chain.drew ?_))); rintro e w2 ⟨c2, q2, rfl, hc2, hb2, hn2⟩; (first | (have zz := boxed0 hb2; obtain ⟨z0, z1, z2, z3, z4⟩ := zz) | (have zz := boxed hb2; obtain ⟨z0, z1, z2, z3, z4⟩ := zz) | (have zz := carried hb2 z0 z1 z2 z3 z4; clear z0 z1 z2 z3 z4; obtain ⟨z0, z1, z2, z3, z4⟩ := zz) | skip); have HC2 : Hid (CopyIs w2 c2 q2 n' m' C' R') := hc2; have HCH2 : Hid (Chain _ w2) := hb2; have HN2 : Hid (Chain _ w2) := hn2; have hs2 := (HS.out _ hn2).2.2.2.2; clear hc2 hb2 hn2)
      | (refine step_copy_strs rfl (.const (.slice none 0 0)) (.tmp 16) rfl rfl _ ko O rfl (by refine HL.out _ (HWW.out ?_); (focus (repeat (first | exact Hid.out (by assumption) | exact Chain.refl _ | refine Chain.alloc ?_ _ | refine Chain.drew ?_)))) HKO.out ?_; intro v9 w9 hs9 hsh9 hb9; have hn9 := Chain.trans (a := ((w.alloc (.cells #[.slice ca n ccap, .slice qa m qcap] 25)).alloc (.cells #[.slice ca' n' ccap', .slice qa' m' qcap'] 25))) (by (focus (repeat (first | exact Hid.out (by assumption) | exact Chain.refl _ | refine Chain.alloc ?_ _ | refine Chain.drew ?_)))) hb9; obtain ⟨ea, ek, rfl⟩ := hsh9; (first | (have zz := boxed0 hb9; obtain ⟨z0, z1, z2, z3, z4⟩ := zz) | (have zz := boxed hb9; obtain ⟨z0, z1, z2, z3, z4⟩ := zz) | (have zz := carried hb9 z0 z1 z2 z3 z4; clear z0 z1 z2 z3 z4; obtain ⟨z0, z1, z2, z3, z4⟩ := zz) | skip); have HC9 : Hid (StrsIs w9 (.slice ea ko ek) ko O) := hs9.is; have HCH9 : Hid (Chain _ w9) := hb9; have HN9 : Hid (Chain ((w.alloc (.cells #[.slice ca n ccap, .slice qa m qcap] 25)).alloc (.cells #[.slice ca' n' ccap', .slice qa' m' qcap'] 25)) w9) := hn9; have hs9 := (HS.out _ hn9).2.2.2.2; clear hb9 hn9)
      | (go_at_call 5; refine (CU.out _ _ _ _ _ _ ?_ ?_ ?_ ?_).mono ?_; (focus (repeat (first | exact Hid.out (by assumption) | exact Chain.refl _ | refine Chain.alloc ?_ _ | refine Chain.drew ?_))); (focus (repeat (first | exact HC1.out | refine CopyIs.alloc ?_ _ | refine CopyIs.chain ?_ HCH2.out | refine CopyIs.chain ?_ HCH9.out))); (focus (repeat (first | exact HC2.out | refine CopyIs.alloc ?_ _ | refine CopyIs.chain ?_ HCH1.out | refine CopyIs.chain ?_ HCH9.out))); (focus (repeat (first | exact HC9.out | refine strs_chain ?_ ((Chain.refl _).alloc _) | refine strs_chain ?_ HCH1.out | refine strs_chain ?_ HCH2.out))); rintro e w3 ⟨a3, k3, b3, l3, rfl, hf3, hb3, hn3⟩; (first | (have zz := boxed0 hb3; obtain ⟨z0, z1, z2, z3, z4⟩ := zz) | (have zz := boxed hb3; obtain ⟨z0, z1, z2, z3, z4⟩ := zz) | (have zu := z4; have zz := carried hb3 z0 z1 z2 z3 z4; clear z0 z1 z2 z3 z4; obtain ⟨z0, z1, z2, z3, z4⟩ := zz) | skip); have HFR := Hid.out (p := Hid (FreshRel _ w3 _ _ _ _ _ _)) hf3; have HN3 : Hid (Chain _ w3) := hn3; have hs3 := (HS.out _ hn3).2.2.2.2; clear hf3 hb3 hn3))
  all_goals
    clear HC1 HC2 HC9 HCH1 HCH2 HCH9 HN1 HN2 HN9
    go_split_ands
    go_wp2_with (first
      | (go_at_call 7; refine (CD.out _ ?_).mono ?_; (focus (repeat (first | exact Hid.out (by assumption) | exact Chain.refl _ | refine Chain.alloc ?_ _ | refine Chain.setCell ?_ (by simp <;> omega) _ | refine Chain.drew ?_))); rintro e w4 ⟨a4, k4, b4, l4, rfl, hc4, hb4, hn4⟩; have HC3 : Hid (CopyIs w4 (.slice a3 N1 k3) (.slice b3 M1 l3) N1 M1 C U) := (by first | exact fresh_new HFR.out hb4 | exact fresh_old HFR.out (by first | exact zu | simp) hb4); obtain ⟨r0, r1, r2, r3, r4⟩ := (by first | exact kept_new hb4 | exact kept2 hb4 z0 z1 z4); have HC4 : Hid (CopyIs w4 (.slice a4 N1 k4) (.slice b4 M1 l4) N1 M1 C U) := hc4; have HN4 : Hid (Chain _ w4) := hn4; clear hc4 hb4 hn4)
      | (go_at_call 8; refine (CS.out _ _ _ _ _ _ _ _ (HC3.out.chain ((Chain.refl _).alloc _)) (HC4.out.chain ((Chain.refl _).alloc _))).mono ?_; rintro e w5 ⟨rfl, hb5⟩))
    go_ret
    exact ⟨ret_bool (by simp), HWW.out ((HN4.out.trans ((Chain.refl _).alloc _)).trans hb5)⟩
end Go.Proofs.YtpikhoilligkdaaDoor
