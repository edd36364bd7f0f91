/-
  CONTRACT of rel.Cross.
-/
import Derived.Test.YtalllggokmhgeaaDoorRlCrossed
set_option linter.unusedVariables false
namespace Go.Proofs.YtalllggokmhgeaaDoor
set_option maxRecDepth 100000
open Go.RowKit Go.WideShapes

set_option maxHeartbeats 400000 in
theorem cross1_is (u : Value) (g k x : Nat) (a : Option Addr) (w : World) (hc : w.cell? ⟨g, 1, none⟩ = some (.slice a k x)) :
    Calls Tryd.prog 14 #[u, .pointer (some ⟨g, 0, none⟩)] w fun e w' => e = .returned (.slice a k x) ∧ w' = w := by
  go_enter Tryd.func14, Tryd.ntmps14
  go_wp2
  go_ret
  exact ⟨rfl, rfl⟩
set_option maxHeartbeats 3200000 in
theorem cross_is (c q c' q' : Value) (n m n' m' : Nat) (C C' : Nat → ByteArray) (R R' : Nat → Row) (w : World) (hc : StrsIs w c n C) (hq : RowsIs w q m R) (hf : StrsFine n C) (hg : RowsFine m R) (hc' : StrsIs w c' n' C') (hq' : RowsIs w q' m' R') (hf' : StrsFine n' C') (hg' : RowsFine m' R') (hT : Tabs w) :
    Calls Tryd.prog 6 #[.agg #[c, q], .agg #[c', q']] w fun e w' => ∃ c1 q1, e = .returned (.tuple #[.agg #[c1, q1], .int .i64 (crF C n R m C' n' R' m')]) ∧ FreshRel w w' c1 q1 (okN (crF C n R m C' n' R' m') (n + n')) (okN (crF C n R m C' n' R' m') (pairN (fun _ => m') m)) (colsT C n C' n') (crR R m R' m') ∧ Below w.heap.size w w' := by
  have C1 : Hid (∀ o o' o'', Calls Tryd.prog 10 #[.agg #[c, q], .agg #[c', q']] (((w.alloc o).alloc o').alloc o'') fun e w' => e = .returned (.int .i64 (twoF (relF C n R m) (relF C' n' R' m'))) ∧ Below (w.heap.size + 3) (((w.alloc o).alloc o').alloc o'') w') := fun o o' o'' => by
    have h := checkBoth_is c q c' q' n m n' m' C C' R R' _ (hc.below (below_three o o' o'')) (hq.below (below_three o o' o'')) hf hg (hc'.below (below_three o o' o'')) (hq'.below (below_three o o' o'')) hf' hg' (Utf8Tabs_below hT (below_three o o' o''))
    rwa [size_three] at h
  have HW : Hid (∀ {W : World} {o o' o'' : Obj}, Below (w.heap.size + 3) (((w.alloc o).alloc o').alloc o'') W → Below w.heap.size w W) := fun h => (below_three _ _ _).trans (h.mono (by omega))
  by_cases h0 : twoF (relF C n R m) (relF C' n' R' m') = 0
  · obtain ⟨hn8, hn8', hm6, hm6', hl, hl'⟩ := few_both h0
    have hft := fine_both h0 hf hf'
    have HFF : Hid (crF C n R m C' n' R' m' = madeF (colsT C n C' n') (n + n') (pairN (fun _ => m') m)) := if_pos h0
    have hq0' := hq'
    obtain ⟨qa', qcap', rfl, _⟩ := hq0'
    have CP : Hid (∀ W, Below w.heap.size w W → W.cell? ⟨w.heap.size + 1, 1, none⟩ = some (.slice qa' m' qcap') → w.heap.size + 1 < W.heap.size → Calls Tryd.prog 12 #[.agg #[c, q], .agg #[c', .slice qa' m' qcap'], .func (.func 14) #[] #[.pointer (some ⟨w.heap.size + 1, 0, none⟩)]] W fun e w' => ∃ c1 q1, e = .returned (.tuple #[.agg #[c1, q1], .int .i64 (crF C n R m C' n' R' m')]) ∧ FreshRel W w' c1 q1 (okN (crF C n R m C' n' R' m') (n + n')) (okN (crF C n R m C' n' R' m') (pairN (fun _ => m') m)) (colsT C n C' n') (crR R m R' m') ∧ Below W.heap.size W w') := fun W hW hcell hz => by
      rw [HFF.out]
      exact pair_gen 14 #[.pointer (some ⟨w.heap.size + 1, 0, none⟩)] (fun _ => qa') (fun _ => qcap') (fun _ => m') (fun _ => R') c q c' (.slice qa' m' qcap') n m n' m' C C' R W (hc.below hW) (hc'.below hW) (hq.below hW) ⟨_, _, rfl⟩ hft (fun k hk => hq'.below hW)
        (fun k hk i hi => by
          show ((R k).len + (R' i).len) * 32 ≤ _
          rw [hl k hk, hl' i hi]
          omega) (fun _ => hm6') hm6 (fun _ _ => rfl)
        (fun k W' u hk hW' hu => (cross1_is u (w.heap.size + 1) m' qcap' qa' W' ((hW'.cell (p := ⟨w.heap.size + 1, 1, none⟩) hz).trans hcell)).mono (by
          rintro e w' ⟨rfl, rfl⟩
          exact ⟨rfl, Below.refl _ _⟩))
    obtain ⟨qa, qcap, rfl, _⟩ := hq
    obtain ⟨ca, ccap, rfl, _⟩ := hc
    obtain ⟨ca', ccap', rfl, _⟩ := hc'
    rw [h0] at C1
    clear hf hg hf' hg' hT h0 hft hl hl' hq' HFF
    generalize crF C n R m C' n' R' m' = F at *
    generalize okN F (n + n') = N1 at *
    generalize okN F (pairN (fun _ => m') m) = M1 at *
    have hmf : ∀ (fn : Fn) (first cap : Array Value) (w : World), (Instr.makeFunc fn first cap).run Tryd.prog w = .ok (.func fn first cap) w := fun _ _ _ _ => rfl
    go_enter Tryd.func6, Tryd.ntmps6
    go_wp2_with (first
      | (go_at_call 10; refine (C1.out _ _ _).mono ?_; rintro e w1 ⟨rfl, hb1⟩; have HB1 : Hid (Below (w.heap.size + 3) (((w.alloc (.cells #[.slice ca n ccap, .slice qa m qcap] 26)).alloc (.cells #[.slice ca' n' ccap', .slice qa' m' qcap'] 26)).alloc (.cells #[.slice none 0 0, .slice none 0 0] 26)) w1) := hb1; obtain ⟨x0, x1, x2, x3, x4, x5, x6, x7, x8⟩ := box3 hb1; clear hb1)
      | (go_at_call 12; refine (CP.out _ (HW.out HB1.out) x3 (Nat.lt_of_succ_lt x8)).mono ?_; rintro e w2 ⟨c2, q2, rfl, hf2, hb2⟩; have HFR : Hid (FreshRel w1 w2 c2 q2 N1 M1 (colsT C n C' n') (crR R m R' m')) := hf2; obtain ⟨⟨a3, k3, rfl, _⟩, ⟨b3, l3, rfl, _⟩⟩ := hf2 w2 (Nat.le_refl _) (fun _ _ _ => rfl); have HB2 : Hid (Below (w.heap.size + 3) (((w.alloc (.cells #[.slice ca n ccap, .slice qa m qcap] 26)).alloc (.cells #[.slice ca' n' ccap', .slice qa' m' qcap'] 26)).alloc (.cells #[.slice none 0 0, .slice none 0 0] 26)) w2) := HB1.out.trans (hb2.mono (by omega)); have hx8 : w.heap.size + 1 + 1 < w1.heap.size := x8; clear x0 x1 x2 x3 x4 x5 x6 x7 x8; obtain ⟨x0, x1, x2, x3, x4, x5, x6, x7, x8⟩ := box3 HB2.out; clear hf2 hb2))
    refine bodyPost_ret (v := .tuple #[.agg #[.slice a3 N1 k3, .slice b3 M1 l3], .int .i64 F]) (by simp [results, Tryd.results6, go_sem, x4, x5]) rfl ⟨_, _, rfl, ?_, (((HW.out HB2.out)).setCell (by simp; omega) _).setCell (by simp; omega) _⟩
    exact fun W' hs hb => HFR.out W' (by simpa using hs) (fun b h1 h2 => by
      have hb1 := hb b (by omega) (by simpa using h2)
      rw [hb1, Below.heap_setCell _ _ _ _ (by simp; omega), Below.heap_setCell _ _ _ _ (by simp; omega)])
  · have HFF : Hid (crF C n R m C' n' R' m' = twoF (relF C n R m) (relF C' n' R' m')) := if_neg h0
    have HNZ : Hid (¬ twoF (relF C n R m) (relF C' n' R' m') = 0) := h0
    have h1 : (twoF (relF C n R m) (relF C' n' R' m') != 0) = true := by simpa using h0
    obtain ⟨ca, ccap, rfl, _⟩ := hc
    obtain ⟨ca', ccap', rfl, _⟩ := hc'
    obtain ⟨qa, qcap, rfl, _⟩ := hq
    obtain ⟨qa', qcap', rfl, _⟩ := hq'
    clear h0 hf hg hf' hg' hT
    generalize crF C n R m C' n' R' m' = F at *
    generalize twoF (relF C n R m) (relF C' n' R' m') = G at *
    go_enter Tryd.func6, Tryd.ntmps6
    go_wp2_with (first | (go_at_call 10; refine (C1.out _ _ _).mono ?_; rintro e w1 ⟨rfl, hb1⟩; have HB1 : Hid (Below (w.heap.size + 3) _ w1) := hb1; obtain ⟨x0, x1, x2, x3, x4, x5, x6, x7, x8⟩ := box3 hb1; clear hb1))
    refine bodyPost_ret (v := .tuple #[.agg #[.slice none 0 0, .slice none 0 0], .int .i64 G]) (by simp [results, Tryd.results6, go_sem, x4, x5]) rfl ⟨_, _, by rw [HFF.out], ?_, (((HW.out HB1.out)).setCell (by simp; omega) _).setCell (by simp; omega) _⟩
    rw [HFF.out, okN, if_neg HNZ.out, okN, if_neg HNZ.out]; exact FreshRel.nil _ _ _ _
end Go.Proofs.YtalllggokmhgeaaDoor
