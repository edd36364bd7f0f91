/-
  WHAT PACKAGE rel MAKES OF RELATIONS WITHOUT ROWS, for an op (run.related).
-/
import Derived.Test.YtkcejelmohameaaGreatDoorRcCalls
import Derived.Test.YtkcejelmohameaaGreatDoorRcOpen
import Derived.Deep.QuietTactic
import Derived.BigQuiet
import Derived.Deep.RegionHeld3
set_option linter.unusedVariables false
namespace Go.Proofs.YtkcejelmohameaaGreatDoor
set_option maxRecDepth 100000
open Go.RowKit Go.WideShapes

theorem drewO (B : Nat) (w : World) : Below B w w.drew := ⟨rfl, rfl, rfl, Nat.le_refl _, fun _ _ => rfl⟩
set_option maxHeartbeats 3200000 in
theorem related_2 (pb po ib : Nat) (o : Opm) (a b : Txts) (w : World) (h : OpAt w pb po o) (hf : OpFine o) (i0 : InOk w ib 0 a) (hT : Tabs w) (hk : o.kind = 2) :
    Calls Tryz.prog 70 #[.pointer (some ⟨pb, po, none⟩), .slice (some ⟨ib, 0, none⟩) 1 1] w fun e w' => OutT (outF o a b) (outC o a b) w e w' := by
  have hN : namB o a b = (decide (o.cols.len = o.olds.len) && allT a o.olds) := by unfold namB; rw [hk]; rfl
  have hO : outC o a b = o.cols := by unfold outC; rw [hk]; rfl
  have hF : outF o a b = (if (decide (o.cols.len = o.olds.len) && allT a o.olds) = true then colsF o.cols.at_ o.cols.len else 9) := by
    unfold outF
    rw [hN, hO]
    skip
  rw [hF, hO]
  have hpb := h.lt
  have d0 := h.kind
  rw [hk] at d0
  obtain ⟨ca, ck, qa, qk, x0, x1, hs, hr⟩ := i0.ex
  obtain ⟨oa, oc, y3, hcs⟩ := h.cols
  obtain ⟨pa, pc, y4, hos⟩ := h.olds
  obtain ⟨F, eF⟩ : ∃ F : Int, F = (if (decide (o.cols.len = o.olds.len) && allT a o.olds) = true then colsF o.cols.at_ o.cols.len else 9) := ⟨_, rfl⟩
  obtain ⟨T, eT⟩ : ∃ T : Txts, T = o.cols := ⟨_, rfl⟩
  rw [← eF]
  rw [← eT]
  have CX : Hid (∀ W, Below w.heap.size w W → Calls Tryz.prog 99 #[.agg #[.slice ca a.len ck, .slice qa 0 qk], .slice oa o.cols.len oc, .slice pa o.olds.len pc] W fun e w' => OutT F T W e w') := fun W hW => by
    rw [eF, eT]
    exact rc_project a _ _ W (hs.below hW) hr i0.may i0.fine (Utf8Tabs_below hT hW) _ o.cols (hcs.below hW) hf.cols _ o.olds (hos.below hW) hf.olds
  have hlib := i0.lt
  have hlpb := hpb
  have HS : Hid (∀ W, Below w.heap.size w W → W.cell? ⟨ib, 0, none⟩ = some (.slice ca a.len ck) ∧ W.cell? ⟨ib, 1, none⟩ = some (.slice qa 0 qk) ∧ W.cell? ⟨pb, po + 3, none⟩ = some (.slice oa o.cols.len oc) ∧ W.cell? ⟨pb, po + 4, none⟩ = some (.slice pa o.olds.len pc)) := fun W hW => ⟨(hW.cell (p := ⟨ib, 0, none⟩) hlib).trans x0, (hW.cell (p := ⟨ib, 1, none⟩) hlib).trans x1, (hW.cell (p := ⟨pb, po + 3, none⟩) hlpb).trans y3, (hW.cell (p := ⟨pb, po + 4, none⟩) hlpb).trans y4⟩
  obtain ⟨s0, s1, s2, s3⟩ := HS.out w (Below.refl _ _)
  clear h hf i0 hT hk hN hO hF eF eT x0 x1 y3 y4  hs hr hcs hos 
  go_enter Tryz.func70, Tryz.ntmps70
  go_upto_region 3 with fail
  obtain ⟨W1, hW1⟩ : ∃ W, W = w.alloc (.cells #[.slice none 0 0, .slice none 0 0] 40) := ⟨_, rfl⟩
  have HRW : Hid (W1.heap[w.heap.size]? = some (.cells #[.slice none 0 0, .slice none 0 0] 40)) := by rw [hW1]; exact kNew rfl
  have HBW : Hid (∀ W, Below W1.heap.size W1 W → Below w.heap.size w W) := fun W hW => by
    have h1 : Below w.heap.size w W1 := by rw [hW1]; exact (Below.refl _ _).alloc (Nat.le_refl _) _
    exact h1.trans (hW.mono h1.size)
  have hlw : w.heap.size < W1.heap.size := kLt HRW.out
  rw [← hW1]
  clear hW1 s0 s1 s2 s3
  obtain ⟨s0, s1, s2, s3⟩ := HS.out W1 (HBW.out _ (Below.refl _ _))
  obtain ⟨q0, q1, q2, q3, q4⟩ := k2 HRW.out
  have HN1 : Hid (Below w.heap.size w W1) := HBW.out _ (Below.refl _ _)
  go_region_held3 (fun W => W.cell? ⟨ib, 0, none⟩ = some (.slice ca a.len ck) ∧ W.cell? ⟨ib, 1, none⟩ = some (.slice qa 0 qk) ∧ W.cell? ⟨pb, po + 3, none⟩ = some (.slice oa o.cols.len oc) ∧ W.cell? ⟨pb, po + 4, none⟩ = some (.slice pa o.olds.len pc))
    ((refine HS.out _ ?_; (focus (repeat (first | exact Below.refl _ _ | exact Hid.out (by assumption) | refine Below.setCell ?_ (by first | omega | (simp <;> omega)) _ | refine Below.alloc ?_ (by first | omega | (simp <;> omega)) _ | refine Below.trans ?_ (drewO _ _))))))
    (first | (go_at_call 99; refine (CX.out _ ?_).mono ?_; (· (focus (repeat (first | exact Below.refl _ _ | exact Hid.out (by assumption) | refine Below.setCell ?_ (by first | omega | (simp <;> omega)) _ | refine Below.alloc ?_ (by first | omega | (simp <;> omega)) _ | refine Below.trans ?_ (drewO _ _))))); rintro e w2 ⟨a1, k1, qa1, qk1, rfl, hfar, hrow, hb2⟩; have hn2 := Below.trans (B := w.heap.size) (a := w) (by (focus (repeat (first | exact Below.refl _ _ | exact Hid.out (by assumption) | refine Below.setCell ?_ (by first | omega | (simp <;> omega)) _ | refine Below.alloc ?_ (by first | omega | (simp <;> omega)) _ | refine Below.trans ?_ (drewO _ _))))) (hb2.mono (Nat.le_of_lt hlw)); have HN2 := hidK hn2; have HF2 : Hid (Far W1.heap.size w2 (.slice a1 (okN F T.len) k1) (okN F T.len) T.at_) := hfar; have HROW := hidK hrow; have HR2 : Hid (w2.heap[w.heap.size]? = some (.cells #[.slice none 0 0, .slice none 0 0] 40)) := (hb2.block w.heap.size hlw).trans HRW.out; clear q0 q1 q2 q3 q4; obtain ⟨q0, q1, q2, q3, q4⟩ := k2 HR2.out; obtain ⟨s0, s1, s2, s3⟩ := HS.out _ hn2; clear hfar hrow hb2 hn2 CX HN1))
  go_wp2
  refine bodyPost_ret (v := .tuple #[.agg #[.slice a1 (okN F T.len) k1, .slice qa1 0 qk1], .int .i64 F]) (by simp [results, Tryz.results70, go_sem, q0, q1]) rfl ⟨a1, k1, qa1, qk1, rfl, ?_, HROW.out, ?_⟩
  · exact ((HF2.out.setCell (by simpa using hlw) _).setCell (by simpa using hlw) _).low (Nat.le_of_lt hlw)
  · exact (HN2.out.setCell (Nat.le_refl _) _).setCell (Nat.le_refl _) _
set_option maxHeartbeats 3200000 in
theorem related_3 (pb po ib : Nat) (o : Opm) (a b : Txts) (w : World) (h : OpAt w pb po o) (hf : OpFine o) (i0 : InOk w ib 0 a) (hT : Tabs w) (hk : o.kind = 3) (hn : o.cols.len = 1) :
    Calls Tryz.prog 70 #[.pointer (some ⟨pb, po, none⟩), .slice (some ⟨ib, 0, none⟩) 1 1] w fun e w' => OutT (outF o a b) (outC o a b) w e w' := by
  have hN : namB o a b = (decide (o.cols.len = 1) && cnB a (o.cols.at_ 0)) := by unfold namB; rw [hk]; rfl
  have hO : outC o a b = a := by unfold outC; rw [hk]; rfl
  have hF : outF o a b = (if cnB a (o.cols.at_ 0) = true then colsF a.at_ a.len else 9) := by
    unfold outF
    rw [hN, hO]
    rw [decide_eq_true hn, Bool.true_and]
  rw [hF, hO]
  have hpb := h.lt
  have d0 := h.kind
  rw [hk] at d0
  obtain ⟨ca, ck, qa, qk, x0, x1, hs, hr⟩ := i0.ex
  obtain ⟨oa, oc, y3, hcs⟩ := h.cols
  have hcz := hcs
  obtain ⟨_, _, e0, _, _, _, hat⟩ := hcz
  cases e0
  obtain ⟨cb, co, rfl, hcb, hel⟩ := hat (by omega)
  have z0 : w.cell? ⟨cb, co, none⟩ = some (.string (o.cols.at_ 0)) := hel 0 (by omega)
  rw [hn] at y3
  obtain ⟨F, eF⟩ : ∃ F : Int, F = (if cnB a (o.cols.at_ 0) = true then colsF a.at_ a.len else 9) := ⟨_, rfl⟩
  obtain ⟨T, eT⟩ : ∃ T : Txts, T = a := ⟨_, rfl⟩
  rw [← eF]
  rw [← eT]
  have CX : Hid (∀ W, Below w.heap.size w W → Calls Tryz.prog 100 #[.agg #[.slice ca a.len ck, .slice qa 0 qk], .string (o.cols.at_ 0)] W fun e w' => OutT F T W e w') := fun W hW => by
    rw [eF, eT]
    exact rc_select a _ _ W (hs.below hW) hr i0.may i0.fine (Utf8Tabs_below hT hW) _
  have hlib := i0.lt
  have hlpb := hpb
  have hlcb := hcb
  have HS : Hid (∀ W, Below w.heap.size w W → W.cell? ⟨ib, 0, none⟩ = some (.slice ca a.len ck) ∧ W.cell? ⟨ib, 1, none⟩ = some (.slice qa 0 qk) ∧ W.cell? ⟨pb, po + 3, none⟩ = some (.slice (some ⟨cb, co, none⟩) 1 oc) ∧ W.cell? ⟨cb, co, none⟩ = some (.string (o.cols.at_ 0))) := fun W hW => ⟨(hW.cell (p := ⟨ib, 0, none⟩) hlib).trans x0, (hW.cell (p := ⟨ib, 1, none⟩) hlib).trans x1, (hW.cell (p := ⟨pb, po + 3, none⟩) hlpb).trans y3, (hW.cell (p := ⟨cb, co, none⟩) hlcb).trans z0⟩
  obtain ⟨s0, s1, s2, s3⟩ := HS.out w (Below.refl _ _)
  clear h hf i0 hT hk hN hO hF eF eT x0 x1 y3 z0 hs hr hcs hat hel hn 
  go_enter Tryz.func70, Tryz.ntmps70
  go_upto_region 5 with fail
  obtain ⟨W1, hW1⟩ : ∃ W, W = w.alloc (.cells #[.slice none 0 0, .slice none 0 0] 40) := ⟨_, rfl⟩
  have HRW : Hid (W1.heap[w.heap.size]? = some (.cells #[.slice none 0 0, .slice none 0 0] 40)) := by rw [hW1]; exact kNew rfl
  have HBW : Hid (∀ W, Below W1.heap.size W1 W → Below w.heap.size w W) := fun W hW => by
    have h1 : Below w.heap.size w W1 := by rw [hW1]; exact (Below.refl _ _).alloc (Nat.le_refl _) _
    exact h1.trans (hW.mono h1.size)
  have hlw : w.heap.size < W1.heap.size := kLt HRW.out
  rw [← hW1]
  clear hW1 s0 s1 s2 s3
  obtain ⟨s0, s1, s2, s3⟩ := HS.out W1 (HBW.out _ (Below.refl _ _))
  obtain ⟨q0, q1, q2, q3, q4⟩ := k2 HRW.out
  have HN1 : Hid (Below w.heap.size w W1) := HBW.out _ (Below.refl _ _)
  go_region_held3 (fun W => W.cell? ⟨ib, 0, none⟩ = some (.slice ca a.len ck) ∧ W.cell? ⟨ib, 1, none⟩ = some (.slice qa 0 qk) ∧ W.cell? ⟨pb, po + 3, none⟩ = some (.slice (some ⟨cb, co, none⟩) 1 oc) ∧ W.cell? ⟨cb, co, none⟩ = some (.string (o.cols.at_ 0)))
    ((refine HS.out _ ?_; (focus (repeat (first | exact Below.refl _ _ | exact Hid.out (by assumption) | refine Below.setCell ?_ (by first | omega | (simp <;> omega)) _ | refine Below.alloc ?_ (by first | omega | (simp <;> omega)) _ | refine Below.trans ?_ (drewO _ _))))))
    (first | (go_at_call 100; refine (CX.out _ ?_).mono ?_; (· (focus (repeat (first | exact Below.refl _ _ | exact Hid.out (by assumption) | refine Below.setCell ?_ (by first | omega | (simp <;> omega)) _ | refine Below.alloc ?_ (by first | omega | (simp <;> omega)) _ | refine Below.trans ?_ (drewO _ _))))); rintro e w2 ⟨a1, k1, qa1, qk1, rfl, hfar, hrow, hb2⟩; have hn2 := Below.trans (B := w.heap.size) (a := w) (by (focus (repeat (first | exact Below.refl _ _ | exact Hid.out (by assumption) | refine Below.setCell ?_ (by first | omega | (simp <;> omega)) _ | refine Below.alloc ?_ (by first | omega | (simp <;> omega)) _ | refine Below.trans ?_ (drewO _ _))))) (hb2.mono (Nat.le_of_lt hlw)); have HN2 := hidK hn2; have HF2 : Hid (Far W1.heap.size w2 (.slice a1 (okN F T.len) k1) (okN F T.len) T.at_) := hfar; have HROW := hidK hrow; have HR2 : Hid (w2.heap[w.heap.size]? = some (.cells #[.slice none 0 0, .slice none 0 0] 40)) := (hb2.block w.heap.size hlw).trans HRW.out; clear q0 q1 q2 q3 q4; obtain ⟨q0, q1, q2, q3, q4⟩ := k2 HR2.out; obtain ⟨s0, s1, s2, s3⟩ := HS.out _ hn2; clear hfar hrow hb2 hn2 CX HN1))
  go_wp2
  refine bodyPost_ret (v := .tuple #[.agg #[.slice a1 (okN F T.len) k1, .slice qa1 0 qk1], .int .i64 F]) (by simp [results, Tryz.results70, go_sem, q0, q1]) rfl ⟨a1, k1, qa1, qk1, rfl, ?_, HROW.out, ?_⟩
  · exact ((HF2.out.setCell (by simpa using hlw) _).setCell (by simpa using hlw) _).low (Nat.le_of_lt hlw)
  · exact (HN2.out.setCell (Nat.le_refl _) _).setCell (Nat.le_refl _) _
set_option maxHeartbeats 3200000 in
theorem related_4 (pb po ib : Nat) (o : Opm) (a b : Txts) (w : World) (h : OpAt w pb po o) (hf : OpFine o) (i0 : InOk w ib 0 a) (i1 : InOk w ib 2 b) (hT : Tabs w) (hk : o.kind = 4) (hn : o.cols.len = 2) :
    Calls Tryz.prog 70 #[.pointer (some ⟨pb, po, none⟩), .slice (some ⟨ib, 0, none⟩) 2 2] w fun e w' => OutT (outF o a b) (outC o a b) w e w' := by
  have hN : namB o a b = (decide (o.cols.len = 2) && (cnB a (o.cols.at_ 0) && cnB b (o.cols.at_ 1))) := by unfold namB; rw [hk]; rfl
  have hO : outC o a b = (appS a b) := by unfold outC; rw [hk]; rfl
  have hF : outF o a b = (if (cnB a (o.cols.at_ 0) && cnB b (o.cols.at_ 1)) = true then colsF (appS a b).at_ (appS a b).len else 9) := by
    unfold outF
    rw [hN, hO]
    rw [decide_eq_true hn, Bool.true_and]
  rw [hF, hO]
  have hpb := h.lt
  have d0 := h.kind
  rw [hk] at d0
  obtain ⟨ca, ck, qa, qk, x0, x1, hs, hr⟩ := i0.ex
  obtain ⟨ca', ck', qa', qk', x2, x3, hs', hr'⟩ := i1.ex
  obtain ⟨oa, oc, y3, hcs⟩ := h.cols
  have hcz := hcs
  obtain ⟨_, _, e0, _, _, _, hat⟩ := hcz
  cases e0
  obtain ⟨cb, co, rfl, hcb, hel⟩ := hat (by omega)
  have z0 : w.cell? ⟨cb, co, none⟩ = some (.string (o.cols.at_ 0)) := hel 0 (by omega)
  have z1 : w.cell? ⟨cb, co + 1, none⟩ = some (.string (o.cols.at_ 1)) := hel 1 (by omega)
  rw [hn] at y3
  obtain ⟨F, eF⟩ : ∃ F : Int, F = (if (cnB a (o.cols.at_ 0) && cnB b (o.cols.at_ 1)) = true then colsF (appS a b).at_ (appS a b).len else 9) := ⟨_, rfl⟩
  obtain ⟨T, eT⟩ : ∃ T : Txts, T = (appS a b) := ⟨_, rfl⟩
  rw [← eF]
  rw [← eT]
  have CX : Hid (∀ W, Below w.heap.size w W → Calls Tryz.prog 101 #[.agg #[.slice ca a.len ck, .slice qa 0 qk], .agg #[.slice ca' b.len ck', .slice qa' 0 qk'], .string (o.cols.at_ 0), .string (o.cols.at_ 1)] W fun e w' => OutT F T W e w') := fun W hW => by
    rw [eF, eT]
    exact rc_join a _ _ W (hs.below hW) hr i0.may i0.fine (Utf8Tabs_below hT hW) b _ _ (hs'.below hW) hr' i1.may i1.fine _ _
  have hlib := i0.lt
  have hlpb := hpb
  have hlcb := hcb
  have HS : Hid (∀ W, Below w.heap.size w W → W.cell? ⟨ib, 0, none⟩ = some (.slice ca a.len ck) ∧ W.cell? ⟨ib, 1, none⟩ = some (.slice qa 0 qk) ∧ W.cell? ⟨ib, 2, none⟩ = some (.slice ca' b.len ck') ∧ W.cell? ⟨ib, 3, none⟩ = some (.slice qa' 0 qk') ∧ W.cell? ⟨pb, po + 3, none⟩ = some (.slice (some ⟨cb, co, none⟩) 2 oc) ∧ W.cell? ⟨cb, co, none⟩ = some (.string (o.cols.at_ 0)) ∧ W.cell? ⟨cb, co + 1, none⟩ = some (.string (o.cols.at_ 1))) := fun W hW => ⟨(hW.cell (p := ⟨ib, 0, none⟩) hlib).trans x0, (hW.cell (p := ⟨ib, 1, none⟩) hlib).trans x1, (hW.cell (p := ⟨ib, 2, none⟩) hlib).trans x2, (hW.cell (p := ⟨ib, 3, none⟩) hlib).trans x3, (hW.cell (p := ⟨pb, po + 3, none⟩) hlpb).trans y3, (hW.cell (p := ⟨cb, co, none⟩) hlcb).trans z0, (hW.cell (p := ⟨cb, co + 1, none⟩) hlcb).trans z1⟩
  obtain ⟨s0, s1, s2, s3, s4, s5, s6⟩ := HS.out w (Below.refl _ _)
  clear h hf i0 i1 hT hk hN hO hF eF eT x0 x1 x2 x3 y3 z0 z1 hs hr hs' hr' hcs hat hel hn 
  go_enter Tryz.func70, Tryz.ntmps70
  go_upto_region 7 with fail
  obtain ⟨W1, hW1⟩ : ∃ W, W = w.alloc (.cells #[.slice none 0 0, .slice none 0 0] 40) := ⟨_, rfl⟩
  have HRW : Hid (W1.heap[w.heap.size]? = some (.cells #[.slice none 0 0, .slice none 0 0] 40)) := by rw [hW1]; exact kNew rfl
  have HBW : Hid (∀ W, Below W1.heap.size W1 W → Below w.heap.size w W) := fun W hW => by
    have h1 : Below w.heap.size w W1 := by rw [hW1]; exact (Below.refl _ _).alloc (Nat.le_refl _) _
    exact h1.trans (hW.mono h1.size)
  have hlw : w.heap.size < W1.heap.size := kLt HRW.out
  rw [← hW1]
  clear hW1 s0 s1 s2 s3 s4 s5 s6
  obtain ⟨s0, s1, s2, s3, s4, s5, s6⟩ := HS.out W1 (HBW.out _ (Below.refl _ _))
  obtain ⟨q0, q1, q2, q3, q4⟩ := k2 HRW.out
  have HN1 : Hid (Below w.heap.size w W1) := HBW.out _ (Below.refl _ _)
  go_region_held3 (fun W => W.cell? ⟨ib, 0, none⟩ = some (.slice ca a.len ck) ∧ W.cell? ⟨ib, 1, none⟩ = some (.slice qa 0 qk) ∧ W.cell? ⟨ib, 2, none⟩ = some (.slice ca' b.len ck') ∧ W.cell? ⟨ib, 3, none⟩ = some (.slice qa' 0 qk') ∧ W.cell? ⟨pb, po + 3, none⟩ = some (.slice (some ⟨cb, co, none⟩) 2 oc) ∧ W.cell? ⟨cb, co, none⟩ = some (.string (o.cols.at_ 0)) ∧ W.cell? ⟨cb, co + 1, none⟩ = some (.string (o.cols.at_ 1)))
    ((refine HS.out _ ?_; (focus (repeat (first | exact Below.refl _ _ | exact Hid.out (by assumption) | refine Below.setCell ?_ (by first | omega | (simp <;> omega)) _ | refine Below.alloc ?_ (by first | omega | (simp <;> omega)) _ | refine Below.trans ?_ (drewO _ _))))))
    (first | (go_at_call 101; refine (CX.out _ ?_).mono ?_; (· (focus (repeat (first | exact Below.refl _ _ | exact Hid.out (by assumption) | refine Below.setCell ?_ (by first | omega | (simp <;> omega)) _ | refine Below.alloc ?_ (by first | omega | (simp <;> omega)) _ | refine Below.trans ?_ (drewO _ _))))); rintro e w2 ⟨a1, k1, qa1, qk1, rfl, hfar, hrow, hb2⟩; have hn2 := Below.trans (B := w.heap.size) (a := w) (by (focus (repeat (first | exact Below.refl _ _ | exact Hid.out (by assumption) | refine Below.setCell ?_ (by first | omega | (simp <;> omega)) _ | refine Below.alloc ?_ (by first | omega | (simp <;> omega)) _ | refine Below.trans ?_ (drewO _ _))))) (hb2.mono (Nat.le_of_lt hlw)); have HN2 := hidK hn2; have HF2 : Hid (Far W1.heap.size w2 (.slice a1 (okN F T.len) k1) (okN F T.len) T.at_) := hfar; have HROW := hidK hrow; have HR2 : Hid (w2.heap[w.heap.size]? = some (.cells #[.slice none 0 0, .slice none 0 0] 40)) := (hb2.block w.heap.size hlw).trans HRW.out; clear q0 q1 q2 q3 q4; obtain ⟨q0, q1, q2, q3, q4⟩ := k2 HR2.out; obtain ⟨s0, s1, s2, s3, s4, s5, s6⟩ := HS.out _ hn2; clear hfar hrow hb2 hn2 CX HN1))
  go_wp2
  refine bodyPost_ret (v := .tuple #[.agg #[.slice a1 (okN F T.len) k1, .slice qa1 0 qk1], .int .i64 F]) (by simp [results, Tryz.results70, go_sem, q0, q1]) rfl ⟨a1, k1, qa1, qk1, rfl, ?_, HROW.out, ?_⟩
  · exact ((HF2.out.setCell (by simpa using hlw) _).setCell (by simpa using hlw) _).low (Nat.le_of_lt hlw)
  · exact (HN2.out.setCell (Nat.le_refl _) _).setCell (Nat.le_refl _) _
set_option maxHeartbeats 3200000 in
theorem related_5 (pb po ib : Nat) (o : Opm) (a b : Txts) (w : World) (h : OpAt w pb po o) (hf : OpFine o) (i0 : InOk w ib 0 a) (i1 : InOk w ib 2 b) (hT : Tabs w) (hk : o.kind = 5) :
    Calls Tryz.prog 70 #[.pointer (some ⟨pb, po, none⟩), .slice (some ⟨ib, 0, none⟩) 2 2] w fun e w' => OutT (outF o a b) (outC o a b) w e w' := by
  have hN : namB o a b = (true) := by unfold namB; rw [hk]; rfl
  have hO : outC o a b = (appS a b) := by unfold outC; rw [hk]; rfl
  have hF : outF o a b = (colsF (appS a b).at_ (appS a b).len) := by
    unfold outF
    rw [hN, hO]
    rfl
  rw [hF, hO]
  have hpb := h.lt
  have d0 := h.kind
  rw [hk] at d0
  obtain ⟨ca, ck, qa, qk, x0, x1, hs, hr⟩ := i0.ex
  obtain ⟨ca', ck', qa', qk', x2, x3, hs', hr'⟩ := i1.ex
  obtain ⟨F, eF⟩ : ∃ F : Int, F = (colsF (appS a b).at_ (appS a b).len) := ⟨_, rfl⟩
  obtain ⟨T, eT⟩ : ∃ T : Txts, T = (appS a b) := ⟨_, rfl⟩
  rw [← eF]
  rw [← eT]
  have CX : Hid (∀ W, Below w.heap.size w W → Calls Tryz.prog 102 #[.agg #[.slice ca a.len ck, .slice qa 0 qk], .agg #[.slice ca' b.len ck', .slice qa' 0 qk']] W fun e w' => OutT F T W e w') := fun W hW => by
    rw [eF, eT]
    exact rc_cross a _ _ W (hs.below hW) hr i0.may i0.fine (Utf8Tabs_below hT hW) b _ _ (hs'.below hW) hr' i1.may i1.fine
  have hlib := i0.lt
  have hlpb := hpb
  have HS : Hid (∀ W, Below w.heap.size w W → W.cell? ⟨ib, 0, none⟩ = some (.slice ca a.len ck) ∧ W.cell? ⟨ib, 1, none⟩ = some (.slice qa 0 qk) ∧ W.cell? ⟨ib, 2, none⟩ = some (.slice ca' b.len ck') ∧ W.cell? ⟨ib, 3, none⟩ = some (.slice qa' 0 qk')) := fun W hW => ⟨(hW.cell (p := ⟨ib, 0, none⟩) hlib).trans x0, (hW.cell (p := ⟨ib, 1, none⟩) hlib).trans x1, (hW.cell (p := ⟨ib, 2, none⟩) hlib).trans x2, (hW.cell (p := ⟨ib, 3, none⟩) hlib).trans x3⟩
  obtain ⟨s0, s1, s2, s3⟩ := HS.out w (Below.refl _ _)
  clear h hf i0 i1 hT hk hN hO hF eF eT x0 x1 x2 x3   hs hr hs' hr' 
  go_enter Tryz.func70, Tryz.ntmps70
  go_upto_region 9 with fail
  obtain ⟨W1, hW1⟩ : ∃ W, W = w.alloc (.cells #[.slice none 0 0, .slice none 0 0] 40) := ⟨_, rfl⟩
  have HRW : Hid (W1.heap[w.heap.size]? = some (.cells #[.slice none 0 0, .slice none 0 0] 40)) := by rw [hW1]; exact kNew rfl
  have HBW : Hid (∀ W, Below W1.heap.size W1 W → Below w.heap.size w W) := fun W hW => by
    have h1 : Below w.heap.size w W1 := by rw [hW1]; exact (Below.refl _ _).alloc (Nat.le_refl _) _
    exact h1.trans (hW.mono h1.size)
  have hlw : w.heap.size < W1.heap.size := kLt HRW.out
  rw [← hW1]
  clear hW1 s0 s1 s2 s3
  obtain ⟨s0, s1, s2, s3⟩ := HS.out W1 (HBW.out _ (Below.refl _ _))
  obtain ⟨q0, q1, q2, q3, q4⟩ := k2 HRW.out
  have HN1 : Hid (Below w.heap.size w W1) := HBW.out _ (Below.refl _ _)
  go_region_held3 (fun W => W.cell? ⟨ib, 0, none⟩ = some (.slice ca a.len ck) ∧ W.cell? ⟨ib, 1, none⟩ = some (.slice qa 0 qk) ∧ W.cell? ⟨ib, 2, none⟩ = some (.slice ca' b.len ck') ∧ W.cell? ⟨ib, 3, none⟩ = some (.slice qa' 0 qk'))
    ((refine HS.out _ ?_; (focus (repeat (first | exact Below.refl _ _ | exact Hid.out (by assumption) | refine Below.setCell ?_ (by first | omega | (simp <;> omega)) _ | refine Below.alloc ?_ (by first | omega | (simp <;> omega)) _ | refine Below.trans ?_ (drewO _ _))))))
    (first | (go_at_call 102; refine (CX.out _ ?_).mono ?_; (· (focus (repeat (first | exact Below.refl _ _ | exact Hid.out (by assumption) | refine Below.setCell ?_ (by first | omega | (simp <;> omega)) _ | refine Below.alloc ?_ (by first | omega | (simp <;> omega)) _ | refine Below.trans ?_ (drewO _ _))))); rintro e w2 ⟨a1, k1, qa1, qk1, rfl, hfar, hrow, hb2⟩; have hn2 := Below.trans (B := w.heap.size) (a := w) (by (focus (repeat (first | exact Below.refl _ _ | exact Hid.out (by assumption) | refine Below.setCell ?_ (by first | omega | (simp <;> omega)) _ | refine Below.alloc ?_ (by first | omega | (simp <;> omega)) _ | refine Below.trans ?_ (drewO _ _))))) (hb2.mono (Nat.le_of_lt hlw)); have HN2 := hidK hn2; have HF2 : Hid (Far W1.heap.size w2 (.slice a1 (okN F T.len) k1) (okN F T.len) T.at_) := hfar; have HROW := hidK hrow; have HR2 : Hid (w2.heap[w.heap.size]? = some (.cells #[.slice none 0 0, .slice none 0 0] 40)) := (hb2.block w.heap.size hlw).trans HRW.out; clear q0 q1 q2 q3 q4; obtain ⟨q0, q1, q2, q3, q4⟩ := k2 HR2.out; obtain ⟨s0, s1, s2, s3⟩ := HS.out _ hn2; clear hfar hrow hb2 hn2 CX HN1))
  go_wp2
  refine bodyPost_ret (v := .tuple #[.agg #[.slice a1 (okN F T.len) k1, .slice qa1 0 qk1], .int .i64 F]) (by simp [results, Tryz.results70, go_sem, q0, q1]) rfl ⟨a1, k1, qa1, qk1, rfl, ?_, HROW.out, ?_⟩
  · exact ((HF2.out.setCell (by simpa using hlw) _).setCell (by simpa using hlw) _).low (Nat.le_of_lt hlw)
  · exact (HN2.out.setCell (Nat.le_refl _) _).setCell (Nat.le_refl _) _
set_option maxHeartbeats 3200000 in
theorem related_6 (pb po ib : Nat) (o : Opm) (a b : Txts) (w : World) (h : OpAt w pb po o) (hf : OpFine o) (i0 : InOk w ib 0 a) (i1 : InOk w ib 2 b) (hT : Tabs w) (hk : o.kind = 6) :
    Calls Tryz.prog 70 #[.pointer (some ⟨pb, po, none⟩), .slice (some ⟨ib, 0, none⟩) 2 2] w fun e w' => OutT (outF o a b) (outC o a b) w e w' := by
  have hN : namB o a b = (colsB a.at_ b.at_ a.len b.len) := by unfold namB; rw [hk]; rfl
  have hO : outC o a b = a := by unfold outC; rw [hk]; rfl
  have hF : outF o a b = (if colsB a.at_ b.at_ a.len b.len = true then colsF a.at_ a.len else 9) := by
    unfold outF
    rw [hN, hO]
    skip
  rw [hF, hO]
  have hpb := h.lt
  have d0 := h.kind
  rw [hk] at d0
  obtain ⟨ca, ck, qa, qk, x0, x1, hs, hr⟩ := i0.ex
  obtain ⟨ca', ck', qa', qk', x2, x3, hs', hr'⟩ := i1.ex
  obtain ⟨F, eF⟩ : ∃ F : Int, F = (if colsB a.at_ b.at_ a.len b.len = true then colsF a.at_ a.len else 9) := ⟨_, rfl⟩
  obtain ⟨T, eT⟩ : ∃ T : Txts, T = a := ⟨_, rfl⟩
  rw [← eF]
  rw [← eT]
  have CX : Hid (∀ W, Below w.heap.size w W → Calls Tryz.prog 103 #[.agg #[.slice ca a.len ck, .slice qa 0 qk], .agg #[.slice ca' b.len ck', .slice qa' 0 qk']] W fun e w' => OutT F T W e w') := fun W hW => by
    rw [eF, eT]
    exact rc_union a _ _ W (hs.below hW) hr i0.may i0.fine (Utf8Tabs_below hT hW) b _ _ (hs'.below hW) hr' i1.may i1.fine
  have hlib := i0.lt
  have hlpb := hpb
  have HS : Hid (∀ W, Below w.heap.size w W → W.cell? ⟨ib, 0, none⟩ = some (.slice ca a.len ck) ∧ W.cell? ⟨ib, 1, none⟩ = some (.slice qa 0 qk) ∧ W.cell? ⟨ib, 2, none⟩ = some (.slice ca' b.len ck') ∧ W.cell? ⟨ib, 3, none⟩ = some (.slice qa' 0 qk')) := fun W hW => ⟨(hW.cell (p := ⟨ib, 0, none⟩) hlib).trans x0, (hW.cell (p := ⟨ib, 1, none⟩) hlib).trans x1, (hW.cell (p := ⟨ib, 2, none⟩) hlib).trans x2, (hW.cell (p := ⟨ib, 3, none⟩) hlib).trans x3⟩
  obtain ⟨s0, s1, s2, s3⟩ := HS.out w (Below.refl _ _)
  clear h hf i0 i1 hT hk hN hO hF eF eT x0 x1 x2 x3   hs hr hs' hr' 
  go_enter Tryz.func70, Tryz.ntmps70
  go_upto_region 11 with fail
  obtain ⟨W1, hW1⟩ : ∃ W, W = w.alloc (.cells #[.slice none 0 0, .slice none 0 0] 40) := ⟨_, rfl⟩
  have HRW : Hid (W1.heap[w.heap.size]? = some (.cells #[.slice none 0 0, .slice none 0 0] 40)) := by rw [hW1]; exact kNew rfl
  have HBW : Hid (∀ W, Below W1.heap.size W1 W → Below w.heap.size w W) := fun W hW => by
    have h1 : Below w.heap.size w W1 := by rw [hW1]; exact (Below.refl _ _).alloc (Nat.le_refl _) _
    exact h1.trans (hW.mono h1.size)
  have hlw : w.heap.size < W1.heap.size := kLt HRW.out
  rw [← hW1]
  clear hW1 s0 s1 s2 s3
  obtain ⟨s0, s1, s2, s3⟩ := HS.out W1 (HBW.out _ (Below.refl _ _))
  obtain ⟨q0, q1, q2, q3, q4⟩ := k2 HRW.out
  have HN1 : Hid (Below w.heap.size w W1) := HBW.out _ (Below.refl _ _)
  go_region_held3 (fun W => W.cell? ⟨ib, 0, none⟩ = some (.slice ca a.len ck) ∧ W.cell? ⟨ib, 1, none⟩ = some (.slice qa 0 qk) ∧ W.cell? ⟨ib, 2, none⟩ = some (.slice ca' b.len ck') ∧ W.cell? ⟨ib, 3, none⟩ = some (.slice qa' 0 qk'))
    ((refine HS.out _ ?_; (focus (repeat (first | exact Below.refl _ _ | exact Hid.out (by assumption) | refine Below.setCell ?_ (by first | omega | (simp <;> omega)) _ | refine Below.alloc ?_ (by first | omega | (simp <;> omega)) _ | refine Below.trans ?_ (drewO _ _))))))
    (first | (go_at_call 103; refine (CX.out _ ?_).mono ?_; (· (focus (repeat (first | exact Below.refl _ _ | exact Hid.out (by assumption) | refine Below.setCell ?_ (by first | omega | (simp <;> omega)) _ | refine Below.alloc ?_ (by first | omega | (simp <;> omega)) _ | refine Below.trans ?_ (drewO _ _))))); rintro e w2 ⟨a1, k1, qa1, qk1, rfl, hfar, hrow, hb2⟩; have hn2 := Below.trans (B := w.heap.size) (a := w) (by (focus (repeat (first | exact Below.refl _ _ | exact Hid.out (by assumption) | refine Below.setCell ?_ (by first | omega | (simp <;> omega)) _ | refine Below.alloc ?_ (by first | omega | (simp <;> omega)) _ | refine Below.trans ?_ (drewO _ _))))) (hb2.mono (Nat.le_of_lt hlw)); have HN2 := hidK hn2; have HF2 : Hid (Far W1.heap.size w2 (.slice a1 (okN F T.len) k1) (okN F T.len) T.at_) := hfar; have HROW := hidK hrow; have HR2 : Hid (w2.heap[w.heap.size]? = some (.cells #[.slice none 0 0, .slice none 0 0] 40)) := (hb2.block w.heap.size hlw).trans HRW.out; clear q0 q1 q2 q3 q4; obtain ⟨q0, q1, q2, q3, q4⟩ := k2 HR2.out; obtain ⟨s0, s1, s2, s3⟩ := HS.out _ hn2; clear hfar hrow hb2 hn2 CX HN1))
  go_wp2
  refine bodyPost_ret (v := .tuple #[.agg #[.slice a1 (okN F T.len) k1, .slice qa1 0 qk1], .int .i64 F]) (by simp [results, Tryz.results70, go_sem, q0, q1]) rfl ⟨a1, k1, qa1, qk1, rfl, ?_, HROW.out, ?_⟩
  · exact ((HF2.out.setCell (by simpa using hlw) _).setCell (by simpa using hlw) _).low (Nat.le_of_lt hlw)
  · exact (HN2.out.setCell (Nat.le_refl _) _).setCell (Nat.le_refl _) _
set_option maxHeartbeats 3200000 in
theorem related_7 (pb po ib : Nat) (o : Opm) (a b : Txts) (w : World) (h : OpAt w pb po o) (hf : OpFine o) (i0 : InOk w ib 0 a) (i1 : InOk w ib 2 b) (hT : Tabs w) (hk : o.kind = 7) :
    Calls Tryz.prog 70 #[.pointer (some ⟨pb, po, none⟩), .slice (some ⟨ib, 0, none⟩) 2 2] w fun e w' => OutT (outF o a b) (outC o a b) w e w' := by
  have hN : namB o a b = (allT a o.cols && allT b o.cols) := by unfold namB; rw [hk]; rfl
  have hO : outC o a b = a := by unfold outC; rw [hk]; rfl
  have hF : outF o a b = (if (allT a o.cols && allT b o.cols) = true then colsF a.at_ a.len else 9) := by
    unfold outF
    rw [hN, hO]
    skip
  rw [hF, hO]
  have hpb := h.lt
  have d0 := h.kind
  rw [hk] at d0
  obtain ⟨ca, ck, qa, qk, x0, x1, hs, hr⟩ := i0.ex
  obtain ⟨ca', ck', qa', qk', x2, x3, hs', hr'⟩ := i1.ex
  obtain ⟨oa, oc, y3, hcs⟩ := h.cols
  obtain ⟨F, eF⟩ : ∃ F : Int, F = (if (allT a o.cols && allT b o.cols) = true then colsF a.at_ a.len else 9) := ⟨_, rfl⟩
  obtain ⟨T, eT⟩ : ∃ T : Txts, T = a := ⟨_, rfl⟩
  rw [← eF]
  rw [← eT]
  have CX : Hid (∀ W, Below w.heap.size w W → Calls Tryz.prog 104 #[.agg #[.slice ca a.len ck, .slice qa 0 qk], .agg #[.slice ca' b.len ck', .slice qa' 0 qk'], .slice oa o.cols.len oc] W fun e w' => OutT F T W e w') := fun W hW => by
    rw [eF, eT]
    exact rc_except a _ _ W (hs.below hW) hr i0.may i0.fine (Utf8Tabs_below hT hW) b _ _ (hs'.below hW) hr' i1.may i1.fine _ o.cols (hcs.below hW) hf.cols
  have hlib := i0.lt
  have hlpb := hpb
  have HS : Hid (∀ W, Below w.heap.size w W → W.cell? ⟨ib, 0, none⟩ = some (.slice ca a.len ck) ∧ W.cell? ⟨ib, 1, none⟩ = some (.slice qa 0 qk) ∧ W.cell? ⟨ib, 2, none⟩ = some (.slice ca' b.len ck') ∧ W.cell? ⟨ib, 3, none⟩ = some (.slice qa' 0 qk') ∧ W.cell? ⟨pb, po + 3, none⟩ = some (.slice oa o.cols.len oc)) := fun W hW => ⟨(hW.cell (p := ⟨ib, 0, none⟩) hlib).trans x0, (hW.cell (p := ⟨ib, 1, none⟩) hlib).trans x1, (hW.cell (p := ⟨ib, 2, none⟩) hlib).trans x2, (hW.cell (p := ⟨ib, 3, none⟩) hlib).trans x3, (hW.cell (p := ⟨pb, po + 3, none⟩) hlpb).trans y3⟩
  obtain ⟨s0, s1, s2, s3, s4⟩ := HS.out w (Below.refl _ _)
  clear h hf i0 i1 hT hk hN hO hF eF eT x0 x1 x2 x3 y3  hs hr hs' hr' hcs 
  go_enter Tryz.func70, Tryz.ntmps70
  go_upto_region 13 with fail
  obtain ⟨W1, hW1⟩ : ∃ W, W = w.alloc (.cells #[.slice none 0 0, .slice none 0 0] 40) := ⟨_, rfl⟩
  have HRW : Hid (W1.heap[w.heap.size]? = some (.cells #[.slice none 0 0, .slice none 0 0] 40)) := by rw [hW1]; exact kNew rfl
  have HBW : Hid (∀ W, Below W1.heap.size W1 W → Below w.heap.size w W) := fun W hW => by
    have h1 : Below w.heap.size w W1 := by rw [hW1]; exact (Below.refl _ _).alloc (Nat.le_refl _) _
    exact h1.trans (hW.mono h1.size)
  have hlw : w.heap.size < W1.heap.size := kLt HRW.out
  rw [← hW1]
  clear hW1 s0 s1 s2 s3 s4
  obtain ⟨s0, s1, s2, s3, s4⟩ := HS.out W1 (HBW.out _ (Below.refl _ _))
  obtain ⟨q0, q1, q2, q3, q4⟩ := k2 HRW.out
  have HN1 : Hid (Below w.heap.size w W1) := HBW.out _ (Below.refl _ _)
  go_region_held3 (fun W => W.cell? ⟨ib, 0, none⟩ = some (.slice ca a.len ck) ∧ W.cell? ⟨ib, 1, none⟩ = some (.slice qa 0 qk) ∧ W.cell? ⟨ib, 2, none⟩ = some (.slice ca' b.len ck') ∧ W.cell? ⟨ib, 3, none⟩ = some (.slice qa' 0 qk') ∧ W.cell? ⟨pb, po + 3, none⟩ = some (.slice oa o.cols.len oc))
    ((refine HS.out _ ?_; (focus (repeat (first | exact Below.refl _ _ | exact Hid.out (by assumption) | refine Below.setCell ?_ (by first | omega | (simp <;> omega)) _ | refine Below.alloc ?_ (by first | omega | (simp <;> omega)) _ | refine Below.trans ?_ (drewO _ _))))))
    (first | (go_at_call 104; refine (CX.out _ ?_).mono ?_; (· (focus (repeat (first | exact Below.refl _ _ | exact Hid.out (by assumption) | refine Below.setCell ?_ (by first | omega | (simp <;> omega)) _ | refine Below.alloc ?_ (by first | omega | (simp <;> omega)) _ | refine Below.trans ?_ (drewO _ _))))); rintro e w2 ⟨a1, k1, qa1, qk1, rfl, hfar, hrow, hb2⟩; have hn2 := Below.trans (B := w.heap.size) (a := w) (by (focus (repeat (first | exact Below.refl _ _ | exact Hid.out (by assumption) | refine Below.setCell ?_ (by first | omega | (simp <;> omega)) _ | refine Below.alloc ?_ (by first | omega | (simp <;> omega)) _ | refine Below.trans ?_ (drewO _ _))))) (hb2.mono (Nat.le_of_lt hlw)); have HN2 := hidK hn2; have HF2 : Hid (Far W1.heap.size w2 (.slice a1 (okN F T.len) k1) (okN F T.len) T.at_) := hfar; have HROW := hidK hrow; have HR2 : Hid (w2.heap[w.heap.size]? = some (.cells #[.slice none 0 0, .slice none 0 0] 40)) := (hb2.block w.heap.size hlw).trans HRW.out; clear q0 q1 q2 q3 q4; obtain ⟨q0, q1, q2, q3, q4⟩ := k2 HR2.out; obtain ⟨s0, s1, s2, s3, s4⟩ := HS.out _ hn2; clear hfar hrow hb2 hn2 CX HN1))
  go_wp2
  refine bodyPost_ret (v := .tuple #[.agg #[.slice a1 (okN F T.len) k1, .slice qa1 0 qk1], .int .i64 F]) (by simp [results, Tryz.results70, go_sem, q0, q1]) rfl ⟨a1, k1, qa1, qk1, rfl, ?_, HROW.out, ?_⟩
  · exact ((HF2.out.setCell (by simpa using hlw) _).setCell (by simpa using hlw) _).low (Nat.le_of_lt hlw)
  · exact (HN2.out.setCell (Nat.le_refl _) _).setCell (Nat.le_refl _) _
set_option maxHeartbeats 3200000 in
theorem related_8 (pb po ib : Nat) (o : Opm) (a b : Txts) (w : World) (h : OpAt w pb po o) (hf : OpFine o) (i0 : InOk w ib 0 a) (hT : Tabs w) (hk : o.kind = 8) :
    Calls Tryz.prog 70 #[.pointer (some ⟨pb, po, none⟩), .slice (some ⟨ib, 0, none⟩) 1 1] w fun e w' => OutT (outF o a b) (outC o a b) w e w' := by
  have hN : namB o a b = (allT a o.cols) := by unfold namB; rw [hk]; rfl
  have hO : outC o a b = a := by unfold outC; rw [hk]; rfl
  have hF : outF o a b = (if allT a o.cols = true then colsF a.at_ a.len else 9) := by
    unfold outF
    rw [hN, hO]
    skip
  rw [hF, hO]
  have hpb := h.lt
  have d0 := h.kind
  rw [hk] at d0
  obtain ⟨ca, ck, qa, qk, x0, x1, hs, hr⟩ := i0.ex
  obtain ⟨oa, oc, y3, hcs⟩ := h.cols
  obtain ⟨F, eF⟩ : ∃ F : Int, F = (if allT a o.cols = true then colsF a.at_ a.len else 9) := ⟨_, rfl⟩
  obtain ⟨T, eT⟩ : ∃ T : Txts, T = a := ⟨_, rfl⟩
  rw [← eF]
  rw [← eT]
  have CX : Hid (∀ W, Below w.heap.size w W → Calls Tryz.prog 105 #[.agg #[.slice ca a.len ck, .slice qa 0 qk], .slice oa o.cols.len oc] W fun e w' => OutT F T W e w') := fun W hW => by
    rw [eF, eT]
    exact rc_unique a _ _ W (hs.below hW) hr i0.may i0.fine (Utf8Tabs_below hT hW) _ o.cols (hcs.below hW) hf.cols
  have hlib := i0.lt
  have hlpb := hpb
  have HS : Hid (∀ W, Below w.heap.size w W → W.cell? ⟨ib, 0, none⟩ = some (.slice ca a.len ck) ∧ W.cell? ⟨ib, 1, none⟩ = some (.slice qa 0 qk) ∧ W.cell? ⟨pb, po + 3, none⟩ = some (.slice oa o.cols.len oc)) := fun W hW => ⟨(hW.cell (p := ⟨ib, 0, none⟩) hlib).trans x0, (hW.cell (p := ⟨ib, 1, none⟩) hlib).trans x1, (hW.cell (p := ⟨pb, po + 3, none⟩) hlpb).trans y3⟩
  obtain ⟨s0, s1, s2⟩ := HS.out w (Below.refl _ _)
  clear h hf i0 hT hk hN hO hF eF eT x0 x1 y3  hs hr hcs 
  go_enter Tryz.func70, Tryz.ntmps70
  go_upto_region 15 with fail
  obtain ⟨W1, hW1⟩ : ∃ W, W = w.alloc (.cells #[.slice none 0 0, .slice none 0 0] 40) := ⟨_, rfl⟩
  have HRW : Hid (W1.heap[w.heap.size]? = some (.cells #[.slice none 0 0, .slice none 0 0] 40)) := by rw [hW1]; exact kNew rfl
  have HBW : Hid (∀ W, Below W1.heap.size W1 W → Below w.heap.size w W) := fun W hW => by
    have h1 : Below w.heap.size w W1 := by rw [hW1]; exact (Below.refl _ _).alloc (Nat.le_refl _) _
    exact h1.trans (hW.mono h1.size)
  have hlw : w.heap.size < W1.heap.size := kLt HRW.out
  rw [← hW1]
  clear hW1 s0 s1 s2
  obtain ⟨s0, s1, s2⟩ := HS.out W1 (HBW.out _ (Below.refl _ _))
  obtain ⟨q0, q1, q2, q3, q4⟩ := k2 HRW.out
  have HN1 : Hid (Below w.heap.size w W1) := HBW.out _ (Below.refl _ _)
  go_region_held3 (fun W => W.cell? ⟨ib, 0, none⟩ = some (.slice ca a.len ck) ∧ W.cell? ⟨ib, 1, none⟩ = some (.slice qa 0 qk) ∧ W.cell? ⟨pb, po + 3, none⟩ = some (.slice oa o.cols.len oc))
    ((refine HS.out _ ?_; (focus (repeat (first | exact Below.refl _ _ | exact Hid.out (by assumption) | refine Below.setCell ?_ (by first | omega | (simp <;> omega)) _ | refine Below.alloc ?_ (by first | omega | (simp <;> omega)) _ | refine Below.trans ?_ (drewO _ _))))))
    (first | (go_at_call 105; refine (CX.out _ ?_).mono ?_; (· (focus (repeat (first | exact Below.refl _ _ | exact Hid.out (by assumption) | refine Below.setCell ?_ (by first | omega | (simp <;> omega)) _ | refine Below.alloc ?_ (by first | omega | (simp <;> omega)) _ | refine Below.trans ?_ (drewO _ _))))); rintro e w2 ⟨a1, k1, qa1, qk1, rfl, hfar, hrow, hb2⟩; have hn2 := Below.trans (B := w.heap.size) (a := w) (by (focus (repeat (first | exact Below.refl _ _ | exact Hid.out (by assumption) | refine Below.setCell ?_ (by first | omega | (simp <;> omega)) _ | refine Below.alloc ?_ (by first | omega | (simp <;> omega)) _ | refine Below.trans ?_ (drewO _ _))))) (hb2.mono (Nat.le_of_lt hlw)); have HN2 := hidK hn2; have HF2 : Hid (Far W1.heap.size w2 (.slice a1 (okN F T.len) k1) (okN F T.len) T.at_) := hfar; have HROW := hidK hrow; have HR2 : Hid (w2.heap[w.heap.size]? = some (.cells #[.slice none 0 0, .slice none 0 0] 40)) := (hb2.block w.heap.size hlw).trans HRW.out; clear q0 q1 q2 q3 q4; obtain ⟨q0, q1, q2, q3, q4⟩ := k2 HR2.out; obtain ⟨s0, s1, s2⟩ := HS.out _ hn2; clear hfar hrow hb2 hn2 CX HN1))
  go_wp2
  refine bodyPost_ret (v := .tuple #[.agg #[.slice a1 (okN F T.len) k1, .slice qa1 0 qk1], .int .i64 F]) (by simp [results, Tryz.results70, go_sem, q0, q1]) rfl ⟨a1, k1, qa1, qk1, rfl, ?_, HROW.out, ?_⟩
  · exact ((HF2.out.setCell (by simpa using hlw) _).setCell (by simpa using hlw) _).low (Nat.le_of_lt hlw)
  · exact (HN2.out.setCell (Nat.le_refl _) _).setCell (Nat.le_refl _) _
set_option maxHeartbeats 3200000 in
theorem related_9 (pb po ib : Nat) (o : Opm) (a b : Txts) (w : World) (h : OpAt w pb po o) (hf : OpFine o) (i0 : InOk w ib 0 a) (hT : Tabs w) (hk : o.kind = 9) :
    Calls Tryz.prog 70 #[.pointer (some ⟨pb, po, none⟩), .slice (some ⟨ib, 0, none⟩) 1 1] w fun e w' => OutT (outF o a b) (outC o a b) w e w' := by
  have hN : namB o a b = (allT a o.cols && (decide (o.part.size = 0) || cnB a o.part)) := by unfold namB; rw [hk]; rfl
  have hO : outC o a b = (appS a (onC o.new)) := by unfold outC; rw [hk]; rfl
  have hF : outF o a b = (if (allT a o.cols && (decide (o.part.size = 0) || cnB a o.part)) = true then colsF (appS a (onC o.new)).at_ (appS a (onC o.new)).len else 9) := by
    unfold outF
    rw [hN, hO]
    skip
  rw [hF, hO]
  have hpb := h.lt
  have d0 := h.kind
  rw [hk] at d0
  obtain ⟨ca, ck, qa, qk, x0, x1, hs, hr⟩ := i0.ex
  obtain ⟨oa, oc, y3, hcs⟩ := h.cols
  have y2 := h.new
  have y5 := h.part
  obtain ⟨F, eF⟩ : ∃ F : Int, F = (if (allT a o.cols && (decide (o.part.size = 0) || cnB a o.part)) = true then colsF (appS a (onC o.new)).at_ (appS a (onC o.new)).len else 9) := ⟨_, rfl⟩
  obtain ⟨T, eT⟩ : ∃ T : Txts, T = (appS a (onC o.new)) := ⟨_, rfl⟩
  rw [← eF]
  rw [← eT]
  have CX : Hid (∀ W, Below w.heap.size w W → Calls Tryz.prog 106 #[.agg #[.slice ca a.len ck, .slice qa 0 qk], .string o.new, .slice oa o.cols.len oc, .string o.part] W fun e w' => OutT F T W e w') := fun W hW => by
    rw [eF, eT]
    exact rc_rank a _ _ W (hs.below hW) hr i0.may i0.fine (Utf8Tabs_below hT hW) _ o.cols (hcs.below hW) hf.cols _ _ hf.new
  have hlib := i0.lt
  have hlpb := hpb
  have HS : Hid (∀ W, Below w.heap.size w W → W.cell? ⟨ib, 0, none⟩ = some (.slice ca a.len ck) ∧ W.cell? ⟨ib, 1, none⟩ = some (.slice qa 0 qk) ∧ W.cell? ⟨pb, po + 2, none⟩ = some (.string o.new) ∧ W.cell? ⟨pb, po + 3, none⟩ = some (.slice oa o.cols.len oc) ∧ W.cell? ⟨pb, po + 5, none⟩ = some (.string o.part)) := fun W hW => ⟨(hW.cell (p := ⟨ib, 0, none⟩) hlib).trans x0, (hW.cell (p := ⟨ib, 1, none⟩) hlib).trans x1, (hW.cell (p := ⟨pb, po + 2, none⟩) hlpb).trans y2, (hW.cell (p := ⟨pb, po + 3, none⟩) hlpb).trans y3, (hW.cell (p := ⟨pb, po + 5, none⟩) hlpb).trans y5⟩
  obtain ⟨s0, s1, s2, s3, s4⟩ := HS.out w (Below.refl _ _)
  clear h hf i0 hT hk hN hO hF eF eT x0 x1 y2 y3 y5  hs hr hcs 
  go_enter Tryz.func70, Tryz.ntmps70
  go_upto_region 17 with fail
  obtain ⟨W1, hW1⟩ : ∃ W, W = w.alloc (.cells #[.slice none 0 0, .slice none 0 0] 40) := ⟨_, rfl⟩
  have HRW : Hid (W1.heap[w.heap.size]? = some (.cells #[.slice none 0 0, .slice none 0 0] 40)) := by rw [hW1]; exact kNew rfl
  have HBW : Hid (∀ W, Below W1.heap.size W1 W → Below w.heap.size w W) := fun W hW => by
    have h1 : Below w.heap.size w W1 := by rw [hW1]; exact (Below.refl _ _).alloc (Nat.le_refl _) _
    exact h1.trans (hW.mono h1.size)
  have hlw : w.heap.size < W1.heap.size := kLt HRW.out
  rw [← hW1]
  clear hW1 s0 s1 s2 s3 s4
  obtain ⟨s0, s1, s2, s3, s4⟩ := HS.out W1 (HBW.out _ (Below.refl _ _))
  obtain ⟨q0, q1, q2, q3, q4⟩ := k2 HRW.out
  have HN1 : Hid (Below w.heap.size w W1) := HBW.out _ (Below.refl _ _)
  go_region_held3 (fun W => W.cell? ⟨ib, 0, none⟩ = some (.slice ca a.len ck) ∧ W.cell? ⟨ib, 1, none⟩ = some (.slice qa 0 qk) ∧ W.cell? ⟨pb, po + 2, none⟩ = some (.string o.new) ∧ W.cell? ⟨pb, po + 3, none⟩ = some (.slice oa o.cols.len oc) ∧ W.cell? ⟨pb, po + 5, none⟩ = some (.string o.part))
    ((refine HS.out _ ?_; (focus (repeat (first | exact Below.refl _ _ | exact Hid.out (by assumption) | refine Below.setCell ?_ (by first | omega | (simp <;> omega)) _ | refine Below.alloc ?_ (by first | omega | (simp <;> omega)) _ | refine Below.trans ?_ (drewO _ _))))))
    (first | (go_at_call 106; refine (CX.out _ ?_).mono ?_; (· (focus (repeat (first | exact Below.refl _ _ | exact Hid.out (by assumption) | refine Below.setCell ?_ (by first | omega | (simp <;> omega)) _ | refine Below.alloc ?_ (by first | omega | (simp <;> omega)) _ | refine Below.trans ?_ (drewO _ _))))); rintro e w2 ⟨a1, k1, qa1, qk1, rfl, hfar, hrow, hb2⟩; have hn2 := Below.trans (B := w.heap.size) (a := w) (by (focus (repeat (first | exact Below.refl _ _ | exact Hid.out (by assumption) | refine Below.setCell ?_ (by first | omega | (simp <;> omega)) _ | refine Below.alloc ?_ (by first | omega | (simp <;> omega)) _ | refine Below.trans ?_ (drewO _ _))))) (hb2.mono (Nat.le_of_lt hlw)); have HN2 := hidK hn2; have HF2 : Hid (Far W1.heap.size w2 (.slice a1 (okN F T.len) k1) (okN F T.len) T.at_) := hfar; have HROW := hidK hrow; have HR2 : Hid (w2.heap[w.heap.size]? = some (.cells #[.slice none 0 0, .slice none 0 0] 40)) := (hb2.block w.heap.size hlw).trans HRW.out; clear q0 q1 q2 q3 q4; obtain ⟨q0, q1, q2, q3, q4⟩ := k2 HR2.out; obtain ⟨s0, s1, s2, s3, s4⟩ := HS.out _ hn2; clear hfar hrow hb2 hn2 CX HN1))
  go_wp2
  refine bodyPost_ret (v := .tuple #[.agg #[.slice a1 (okN F T.len) k1, .slice qa1 0 qk1], .int .i64 F]) (by simp [results, Tryz.results70, go_sem, q0, q1]) rfl ⟨a1, k1, qa1, qk1, rfl, ?_, HROW.out, ?_⟩
  · exact ((HF2.out.setCell (by simpa using hlw) _).setCell (by simpa using hlw) _).low (Nat.le_of_lt hlw)
  · exact (HN2.out.setCell (Nat.le_refl _) _).setCell (Nat.le_refl _) _
set_option maxHeartbeats 3200000 in
theorem related_10 (pb po ib : Nat) (o : Opm) (a b : Txts) (w : World) (h : OpAt w pb po o) (hf : OpFine o) (i0 : InOk w ib 0 a) (hT : Tabs w) (hk : o.kind = 10) (hn : o.cols.len = 1) (hagg : aggB o.name = true) :
    Calls Tryz.prog 70 #[.pointer (some ⟨pb, po, none⟩), .slice (some ⟨ib, 0, none⟩) 1 1] w fun e w' => OutT (outF o a b) (outC o a b) w e w' := by
  have hN : namB o a b = (decide (o.cols.len = 1) && (cnB a (o.cols.at_ 0) && cnB a o.part)) := by unfold namB; rw [hk]; rfl
  have hO : outC o a b = (pnT o.part o.new) := by unfold outC; rw [hk]; rfl
  have hF : outF o a b = (if (cnB a (o.cols.at_ 0) && cnB a o.part) = true then colsF (pnT o.part o.new).at_ (pnT o.part o.new).len else 9) := by
    unfold outF
    rw [hN, hO]
    rw [decide_eq_true hn, Bool.true_and]
  rw [hF, hO]
  have hpb := h.lt
  have d0 := h.kind
  rw [hk] at d0
  obtain ⟨ca, ck, qa, qk, x0, x1, hs, hr⟩ := i0.ex
  obtain ⟨oa, oc, y3, hcs⟩ := h.cols
  have y2 := h.new
  have y5 := h.part
  have y6 := h.name
  have hcz := hcs
  obtain ⟨_, _, e0, _, _, _, hat⟩ := hcz
  cases e0
  obtain ⟨cb, co, rfl, hcb, hel⟩ := hat (by omega)
  have z0 : w.cell? ⟨cb, co, none⟩ = some (.string (o.cols.at_ 0)) := hel 0 (by omega)
  rw [hn] at y3
  obtain ⟨F, eF⟩ : ∃ F : Int, F = (if (cnB a (o.cols.at_ 0) && cnB a o.part) = true then colsF (pnT o.part o.new).at_ (pnT o.part o.new).len else 9) := ⟨_, rfl⟩
  obtain ⟨T, eT⟩ : ∃ T : Txts, T = (pnT o.part o.new) := ⟨_, rfl⟩
  rw [← eF]
  rw [← eT]
  have CX : Hid (∀ W, Below w.heap.size w W → Calls Tryz.prog 94 #[.agg #[.slice ca a.len ck, .slice qa 0 qk], .string o.new, .string o.part, .string o.name, .string (o.cols.at_ 0)] W fun e w' => OutT F T W e w') := fun W hW => by
    rw [eF, eT]
    exact rc_group a _ _ W (hs.below hW) hr i0.may i0.fine (Utf8Tabs_below hT hW) _ _ _ _ hf.new hf.part hagg
  have hlib := i0.lt
  have hlpb := hpb
  have hlcb := hcb
  have HS : Hid (∀ W, Below w.heap.size w W → W.cell? ⟨ib, 0, none⟩ = some (.slice ca a.len ck) ∧ W.cell? ⟨ib, 1, none⟩ = some (.slice qa 0 qk) ∧ W.cell? ⟨pb, po + 2, none⟩ = some (.string o.new) ∧ W.cell? ⟨pb, po + 5, none⟩ = some (.string o.part) ∧ W.cell? ⟨pb, po + 6, none⟩ = some (.string o.name) ∧ W.cell? ⟨pb, po + 3, none⟩ = some (.slice (some ⟨cb, co, none⟩) 1 oc) ∧ W.cell? ⟨cb, co, none⟩ = some (.string (o.cols.at_ 0))) := fun W hW => ⟨(hW.cell (p := ⟨ib, 0, none⟩) hlib).trans x0, (hW.cell (p := ⟨ib, 1, none⟩) hlib).trans x1, (hW.cell (p := ⟨pb, po + 2, none⟩) hlpb).trans y2, (hW.cell (p := ⟨pb, po + 5, none⟩) hlpb).trans y5, (hW.cell (p := ⟨pb, po + 6, none⟩) hlpb).trans y6, (hW.cell (p := ⟨pb, po + 3, none⟩) hlpb).trans y3, (hW.cell (p := ⟨cb, co, none⟩) hlcb).trans z0⟩
  obtain ⟨s0, s1, s2, s3, s4, s5, s6⟩ := HS.out w (Below.refl _ _)
  clear h hf i0 hT hk hN hO hF eF eT x0 x1 y2 y5 y6 y3 z0 hs hr hcs hat hel hn 
  go_enter Tryz.func70, Tryz.ntmps70
  go_upto_region 19 with fail
  obtain ⟨W1, hW1⟩ : ∃ W, W = w.alloc (.cells #[.slice none 0 0, .slice none 0 0] 40) := ⟨_, rfl⟩
  have HRW : Hid (W1.heap[w.heap.size]? = some (.cells #[.slice none 0 0, .slice none 0 0] 40)) := by rw [hW1]; exact kNew rfl
  have HBW : Hid (∀ W, Below W1.heap.size W1 W → Below w.heap.size w W) := fun W hW => by
    have h1 : Below w.heap.size w W1 := by rw [hW1]; exact (Below.refl _ _).alloc (Nat.le_refl _) _
    exact h1.trans (hW.mono h1.size)
  have hlw : w.heap.size < W1.heap.size := kLt HRW.out
  rw [← hW1]
  clear hW1 s0 s1 s2 s3 s4 s5 s6
  obtain ⟨s0, s1, s2, s3, s4, s5, s6⟩ := HS.out W1 (HBW.out _ (Below.refl _ _))
  obtain ⟨q0, q1, q2, q3, q4⟩ := k2 HRW.out
  have HN1 : Hid (Below w.heap.size w W1) := HBW.out _ (Below.refl _ _)
  go_region_held3 (fun W => W.cell? ⟨ib, 0, none⟩ = some (.slice ca a.len ck) ∧ W.cell? ⟨ib, 1, none⟩ = some (.slice qa 0 qk) ∧ W.cell? ⟨pb, po + 2, none⟩ = some (.string o.new) ∧ W.cell? ⟨pb, po + 5, none⟩ = some (.string o.part) ∧ W.cell? ⟨pb, po + 6, none⟩ = some (.string o.name) ∧ W.cell? ⟨pb, po + 3, none⟩ = some (.slice (some ⟨cb, co, none⟩) 1 oc) ∧ W.cell? ⟨cb, co, none⟩ = some (.string (o.cols.at_ 0)))
    ((refine HS.out _ ?_; (focus (repeat (first | exact Below.refl _ _ | exact Hid.out (by assumption) | refine Below.setCell ?_ (by first | omega | (simp <;> omega)) _ | refine Below.alloc ?_ (by first | omega | (simp <;> omega)) _ | refine Below.trans ?_ (drewO _ _))))))
    (first | (go_at_call 94; refine (CX.out _ ?_).mono ?_; (· (focus (repeat (first | exact Below.refl _ _ | exact Hid.out (by assumption) | refine Below.setCell ?_ (by first | omega | (simp <;> omega)) _ | refine Below.alloc ?_ (by first | omega | (simp <;> omega)) _ | refine Below.trans ?_ (drewO _ _))))); rintro e w2 ⟨a1, k1, qa1, qk1, rfl, hfar, hrow, hb2⟩; have hn2 := Below.trans (B := w.heap.size) (a := w) (by (focus (repeat (first | exact Below.refl _ _ | exact Hid.out (by assumption) | refine Below.setCell ?_ (by first | omega | (simp <;> omega)) _ | refine Below.alloc ?_ (by first | omega | (simp <;> omega)) _ | refine Below.trans ?_ (drewO _ _))))) (hb2.mono (Nat.le_of_lt hlw)); have HN2 := hidK hn2; have HF2 : Hid (Far W1.heap.size w2 (.slice a1 (okN F T.len) k1) (okN F T.len) T.at_) := hfar; have HROW := hidK hrow; have HR2 : Hid (w2.heap[w.heap.size]? = some (.cells #[.slice none 0 0, .slice none 0 0] 40)) := (hb2.block w.heap.size hlw).trans HRW.out; clear q0 q1 q2 q3 q4; obtain ⟨q0, q1, q2, q3, q4⟩ := k2 HR2.out; obtain ⟨s0, s1, s2, s3, s4, s5, s6⟩ := HS.out _ hn2; clear hfar hrow hb2 hn2 CX HN1))
  go_wp2
  refine bodyPost_ret (v := .tuple #[.agg #[.slice a1 (okN F T.len) k1, .slice qa1 0 qk1], .int .i64 F]) (by simp [results, Tryz.results70, go_sem, q0, q1]) rfl ⟨a1, k1, qa1, qk1, rfl, ?_, HROW.out, ?_⟩
  · exact ((HF2.out.setCell (by simpa using hlw) _).setCell (by simpa using hlw) _).low (Nat.le_of_lt hlw)
  · exact (HN2.out.setCell (Nat.le_refl _) _).setCell (Nat.le_refl _) _
set_option maxHeartbeats 3200000 in
theorem related_15 (pb po ib : Nat) (o : Opm) (a b : Txts) (w : World) (h : OpAt w pb po o) (hf : OpFine o) (i0 : InOk w ib 0 a) (hT : Tabs w) (hk : o.kind = 15) :
    Calls Tryz.prog 70 #[.pointer (some ⟨pb, po, none⟩), .slice (some ⟨ib, 0, none⟩) 1 1] w fun e w' => OutT (outF o a b) (outC o a b) w e w' := by
  have hN : namB o a b = (allT a o.cols) := by unfold namB; rw [hk]; rfl
  have hO : outC o a b = a := by unfold outC; rw [hk]; rfl
  have hF : outF o a b = (if allT a o.cols = true then colsF a.at_ a.len else 9) := by
    unfold outF
    rw [hN, hO]
    skip
  rw [hF, hO]
  have hpb := h.lt
  have d0 := h.kind
  rw [hk] at d0
  obtain ⟨ca, ck, qa, qk, x0, x1, hs, hr⟩ := i0.ex
  obtain ⟨oa, oc, y3, hcs⟩ := h.cols
  obtain ⟨F, eF⟩ : ∃ F : Int, F = (if allT a o.cols = true then colsF a.at_ a.len else 9) := ⟨_, rfl⟩
  obtain ⟨T, eT⟩ : ∃ T : Txts, T = a := ⟨_, rfl⟩
  rw [← eF]
  rw [← eT]
  have CX : Hid (∀ W, Below w.heap.size w W → Calls Tryz.prog 107 #[.agg #[.slice ca a.len ck, .slice qa 0 qk], .slice oa o.cols.len oc] W fun e w' => OutT F T W e w') := fun W hW => by
    rw [eF, eT]
    exact rc_sort a _ _ W (hs.below hW) hr i0.may i0.fine (Utf8Tabs_below hT hW) _ o.cols (hcs.below hW) hf.cols
  have hlib := i0.lt
  have hlpb := hpb
  have HS : Hid (∀ W, Below w.heap.size w W → W.cell? ⟨ib, 0, none⟩ = some (.slice ca a.len ck) ∧ W.cell? ⟨ib, 1, none⟩ = some (.slice qa 0 qk) ∧ W.cell? ⟨pb, po + 3, none⟩ = some (.slice oa o.cols.len oc)) := fun W hW => ⟨(hW.cell (p := ⟨ib, 0, none⟩) hlib).trans x0, (hW.cell (p := ⟨ib, 1, none⟩) hlib).trans x1, (hW.cell (p := ⟨pb, po + 3, none⟩) hlpb).trans y3⟩
  obtain ⟨s0, s1, s2⟩ := HS.out w (Below.refl _ _)
  clear h hf i0 hT hk hN hO hF eF eT x0 x1 y3  hs hr hcs 
  go_enter Tryz.func70, Tryz.ntmps70
  go_upto_region 20 with fail
  obtain ⟨W1, hW1⟩ : ∃ W, W = w.alloc (.cells #[.slice none 0 0, .slice none 0 0] 40) := ⟨_, rfl⟩
  have HRW : Hid (W1.heap[w.heap.size]? = some (.cells #[.slice none 0 0, .slice none 0 0] 40)) := by rw [hW1]; exact kNew rfl
  have HBW : Hid (∀ W, Below W1.heap.size W1 W → Below w.heap.size w W) := fun W hW => by
    have h1 : Below w.heap.size w W1 := by rw [hW1]; exact (Below.refl _ _).alloc (Nat.le_refl _) _
    exact h1.trans (hW.mono h1.size)
  have hlw : w.heap.size < W1.heap.size := kLt HRW.out
  rw [← hW1]
  clear hW1 s0 s1 s2
  obtain ⟨s0, s1, s2⟩ := HS.out W1 (HBW.out _ (Below.refl _ _))
  obtain ⟨q0, q1, q2, q3, q4⟩ := k2 HRW.out
  have HN1 : Hid (Below w.heap.size w W1) := HBW.out _ (Below.refl _ _)
  go_region_held3 (fun W => W.cell? ⟨ib, 0, none⟩ = some (.slice ca a.len ck) ∧ W.cell? ⟨ib, 1, none⟩ = some (.slice qa 0 qk) ∧ W.cell? ⟨pb, po + 3, none⟩ = some (.slice oa o.cols.len oc))
    ((refine HS.out _ ?_; (focus (repeat (first | exact Below.refl _ _ | exact Hid.out (by assumption) | refine Below.setCell ?_ (by first | omega | (simp <;> omega)) _ | refine Below.alloc ?_ (by first | omega | (simp <;> omega)) _ | refine Below.trans ?_ (drewO _ _))))))
    (first | (go_at_call 107; refine (CX.out _ ?_).mono ?_; (· (focus (repeat (first | exact Below.refl _ _ | exact Hid.out (by assumption) | refine Below.setCell ?_ (by first | omega | (simp <;> omega)) _ | refine Below.alloc ?_ (by first | omega | (simp <;> omega)) _ | refine Below.trans ?_ (drewO _ _))))); rintro e w2 ⟨a1, k1, qa1, qk1, rfl, hfar, hrow, hb2⟩; have hn2 := Below.trans (B := w.heap.size) (a := w) (by (focus (repeat (first | exact Below.refl _ _ | exact Hid.out (by assumption) | refine Below.setCell ?_ (by first | omega | (simp <;> omega)) _ | refine Below.alloc ?_ (by first | omega | (simp <;> omega)) _ | refine Below.trans ?_ (drewO _ _))))) (hb2.mono (Nat.le_of_lt hlw)); have HN2 := hidK hn2; have HF2 : Hid (Far W1.heap.size w2 (.slice a1 (okN F T.len) k1) (okN F T.len) T.at_) := hfar; have HROW := hidK hrow; have HR2 : Hid (w2.heap[w.heap.size]? = some (.cells #[.slice none 0 0, .slice none 0 0] 40)) := (hb2.block w.heap.size hlw).trans HRW.out; clear q0 q1 q2 q3 q4; obtain ⟨q0, q1, q2, q3, q4⟩ := k2 HR2.out; obtain ⟨s0, s1, s2⟩ := HS.out _ hn2; clear hfar hrow hb2 hn2 CX HN1))
  go_wp2
  refine bodyPost_ret (v := .tuple #[.agg #[.slice a1 (okN F T.len) k1, .slice qa1 0 qk1], .int .i64 F]) (by simp [results, Tryz.results70, go_sem, q0, q1]) rfl ⟨a1, k1, qa1, qk1, rfl, ?_, HROW.out, ?_⟩
  · exact ((HF2.out.setCell (by simpa using hlw) _).setCell (by simpa using hlw) _).low (Nat.le_of_lt hlw)
  · exact (HN2.out.setCell (Nat.le_refl _) _).setCell (Nat.le_refl _) _
end Go.Proofs.YtkcejelmohameaaGreatDoor
