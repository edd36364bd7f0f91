/-
  THE OUTLINE OF AN OP (run.outline).
-/
import Derived.Test.YtkcejelmohameaaGreatDoorRcRel
import Derived.Test.YtkcejelmohameaaGreatDoorRcOut
import Derived.Test.YtkcejelmohameaaGreatDoorRcAlone
import Derived.Deep.QuietTactic
import Derived.BigQuiet
import Derived.Deep.RegionHeld3
import Derived.Laws.EntriesVeiled
set_option linter.unusedVariables false
namespace Go.Proofs.YtkcejelmohameaaGreatDoor
set_option maxRecDepth 100000
open Go.RowKit Go.WideShapes

theorem agg_of {o : Opm} (h : ownF o = 0) (hk : o.kind = 10) : aggB o.name = true := by
  unfold ownF at h
  rw [if_neg (by omega), if_pos hk] at h
  by_cases e : aggB o.name = true
  · exact e
  · rw [if_neg e] at h; exact absurd h (by decide)
theorem fnA_le (s : ByteArray) : fnA s ≤ 3 := by
  cases he : fnL.find? (fun e => e.name.toList == s.toList) with
  | none => rw [fnA_none he]; decide
  | some e =>
    rw [fnA_some he]
    have hall : fnL.all (fun e => decide (e.args ≤ 3)) = true := by kernel_rfl
    exact of_decide_eq_true (List.all_eq_true.1 hall e (List.mem_of_find?_eq_some he))
theorem itemC_may : colsF (onC itemS).at_ (onC itemS).len = 0 := by decide +kernel
theorem itemC_fine : StrsFine (onC itemS).len (onC itemS).at_ := ⟨by decide, fun i _ => by show itemS.size ≤ _; unfold maxLen; decide⟩
theorem strs_item {w : World} {g : Nat} (h : w.heap[g]? = some (.cells #[.string ⟨#[105, 116, 101, 109]⟩] 9)) : StrsIs w (.slice (some ⟨g, 0, none⟩) 1 1) (onC itemS).len (onC itemS).at_ := strs1 (x := itemS) h
set_option maxHeartbeats 3200000 in
theorem outline_1 (pb po M : Nat) (iv : Value) (o : Opm) (a b : Txts) (V0 : ByteArray → Option Value) (w : World) (h : OpAt w pb po o) (hf : OpFine o) (hi : InsOk w iv (inC o.kind) a b) (hF : FnS w M V0 fnL) (hT : Tabs w) (hown : ownF o = 0) (hk : o.kind = 1) :
    Calls Tryz.prog 9 #[.pointer (some ⟨pb, po, none⟩), .map (some M), iv] w fun e w' => OutT (outF o a b) (outC o a b) w e w' := by
  have hN : namB o a b = (true) := by unfold namB; rw [hk]; rfl
  have hO : outC o a b = o.rc := by unfold outC; rw [hk]; rfl
  have hFF : outF o a b = colsF o.rc.at_ o.rc.len := by
    unfold outF
    rw [hN, hO]
    rfl
  rw [hFF, hO]
  have hpb := h.lt
  have d0 := h.kind
  rw [hk] at d0
  obtain ⟨hi1, vx, vy, vz, rfl⟩ := hi
  rw [hk, show inC 1 = 0 from rfl] at hi1
  obtain ⟨F, eF⟩ : ∃ F : Int, F = colsF o.rc.at_ o.rc.len := ⟨_, rfl⟩
  obtain ⟨T, eT⟩ : ∃ T : Txts, T = o.rc := ⟨_, rfl⟩
  rw [← eF]
  rw [← eT]
  obtain ⟨ra, rcc, y11, hrc⟩ := h.rc
  have CX : Hid (∀ W, Below w.heap.size w W → Calls Tryz.prog 67 #[.slice ra o.rc.len rcc] W fun e w' => OutT F T W e w') := fun W hW => by
    rw [eF, eT]
    exact columnsAny_is _ _ _ W (hrc.below hW) hf.rc fun W' hW' => Utf8Tabs_below hT (hW.trans (hW'.mono hW.size))
  clear h hf hi1 hF hT hown hk hN hO hFF eF eT hrc
  go_enter Tryz.func9, Tryz.ntmps9
  go_wp2_with (go_at_call 67; refine (CX.out _ ?_).mono ?_; (· (focus (repeat (first | exact Below.refl _ _ | exact Hid.out (by assumption) | refine Below.setCell ?_ (by first | omega | (simp <;> omega)) _ | refine Below.alloc ?_ (by first | omega | (simp <;> omega)) _)))); rintro e w2 ⟨a1, k1, qa1, qk1, rfl, hfar, hrow, hb2⟩; have HB2 : Hid (Below w.heap.size w w2) := Below.trans (by (focus (repeat (first | exact Below.refl _ _ | exact Hid.out (by assumption) | refine Below.setCell ?_ (by first | omega | (simp <;> omega)) _ | refine Below.alloc ?_ (by first | omega | (simp <;> omega)) _)))) (hb2.mono (by first | omega | (simp <;> omega))); have HF2 := hidK (hfar.low (B' := w.heap.size + 1) (by first | omega | (simp <;> omega))); have HROW := hidK hrow; have HR2 : Hid (w2.heap[w.heap.size]? = some (.cells #[.slice none 0 0, .slice none 0 0] 40)) := (hb2.block _ (by first | omega | (simp <;> omega))).trans (by first | exact kNew rfl | exact kOld (kNew rfl) | exact kOld HRP.out | exact HRP.out); obtain ⟨q0, q1, q2, q3, q4⟩ := k2 HR2.out; clear hb2 hfar hrow)
  refine bodyPost_ret (v := .tuple #[.agg #[.slice a1 (okN F T.len) k1, .slice qa1 0 qk1], .int .i64 F]) (by simp [results, Tryz.results9, go_sem, q0, q1]) rfl ⟨a1, k1, qa1, qk1, rfl, ?_, HROW.out, ?_⟩
  · exact ((HF2.out.setCell (by simp) _).setCell (by simp) _).low (Nat.le_succ _)
  · (focus (repeat (first | exact Below.refl _ _ | exact Hid.out (by assumption) | refine Below.setCell ?_ (by first | omega | (simp <;> omega)) _ | refine Below.alloc ?_ (by first | omega | (simp <;> omega)) _)))
set_option maxHeartbeats 3200000 in
theorem outline_14 (pb po M : Nat) (iv : Value) (o : Opm) (a b : Txts) (V0 : ByteArray → Option Value) (w : World) (h : OpAt w pb po o) (hf : OpFine o) (hi : InsOk w iv (inC o.kind) a b) (hF : FnS w M V0 fnL) (hT : Tabs w) (hown : ownF o = 0) (hk : o.kind = 14) :
    Calls Tryz.prog 9 #[.pointer (some ⟨pb, po, none⟩), .map (some M), iv] w fun e w' => OutT (outF o a b) (outC o a b) w e w' := by
  have hN : namB o a b = (true) := by unfold namB; rw [hk]; rfl
  have hO : outC o a b = onC itemS := by unfold outC; rw [hk]; rfl
  have hFF : outF o a b = 0 := by
    unfold outF
    rw [hN, hO]
    exact itemC_may
  rw [hFF, hO]
  have hpb := h.lt
  have d0 := h.kind
  rw [hk] at d0
  obtain ⟨hi1, vx, vy, vz, rfl⟩ := hi
  rw [hk, show inC 14 = 0 from rfl] at hi1
  obtain ⟨F, eF⟩ : ∃ F : Int, F = 0 := ⟨_, rfl⟩
  obtain ⟨T, eT⟩ : ∃ T : Txts, T = onC itemS := ⟨_, rfl⟩
  rw [← eF]
  rw [← eT]
  have CX : Hid (∀ W v, Below w.heap.size w W → StrsIs W v (onC itemS).len (onC itemS).at_ → Calls Tryz.prog 67 #[v] W fun e w' => OutT F T W e w') := fun W v hW hs => by
    have hh := columnsAny_is v _ _ W hs itemC_fine fun W' hW' => Utf8Tabs_below hT (hW.trans (hW'.mono hW.size))
    rw [itemC_may] at hh
    rw [eF, eT]
    exact hh
  clear h hf hi1 hF hT hown hk hN hO hFF eF eT
  go_enter Tryz.func9, Tryz.ntmps9
  go_wp2_with (go_at_call 67; refine (CX.out _ _ ?_ ?_).mono ?_; (· (focus (repeat (first | exact Below.refl _ _ | exact Hid.out (by assumption) | refine Below.setCell ?_ (by first | omega | (simp <;> omega)) _ | refine Below.alloc ?_ (by first | omega | (simp <;> omega)) _)))); (· exact strs_item (kNew (by simp))); rintro e w2 ⟨a1, k1, qa1, qk1, rfl, hfar, hrow, hb2⟩; have HB2 : Hid (Below w.heap.size w w2) := Below.trans (by (focus (repeat (first | exact Below.refl _ _ | exact Hid.out (by assumption) | refine Below.setCell ?_ (by first | omega | (simp <;> omega)) _ | refine Below.alloc ?_ (by first | omega | (simp <;> omega)) _)))) (hb2.mono (by first | omega | (simp <;> omega))); have HF2 := hidK (hfar.low (B' := w.heap.size + 1) (by first | omega | (simp <;> omega))); have HROW := hidK hrow; have HR2 : Hid (w2.heap[w.heap.size]? = some (.cells #[.slice none 0 0, .slice none 0 0] 40)) := (hb2.block _ (by first | omega | (simp <;> omega))).trans (by first | exact kNew rfl | exact kOld (kNew rfl) | exact kOld HRP.out | exact HRP.out); obtain ⟨q0, q1, q2, q3, q4⟩ := k2 HR2.out; clear hb2 hfar hrow)
  refine bodyPost_ret (v := .tuple #[.agg #[.slice a1 (okN F T.len) k1, .slice qa1 0 qk1], .int .i64 F]) (by simp [results, Tryz.results9, go_sem, q0, q1]) rfl ⟨a1, k1, qa1, qk1, rfl, ?_, HROW.out, ?_⟩
  · exact ((HF2.out.setCell (by simp) _).setCell (by simp) _).low (Nat.le_succ _)
  · (focus (repeat (first | exact Below.refl _ _ | exact Hid.out (by assumption) | refine Below.setCell ?_ (by first | omega | (simp <;> omega)) _ | refine Below.alloc ?_ (by first | omega | (simp <;> omega)) _)))
set_option maxHeartbeats 3200000 in
theorem outline_12 (pb po M : Nat) (iv : Value) (o : Opm) (a b : Txts) (V0 : ByteArray → Option Value) (w : World) (h : OpAt w pb po o) (hf : OpFine o) (hi : InsOk w iv (inC o.kind) a b) (hF : FnS w M V0 fnL) (hT : Tabs w) (hown : ownF o = 0) (hk : o.kind = 12) :
    Calls Tryz.prog 9 #[.pointer (some ⟨pb, po, none⟩), .map (some M), iv] w fun e w' => OutT (outF o a b) (outC o a b) w e w' := by
  have hN : namB o a b = (allT a itC) := by unfold namB; rw [hk]; rfl
  have hO : outC o a b = itC := by unfold outC; rw [hk]; rfl
  have hFF : outF o a b = (if allT a itC = true then 0 else 9) := by
    unfold outF
    rw [hN, hO]
    rw [itC_may]
  rw [hFF, hO]
  have hpb := h.lt
  have d0 := h.kind
  rw [hk] at d0
  obtain ⟨hi1, vx, vy, vz, rfl⟩ := hi
  rw [hk, show inC 12 = 1 from rfl] at hi1
  obtain ⟨ib, hiv, i0, _⟩ := hi1 (by decide)
  cases hiv
  obtain ⟨ca, ck, qa, qk, x0, x1, hs, hr⟩ := i0.ex
  have hib := i0.lt
  have CP : Hid (∀ W v, Below w.heap.size w W → StrsIs W v itC.len itC.at_ → Calls Tryz.prog 11 #[.slice ca a.len ck, v] W fun e w' => (∃ u, e = .returned (.tuple #[u, .int .i64 (if allT a itC = true then 0 else 9)])) ∧ Below W.heap.size W w') := fun W v hW hs' => placesAny_is _ v a.len 2 a.at_ _ W (hs.below hW) hs' (by omega)
  have CX : Hid (∀ W v, Below w.heap.size w W → StrsIs W v itC.len itC.at_ → Calls Tryz.prog 67 #[v] W fun e w' => OutT 0 itC W e w') := fun W v hW hs => by
    have hh := columnsAny_is v _ _ W hs itC_fine fun W' hW' => Utf8Tabs_below hT (hW.trans (hW'.mono hW.size))
    rw [itC_may] at hh
    exact hh
  clear h hf hi1 hF hT hown hk hN hO hFF hs hr i0
  have PL : True := trivial
  cases h1 : allT a itC with
  | false =>
    rw [h1] at CP
    rw [if_neg (by simp)]
    clear CX h1
    go_enter Tryz.func9, Tryz.ntmps9
    go_wp2_with (go_at_call 11; refine (CP.out _ _ ?_ ?_).mono ?_; (· (focus (repeat (first | exact Below.refl _ _ | exact Hid.out (by assumption) | refine Below.setCell ?_ (by first | omega | (simp <;> omega)) _ | refine Below.alloc ?_ (by first | omega | (simp <;> omega)) _)))); (· exact strs_it (kNew (by simp))); rintro e w1 ⟨⟨u, rfl⟩, hb1⟩; have HB1 : Hid (Below w.heap.size w w1) := Below.trans (by (focus (repeat (first | exact Below.refl _ _ | exact Hid.out (by assumption) | refine Below.setCell ?_ (by first | omega | (simp <;> omega)) _ | refine Below.alloc ?_ (by first | omega | (simp <;> omega)) _)))) (hb1.mono (by first | omega | (simp <;> omega))); have HRP : Hid (w1.heap[w.heap.size]? = some (.cells #[.slice none 0 0, .slice none 0 0] 40)) := (hb1.block _ (by first | omega | (simp <;> omega))).trans (kOld (kNew rfl)); obtain ⟨q0, q1, q2, q3, q4⟩ := k2 HRP.out; clear hb1 CP)
    refine bodyPost_ret (v := .tuple #[.agg #[.slice none 0 0, .slice none 0 0], .int .i64 9]) (by simp [results, Tryz.results9, go_sem, q0, q1]) rfl (OutT.bad (by decide) ?_)
    (focus (repeat (first | exact Below.refl _ _ | exact Hid.out (by assumption) | refine Below.setCell ?_ (by first | omega | (simp <;> omega)) _ | refine Below.alloc ?_ (by first | omega | (simp <;> omega)) _)))
  | true =>
    rw [h1] at CP
    rw [if_pos rfl]
    clear h1
    obtain ⟨T, eT⟩ : ∃ T : Txts, T = itC := ⟨_, rfl⟩
    rw [← eT]
    obtain ⟨F, eF⟩ : ∃ F : Int, F = 0 := ⟨_, rfl⟩
    rw [← eF]
    have CX : Hid (∀ W v, Below w.heap.size w W → StrsIs W v itC.len itC.at_ → Calls Tryz.prog 67 #[v] W fun e w' => OutT F T W e w') := by rw [eF, eT]; exact CX
    clear eT eF
    go_enter Tryz.func9, Tryz.ntmps9
    go_wp2_with (first
      | (go_at_call 11; refine (CP.out _ _ ?_ ?_).mono ?_; (· (focus (repeat (first | exact Below.refl _ _ | exact Hid.out (by assumption) | refine Below.setCell ?_ (by first | omega | (simp <;> omega)) _ | refine Below.alloc ?_ (by first | omega | (simp <;> omega)) _)))); (· exact strs_it (kNew (by simp))); rintro e w1 ⟨⟨u, rfl⟩, hb1⟩; have HB1 : Hid (Below w.heap.size w w1) := Below.trans (by (focus (repeat (first | exact Below.refl _ _ | exact Hid.out (by assumption) | refine Below.setCell ?_ (by first | omega | (simp <;> omega)) _ | refine Below.alloc ?_ (by first | omega | (simp <;> omega)) _)))) (hb1.mono (by first | omega | (simp <;> omega))); have HRP : Hid (w1.heap[w.heap.size]? = some (.cells #[.slice none 0 0, .slice none 0 0] 40)) := (hb1.block _ (by first | omega | (simp <;> omega))).trans (kOld (kNew rfl)); have hz1 : w.heap.size + 2 ≤ w1.heap.size := (by have := hb1.size; simp at this; omega); clear hb1 CP)
      | (go_at_call 67; refine (CX.out _ _ ?_ ?_).mono ?_; (· (focus (repeat (first | exact Below.refl _ _ | exact Hid.out (by assumption) | refine Below.setCell ?_ (by first | omega | (simp <;> omega)) _ | refine Below.alloc ?_ (by first | omega | (simp <;> omega)) _)))); (· exact strs_it (kNew (by simp))); rintro e w2 ⟨a1, k1, qa1, qk1, rfl, hfar, hrow, hb2⟩; have HB2 : Hid (Below w.heap.size w w2) := Below.trans (by (focus (repeat (first | exact Below.refl _ _ | exact Hid.out (by assumption) | refine Below.setCell ?_ (by first | omega | (simp <;> omega)) _ | refine Below.alloc ?_ (by first | omega | (simp <;> omega)) _)))) (hb2.mono (by first | omega | (simp <;> omega))); have HF2 := hidK (hfar.low (B' := w.heap.size + 1) (by first | omega | (simp <;> omega))); have HROW := hidK hrow; have HR2 : Hid (w2.heap[w.heap.size]? = some (.cells #[.slice none 0 0, .slice none 0 0] 40)) := (hb2.block _ (by first | omega | (simp <;> omega))).trans (by first | exact kNew rfl | exact kOld (kNew rfl) | exact kOld HRP.out | exact HRP.out); obtain ⟨q0, q1, q2, q3, q4⟩ := k2 HR2.out; clear hb2 hfar hrow))
    refine bodyPost_ret (v := .tuple #[.agg #[.slice a1 (okN F T.len) k1, .slice qa1 0 qk1], .int .i64 F]) (by simp [results, Tryz.results9, go_sem, q0, q1]) rfl ⟨a1, k1, qa1, qk1, rfl, ?_, HROW.out, ?_⟩
    · exact ((HF2.out.setCell (by simp) _).setCell (by simp) _).low (Nat.le_succ _)
    · (focus (repeat (first | exact Below.refl _ _ | exact Hid.out (by assumption) | refine Below.setCell ?_ (by first | omega | (simp <;> omega)) _ | refine Below.alloc ?_ (by first | omega | (simp <;> omega)) _)))
set_option maxHeartbeats 3200000 in
theorem outline_2 (pb po M : Nat) (iv : Value) (o : Opm) (a b : Txts) (V0 : ByteArray → Option Value) (w : World) (h : OpAt w pb po o) (hf : OpFine o) (hi : InsOk w iv (inC o.kind) a b) (hF : FnS w M V0 fnL) (hT : Tabs w) (hown : ownF o = 0) (hk : o.kind = 2) :
    Calls Tryz.prog 9 #[.pointer (some ⟨pb, po, none⟩), .map (some M), iv] w fun e w' => OutT (outF o a b) (outC o a b) w e w' := by
  have hpb := h.lt
  have d0 := h.kind
  rw [hk] at d0
  obtain ⟨hi1, vx, vy, vz, rfl⟩ := hi
  rw [hk, show inC 2 = 1 from rfl] at hi1
  obtain ⟨ib, hiv, i0, _⟩ := hi1 (by decide)
  cases hiv
  obtain ⟨F, eF⟩ : ∃ F : Int, F = outF o a b := ⟨_, rfl⟩
  obtain ⟨T, eT⟩ : ∃ T : Txts, T = outC o a b := ⟨_, rfl⟩
  rw [← eF]
  rw [← eT]
  have CX : Hid (∀ W, Below w.heap.size w W → Calls Tryz.prog 70 #[.pointer (some ⟨pb, po, none⟩), .slice (some ⟨ib, 0, none⟩) 1 1] W fun e w' => OutT F T W e w') := fun W hW => by
    rw [eF, eT]
    exact related_2 pb po ib o a b W (h.below hW) hf (i0.below hW) (Utf8Tabs_below hT hW) hk
  clear h hf hi1 hF hT hown hk eF eT i0
  go_enter Tryz.func9, Tryz.ntmps9
  go_wp2_with (go_at_call 70; refine (CX.out _ ?_).mono ?_; (· (focus (repeat (first | exact Below.refl _ _ | exact Hid.out (by assumption) | refine Below.setCell ?_ (by first | omega | (simp <;> omega)) _ | refine Below.alloc ?_ (by first | omega | (simp <;> omega)) _)))); rintro e w2 ⟨a1, k1, qa1, qk1, rfl, hfar, hrow, hb2⟩; have HB2 : Hid (Below w.heap.size w w2) := Below.trans (by (focus (repeat (first | exact Below.refl _ _ | exact Hid.out (by assumption) | refine Below.setCell ?_ (by first | omega | (simp <;> omega)) _ | refine Below.alloc ?_ (by first | omega | (simp <;> omega)) _)))) (hb2.mono (by first | omega | (simp <;> omega))); have HF2 := hidK (hfar.low (B' := w.heap.size + 1) (by first | omega | (simp <;> omega))); have HROW := hidK hrow; have HR2 : Hid (w2.heap[w.heap.size]? = some (.cells #[.slice none 0 0, .slice none 0 0] 40)) := (hb2.block _ (by first | omega | (simp <;> omega))).trans (by first | exact kNew rfl | exact kOld (kNew rfl) | exact kOld HRP.out | exact HRP.out); obtain ⟨q0, q1, q2, q3, q4⟩ := k2 HR2.out; clear hb2 hfar hrow)
  refine bodyPost_ret (v := .tuple #[.agg #[.slice a1 (okN F T.len) k1, .slice qa1 0 qk1], .int .i64 F]) (by simp [results, Tryz.results9, go_sem, q0, q1]) rfl ⟨a1, k1, qa1, qk1, rfl, ?_, HROW.out, ?_⟩
  · exact ((HF2.out.setCell (by simp) _).setCell (by simp) _).low (Nat.le_succ _)
  · (focus (repeat (first | exact Below.refl _ _ | exact Hid.out (by assumption) | refine Below.setCell ?_ (by first | omega | (simp <;> omega)) _ | refine Below.alloc ?_ (by first | omega | (simp <;> omega)) _)))
set_option maxHeartbeats 3200000 in
theorem outline_5 (pb po M : Nat) (iv : Value) (o : Opm) (a b : Txts) (V0 : ByteArray → Option Value) (w : World) (h : OpAt w pb po o) (hf : OpFine o) (hi : InsOk w iv (inC o.kind) a b) (hF : FnS w M V0 fnL) (hT : Tabs w) (hown : ownF o = 0) (hk : o.kind = 5) :
    Calls Tryz.prog 9 #[.pointer (some ⟨pb, po, none⟩), .map (some M), iv] w fun e w' => OutT (outF o a b) (outC o a b) w e w' := by
  have hpb := h.lt
  have d0 := h.kind
  rw [hk] at d0
  obtain ⟨hi1, vx, vy, vz, rfl⟩ := hi
  rw [hk, show inC 5 = 2 from rfl] at hi1
  obtain ⟨ib, hiv, i0, i1⟩ := hi1 (by decide)
  have i1 := i1 (by decide)
  cases hiv
  obtain ⟨F, eF⟩ : ∃ F : Int, F = outF o a b := ⟨_, rfl⟩
  obtain ⟨T, eT⟩ : ∃ T : Txts, T = outC o a b := ⟨_, rfl⟩
  rw [← eF]
  rw [← eT]
  have CX : Hid (∀ W, Below w.heap.size w W → Calls Tryz.prog 70 #[.pointer (some ⟨pb, po, none⟩), .slice (some ⟨ib, 0, none⟩) 2 2] W fun e w' => OutT F T W e w') := fun W hW => by
    rw [eF, eT]
    exact related_5 pb po ib o a b W (h.below hW) hf (i0.below hW) (i1.below hW) (Utf8Tabs_below hT hW) hk
  clear h hf hi1 hF hT hown hk eF eT i0 i1
  go_enter Tryz.func9, Tryz.ntmps9
  go_wp2_with (go_at_call 70; refine (CX.out _ ?_).mono ?_; (· (focus (repeat (first | exact Below.refl _ _ | exact Hid.out (by assumption) | refine Below.setCell ?_ (by first | omega | (simp <;> omega)) _ | refine Below.alloc ?_ (by first | omega | (simp <;> omega)) _)))); rintro e w2 ⟨a1, k1, qa1, qk1, rfl, hfar, hrow, hb2⟩; have HB2 : Hid (Below w.heap.size w w2) := Below.trans (by (focus (repeat (first | exact Below.refl _ _ | exact Hid.out (by assumption) | refine Below.setCell ?_ (by first | omega | (simp <;> omega)) _ | refine Below.alloc ?_ (by first | omega | (simp <;> omega)) _)))) (hb2.mono (by first | omega | (simp <;> omega))); have HF2 := hidK (hfar.low (B' := w.heap.size + 1) (by first | omega | (simp <;> omega))); have HROW := hidK hrow; have HR2 : Hid (w2.heap[w.heap.size]? = some (.cells #[.slice none 0 0, .slice none 0 0] 40)) := (hb2.block _ (by first | omega | (simp <;> omega))).trans (by first | exact kNew rfl | exact kOld (kNew rfl) | exact kOld HRP.out | exact HRP.out); obtain ⟨q0, q1, q2, q3, q4⟩ := k2 HR2.out; clear hb2 hfar hrow)
  refine bodyPost_ret (v := .tuple #[.agg #[.slice a1 (okN F T.len) k1, .slice qa1 0 qk1], .int .i64 F]) (by simp [results, Tryz.results9, go_sem, q0, q1]) rfl ⟨a1, k1, qa1, qk1, rfl, ?_, HROW.out, ?_⟩
  · exact ((HF2.out.setCell (by simp) _).setCell (by simp) _).low (Nat.le_succ _)
  · (focus (repeat (first | exact Below.refl _ _ | exact Hid.out (by assumption) | refine Below.setCell ?_ (by first | omega | (simp <;> omega)) _ | refine Below.alloc ?_ (by first | omega | (simp <;> omega)) _)))
set_option maxHeartbeats 3200000 in
theorem outline_6 (pb po M : Nat) (iv : Value) (o : Opm) (a b : Txts) (V0 : ByteArray → Option Value) (w : World) (h : OpAt w pb po o) (hf : OpFine o) (hi : InsOk w iv (inC o.kind) a b) (hF : FnS w M V0 fnL) (hT : Tabs w) (hown : ownF o = 0) (hk : o.kind = 6) :
    Calls Tryz.prog 9 #[.pointer (some ⟨pb, po, none⟩), .map (some M), iv] w fun e w' => OutT (outF o a b) (outC o a b) w e w' := by
  have hpb := h.lt
  have d0 := h.kind
  rw [hk] at d0
  obtain ⟨hi1, vx, vy, vz, rfl⟩ := hi
  rw [hk, show inC 6 = 2 from rfl] at hi1
  obtain ⟨ib, hiv, i0, i1⟩ := hi1 (by decide)
  have i1 := i1 (by decide)
  cases hiv
  obtain ⟨F, eF⟩ : ∃ F : Int, F = outF o a b := ⟨_, rfl⟩
  obtain ⟨T, eT⟩ : ∃ T : Txts, T = outC o a b := ⟨_, rfl⟩
  rw [← eF]
  rw [← eT]
  have CX : Hid (∀ W, Below w.heap.size w W → Calls Tryz.prog 70 #[.pointer (some ⟨pb, po, none⟩), .slice (some ⟨ib, 0, none⟩) 2 2] W fun e w' => OutT F T W e w') := fun W hW => by
    rw [eF, eT]
    exact related_6 pb po ib o a b W (h.below hW) hf (i0.below hW) (i1.below hW) (Utf8Tabs_below hT hW) hk
  clear h hf hi1 hF hT hown hk eF eT i0 i1
  go_enter Tryz.func9, Tryz.ntmps9
  go_wp2_with (go_at_call 70; refine (CX.out _ ?_).mono ?_; (· (focus (repeat (first | exact Below.refl _ _ | exact Hid.out (by assumption) | refine Below.setCell ?_ (by first | omega | (simp <;> omega)) _ | refine Below.alloc ?_ (by first | omega | (simp <;> omega)) _)))); rintro e w2 ⟨a1, k1, qa1, qk1, rfl, hfar, hrow, hb2⟩; have HB2 : Hid (Below w.heap.size w w2) := Below.trans (by (focus (repeat (first | exact Below.refl _ _ | exact Hid.out (by assumption) | refine Below.setCell ?_ (by first | omega | (simp <;> omega)) _ | refine Below.alloc ?_ (by first | omega | (simp <;> omega)) _)))) (hb2.mono (by first | omega | (simp <;> omega))); have HF2 := hidK (hfar.low (B' := w.heap.size + 1) (by first | omega | (simp <;> omega))); have HROW := hidK hrow; have HR2 : Hid (w2.heap[w.heap.size]? = some (.cells #[.slice none 0 0, .slice none 0 0] 40)) := (hb2.block _ (by first | omega | (simp <;> omega))).trans (by first | exact kNew rfl | exact kOld (kNew rfl) | exact kOld HRP.out | exact HRP.out); obtain ⟨q0, q1, q2, q3, q4⟩ := k2 HR2.out; clear hb2 hfar hrow)
  refine bodyPost_ret (v := .tuple #[.agg #[.slice a1 (okN F T.len) k1, .slice qa1 0 qk1], .int .i64 F]) (by simp [results, Tryz.results9, go_sem, q0, q1]) rfl ⟨a1, k1, qa1, qk1, rfl, ?_, HROW.out, ?_⟩
  · exact ((HF2.out.setCell (by simp) _).setCell (by simp) _).low (Nat.le_succ _)
  · (focus (repeat (first | exact Below.refl _ _ | exact Hid.out (by assumption) | refine Below.setCell ?_ (by first | omega | (simp <;> omega)) _ | refine Below.alloc ?_ (by first | omega | (simp <;> omega)) _)))
set_option maxHeartbeats 3200000 in
theorem outline_7 (pb po M : Nat) (iv : Value) (o : Opm) (a b : Txts) (V0 : ByteArray → Option Value) (w : World) (h : OpAt w pb po o) (hf : OpFine o) (hi : InsOk w iv (inC o.kind) a b) (hF : FnS w M V0 fnL) (hT : Tabs w) (hown : ownF o = 0) (hk : o.kind = 7) :
    Calls Tryz.prog 9 #[.pointer (some ⟨pb, po, none⟩), .map (some M), iv] w fun e w' => OutT (outF o a b) (outC o a b) w e w' := by
  have hpb := h.lt
  have d0 := h.kind
  rw [hk] at d0
  obtain ⟨hi1, vx, vy, vz, rfl⟩ := hi
  rw [hk, show inC 7 = 2 from rfl] at hi1
  obtain ⟨ib, hiv, i0, i1⟩ := hi1 (by decide)
  have i1 := i1 (by decide)
  cases hiv
  obtain ⟨F, eF⟩ : ∃ F : Int, F = outF o a b := ⟨_, rfl⟩
  obtain ⟨T, eT⟩ : ∃ T : Txts, T = outC o a b := ⟨_, rfl⟩
  rw [← eF]
  rw [← eT]
  have CX : Hid (∀ W, Below w.heap.size w W → Calls Tryz.prog 70 #[.pointer (some ⟨pb, po, none⟩), .slice (some ⟨ib, 0, none⟩) 2 2] W fun e w' => OutT F T W e w') := fun W hW => by
    rw [eF, eT]
    exact related_7 pb po ib o a b W (h.below hW) hf (i0.below hW) (i1.below hW) (Utf8Tabs_below hT hW) hk
  clear h hf hi1 hF hT hown hk eF eT i0 i1
  go_enter Tryz.func9, Tryz.ntmps9
  go_wp2_with (go_at_call 70; refine (CX.out _ ?_).mono ?_; (· (focus (repeat (first | exact Below.refl _ _ | exact Hid.out (by assumption) | refine Below.setCell ?_ (by first | omega | (simp <;> omega)) _ | refine Below.alloc ?_ (by first | omega | (simp <;> omega)) _)))); rintro e w2 ⟨a1, k1, qa1, qk1, rfl, hfar, hrow, hb2⟩; have HB2 : Hid (Below w.heap.size w w2) := Below.trans (by (focus (repeat (first | exact Below.refl _ _ | exact Hid.out (by assumption) | refine Below.setCell ?_ (by first | omega | (simp <;> omega)) _ | refine Below.alloc ?_ (by first | omega | (simp <;> omega)) _)))) (hb2.mono (by first | omega | (simp <;> omega))); have HF2 := hidK (hfar.low (B' := w.heap.size + 1) (by first | omega | (simp <;> omega))); have HROW := hidK hrow; have HR2 : Hid (w2.heap[w.heap.size]? = some (.cells #[.slice none 0 0, .slice none 0 0] 40)) := (hb2.block _ (by first | omega | (simp <;> omega))).trans (by first | exact kNew rfl | exact kOld (kNew rfl) | exact kOld HRP.out | exact HRP.out); obtain ⟨q0, q1, q2, q3, q4⟩ := k2 HR2.out; clear hb2 hfar hrow)
  refine bodyPost_ret (v := .tuple #[.agg #[.slice a1 (okN F T.len) k1, .slice qa1 0 qk1], .int .i64 F]) (by simp [results, Tryz.results9, go_sem, q0, q1]) rfl ⟨a1, k1, qa1, qk1, rfl, ?_, HROW.out, ?_⟩
  · exact ((HF2.out.setCell (by simp) _).setCell (by simp) _).low (Nat.le_succ _)
  · (focus (repeat (first | exact Below.refl _ _ | exact Hid.out (by assumption) | refine Below.setCell ?_ (by first | omega | (simp <;> omega)) _ | refine Below.alloc ?_ (by first | omega | (simp <;> omega)) _)))
set_option maxHeartbeats 3200000 in
theorem outline_8 (pb po M : Nat) (iv : Value) (o : Opm) (a b : Txts) (V0 : ByteArray → Option Value) (w : World) (h : OpAt w pb po o) (hf : OpFine o) (hi : InsOk w iv (inC o.kind) a b) (hF : FnS w M V0 fnL) (hT : Tabs w) (hown : ownF o = 0) (hk : o.kind = 8) :
    Calls Tryz.prog 9 #[.pointer (some ⟨pb, po, none⟩), .map (some M), iv] w fun e w' => OutT (outF o a b) (outC o a b) w e w' := by
  have hpb := h.lt
  have d0 := h.kind
  rw [hk] at d0
  obtain ⟨hi1, vx, vy, vz, rfl⟩ := hi
  rw [hk, show inC 8 = 1 from rfl] at hi1
  obtain ⟨ib, hiv, i0, _⟩ := hi1 (by decide)
  cases hiv
  obtain ⟨F, eF⟩ : ∃ F : Int, F = outF o a b := ⟨_, rfl⟩
  obtain ⟨T, eT⟩ : ∃ T : Txts, T = outC o a b := ⟨_, rfl⟩
  rw [← eF]
  rw [← eT]
  have CX : Hid (∀ W, Below w.heap.size w W → Calls Tryz.prog 70 #[.pointer (some ⟨pb, po, none⟩), .slice (some ⟨ib, 0, none⟩) 1 1] W fun e w' => OutT F T W e w') := fun W hW => by
    rw [eF, eT]
    exact related_8 pb po ib o a b W (h.below hW) hf (i0.below hW) (Utf8Tabs_below hT hW) hk
  clear h hf hi1 hF hT hown hk eF eT i0
  go_enter Tryz.func9, Tryz.ntmps9
  go_wp2_with (go_at_call 70; refine (CX.out _ ?_).mono ?_; (· (focus (repeat (first | exact Below.refl _ _ | exact Hid.out (by assumption) | refine Below.setCell ?_ (by first | omega | (simp <;> omega)) _ | refine Below.alloc ?_ (by first | omega | (simp <;> omega)) _)))); rintro e w2 ⟨a1, k1, qa1, qk1, rfl, hfar, hrow, hb2⟩; have HB2 : Hid (Below w.heap.size w w2) := Below.trans (by (focus (repeat (first | exact Below.refl _ _ | exact Hid.out (by assumption) | refine Below.setCell ?_ (by first | omega | (simp <;> omega)) _ | refine Below.alloc ?_ (by first | omega | (simp <;> omega)) _)))) (hb2.mono (by first | omega | (simp <;> omega))); have HF2 := hidK (hfar.low (B' := w.heap.size + 1) (by first | omega | (simp <;> omega))); have HROW := hidK hrow; have HR2 : Hid (w2.heap[w.heap.size]? = some (.cells #[.slice none 0 0, .slice none 0 0] 40)) := (hb2.block _ (by first | omega | (simp <;> omega))).trans (by first | exact kNew rfl | exact kOld (kNew rfl) | exact kOld HRP.out | exact HRP.out); obtain ⟨q0, q1, q2, q3, q4⟩ := k2 HR2.out; clear hb2 hfar hrow)
  refine bodyPost_ret (v := .tuple #[.agg #[.slice a1 (okN F T.len) k1, .slice qa1 0 qk1], .int .i64 F]) (by simp [results, Tryz.results9, go_sem, q0, q1]) rfl ⟨a1, k1, qa1, qk1, rfl, ?_, HROW.out, ?_⟩
  · exact ((HF2.out.setCell (by simp) _).setCell (by simp) _).low (Nat.le_succ _)
  · (focus (repeat (first | exact Below.refl _ _ | exact Hid.out (by assumption) | refine Below.setCell ?_ (by first | omega | (simp <;> omega)) _ | refine Below.alloc ?_ (by first | omega | (simp <;> omega)) _)))
set_option maxHeartbeats 3200000 in
theorem outline_9 (pb po M : Nat) (iv : Value) (o : Opm) (a b : Txts) (V0 : ByteArray → Option Value) (w : World) (h : OpAt w pb po o) (hf : OpFine o) (hi : InsOk w iv (inC o.kind) a b) (hF : FnS w M V0 fnL) (hT : Tabs w) (hown : ownF o = 0) (hk : o.kind = 9) :
    Calls Tryz.prog 9 #[.pointer (some ⟨pb, po, none⟩), .map (some M), iv] w fun e w' => OutT (outF o a b) (outC o a b) w e w' := by
  have hpb := h.lt
  have d0 := h.kind
  rw [hk] at d0
  obtain ⟨hi1, vx, vy, vz, rfl⟩ := hi
  rw [hk, show inC 9 = 1 from rfl] at hi1
  obtain ⟨ib, hiv, i0, _⟩ := hi1 (by decide)
  cases hiv
  obtain ⟨F, eF⟩ : ∃ F : Int, F = outF o a b := ⟨_, rfl⟩
  obtain ⟨T, eT⟩ : ∃ T : Txts, T = outC o a b := ⟨_, rfl⟩
  rw [← eF]
  rw [← eT]
  have CX : Hid (∀ W, Below w.heap.size w W → Calls Tryz.prog 70 #[.pointer (some ⟨pb, po, none⟩), .slice (some ⟨ib, 0, none⟩) 1 1] W fun e w' => OutT F T W e w') := fun W hW => by
    rw [eF, eT]
    exact related_9 pb po ib o a b W (h.below hW) hf (i0.below hW) (Utf8Tabs_below hT hW) hk
  clear h hf hi1 hF hT hown hk eF eT i0
  go_enter Tryz.func9, Tryz.ntmps9
  go_wp2_with (go_at_call 70; refine (CX.out _ ?_).mono ?_; (· (focus (repeat (first | exact Below.refl _ _ | exact Hid.out (by assumption) | refine Below.setCell ?_ (by first | omega | (simp <;> omega)) _ | refine Below.alloc ?_ (by first | omega | (simp <;> omega)) _)))); rintro e w2 ⟨a1, k1, qa1, qk1, rfl, hfar, hrow, hb2⟩; have HB2 : Hid (Below w.heap.size w w2) := Below.trans (by (focus (repeat (first | exact Below.refl _ _ | exact Hid.out (by assumption) | refine Below.setCell ?_ (by first | omega | (simp <;> omega)) _ | refine Below.alloc ?_ (by first | omega | (simp <;> omega)) _)))) (hb2.mono (by first | omega | (simp <;> omega))); have HF2 := hidK (hfar.low (B' := w.heap.size + 1) (by first | omega | (simp <;> omega))); have HROW := hidK hrow; have HR2 : Hid (w2.heap[w.heap.size]? = some (.cells #[.slice none 0 0, .slice none 0 0] 40)) := (hb2.block _ (by first | omega | (simp <;> omega))).trans (by first | exact kNew rfl | exact kOld (kNew rfl) | exact kOld HRP.out | exact HRP.out); obtain ⟨q0, q1, q2, q3, q4⟩ := k2 HR2.out; clear hb2 hfar hrow)
  refine bodyPost_ret (v := .tuple #[.agg #[.slice a1 (okN F T.len) k1, .slice qa1 0 qk1], .int .i64 F]) (by simp [results, Tryz.results9, go_sem, q0, q1]) rfl ⟨a1, k1, qa1, qk1, rfl, ?_, HROW.out, ?_⟩
  · exact ((HF2.out.setCell (by simp) _).setCell (by simp) _).low (Nat.le_succ _)
  · (focus (repeat (first | exact Below.refl _ _ | exact Hid.out (by assumption) | refine Below.setCell ?_ (by first | omega | (simp <;> omega)) _ | refine Below.alloc ?_ (by first | omega | (simp <;> omega)) _)))
set_option maxHeartbeats 3200000 in
theorem outline_15 (pb po M : Nat) (iv : Value) (o : Opm) (a b : Txts) (V0 : ByteArray → Option Value) (w : World) (h : OpAt w pb po o) (hf : OpFine o) (hi : InsOk w iv (inC o.kind) a b) (hF : FnS w M V0 fnL) (hT : Tabs w) (hown : ownF o = 0) (hk : o.kind = 15) :
    Calls Tryz.prog 9 #[.pointer (some ⟨pb, po, none⟩), .map (some M), iv] w fun e w' => OutT (outF o a b) (outC o a b) w e w' := by
  have hpb := h.lt
  have d0 := h.kind
  rw [hk] at d0
  obtain ⟨hi1, vx, vy, vz, rfl⟩ := hi
  rw [hk, show inC 15 = 1 from rfl] at hi1
  obtain ⟨ib, hiv, i0, _⟩ := hi1 (by decide)
  cases hiv
  obtain ⟨F, eF⟩ : ∃ F : Int, F = outF o a b := ⟨_, rfl⟩
  obtain ⟨T, eT⟩ : ∃ T : Txts, T = outC o a b := ⟨_, rfl⟩
  rw [← eF]
  rw [← eT]
  have CX : Hid (∀ W, Below w.heap.size w W → Calls Tryz.prog 70 #[.pointer (some ⟨pb, po, none⟩), .slice (some ⟨ib, 0, none⟩) 1 1] W fun e w' => OutT F T W e w') := fun W hW => by
    rw [eF, eT]
    exact related_15 pb po ib o a b W (h.below hW) hf (i0.below hW) (Utf8Tabs_below hT hW) hk
  clear h hf hi1 hF hT hown hk eF eT i0
  go_enter Tryz.func9, Tryz.ntmps9
  go_wp2_with (go_at_call 70; refine (CX.out _ ?_).mono ?_; (· (focus (repeat (first | exact Below.refl _ _ | exact Hid.out (by assumption) | refine Below.setCell ?_ (by first | omega | (simp <;> omega)) _ | refine Below.alloc ?_ (by first | omega | (simp <;> omega)) _)))); rintro e w2 ⟨a1, k1, qa1, qk1, rfl, hfar, hrow, hb2⟩; have HB2 : Hid (Below w.heap.size w w2) := Below.trans (by (focus (repeat (first | exact Below.refl _ _ | exact Hid.out (by assumption) | refine Below.setCell ?_ (by first | omega | (simp <;> omega)) _ | refine Below.alloc ?_ (by first | omega | (simp <;> omega)) _)))) (hb2.mono (by first | omega | (simp <;> omega))); have HF2 := hidK (hfar.low (B' := w.heap.size + 1) (by first | omega | (simp <;> omega))); have HROW := hidK hrow; have HR2 : Hid (w2.heap[w.heap.size]? = some (.cells #[.slice none 0 0, .slice none 0 0] 40)) := (hb2.block _ (by first | omega | (simp <;> omega))).trans (by first | exact kNew rfl | exact kOld (kNew rfl) | exact kOld HRP.out | exact HRP.out); obtain ⟨q0, q1, q2, q3, q4⟩ := k2 HR2.out; clear hb2 hfar hrow)
  refine bodyPost_ret (v := .tuple #[.agg #[.slice a1 (okN F T.len) k1, .slice qa1 0 qk1], .int .i64 F]) (by simp [results, Tryz.results9, go_sem, q0, q1]) rfl ⟨a1, k1, qa1, qk1, rfl, ?_, HROW.out, ?_⟩
  · exact ((HF2.out.setCell (by simp) _).setCell (by simp) _).low (Nat.le_succ _)
  · (focus (repeat (first | exact Below.refl _ _ | exact Hid.out (by assumption) | refine Below.setCell ?_ (by first | omega | (simp <;> omega)) _ | refine Below.alloc ?_ (by first | omega | (simp <;> omega)) _)))
set_option maxHeartbeats 3200000 in
theorem outline_3 (pb po M : Nat) (iv : Value) (o : Opm) (a b : Txts) (V0 : ByteArray → Option Value) (w : World) (h : OpAt w pb po o) (hf : OpFine o) (hi : InsOk w iv (inC o.kind) a b) (hF : FnS w M V0 fnL) (hT : Tabs w) (hown : ownF o = 0) (hk : o.kind = 3) :
    Calls Tryz.prog 9 #[.pointer (some ⟨pb, po, none⟩), .map (some M), iv] w fun e w' => OutT (outF o a b) (outC o a b) w e w' := by
  have hpb := h.lt
  have d0 := h.kind
  rw [hk] at d0
  obtain ⟨hi1, vx, vy, vz, rfl⟩ := hi
  rw [hk, show inC 3 = 1 from rfl] at hi1
  obtain ⟨ib, hiv, i0, _⟩ := hi1 (by decide)
  cases hiv
  obtain ⟨oa, oc, y3, hcs⟩ := h.cols
  by_cases hn : o.cols.len = 1
  · obtain ⟨F, eF⟩ : ∃ F : Int, F = outF o a b := ⟨_, rfl⟩
    obtain ⟨T, eT⟩ : ∃ T : Txts, T = outC o a b := ⟨_, rfl⟩
    rw [← eF]
    rw [← eT]
    have CX : Hid (∀ W, Below w.heap.size w W → Calls Tryz.prog 70 #[.pointer (some ⟨pb, po, none⟩), .slice (some ⟨ib, 0, none⟩) 1 1] W fun e w' => OutT F T W e w') := fun W hW => by
      rw [eF, eT]
      exact related_3 pb po ib o a b W (h.below hW) hf (i0.below hW) (Utf8Tabs_below hT hW) hk hn
    rw [hn] at y3
    clear h hf hi1 hF hT hown hk eF eT i0 hcs hn
    go_enter Tryz.func9, Tryz.ntmps9
    go_wp2_with (go_at_call 70; refine (CX.out _ ?_).mono ?_; (· (focus (repeat (first | exact Below.refl _ _ | exact Hid.out (by assumption) | refine Below.setCell ?_ (by first | omega | (simp <;> omega)) _ | refine Below.alloc ?_ (by first | omega | (simp <;> omega)) _)))); rintro e w2 ⟨a1, k1, qa1, qk1, rfl, hfar, hrow, hb2⟩; have HB2 : Hid (Below w.heap.size w w2) := Below.trans (by (focus (repeat (first | exact Below.refl _ _ | exact Hid.out (by assumption) | refine Below.setCell ?_ (by first | omega | (simp <;> omega)) _ | refine Below.alloc ?_ (by first | omega | (simp <;> omega)) _)))) (hb2.mono (by first | omega | (simp <;> omega))); have HF2 := hidK (hfar.low (B' := w.heap.size + 1) (by first | omega | (simp <;> omega))); have HROW := hidK hrow; have HR2 : Hid (w2.heap[w.heap.size]? = some (.cells #[.slice none 0 0, .slice none 0 0] 40)) := (hb2.block _ (by first | omega | (simp <;> omega))).trans (by first | exact kNew rfl | exact kOld (kNew rfl) | exact kOld HRP.out | exact HRP.out); obtain ⟨q0, q1, q2, q3, q4⟩ := k2 HR2.out; clear hb2 hfar hrow)
    refine bodyPost_ret (v := .tuple #[.agg #[.slice a1 (okN F T.len) k1, .slice qa1 0 qk1], .int .i64 F]) (by simp [results, Tryz.results9, go_sem, q0, q1]) rfl ⟨a1, k1, qa1, qk1, rfl, ?_, HROW.out, ?_⟩
    · exact ((HF2.out.setCell (by simp) _).setCell (by simp) _).low (Nat.le_succ _)
    · (focus (repeat (first | exact Below.refl _ _ | exact Hid.out (by assumption) | refine Below.setCell ?_ (by first | omega | (simp <;> omega)) _ | refine Below.alloc ?_ (by first | omega | (simp <;> omega)) _)))
  · have hF9 : outF o a b = 9 := by
      unfold outF
      have hN : namB o a b = (decide (o.cols.len = 1) && cnB a (o.cols.at_ 0)) := by unfold namB; rw [hk]; rfl
      rw [hN, decide_eq_false hn, if_neg (by simp)]
    have hnb : ((o.cols.len : Int) == 1) = false := by rw [beq_eq_false_iff_ne]; omega
    rw [hF9]
    generalize outC o a b = T at *
    generalize o.cols.len = cl at *
    clear h hf hi1 hF hT hown hk i0 hcs hn hF9
    go_enter Tryz.func9, Tryz.ntmps9
    go_wp2
    refine bodyPost_ret (v := .tuple #[.agg #[.slice none 0 0, .slice none 0 0], .int .i64 9]) (by simp [results, Tryz.results9, go_sem]) rfl (OutT.bad (by decide) ?_)
    (focus (repeat (first | exact Below.refl _ _ | exact Hid.out (by assumption) | refine Below.setCell ?_ (by first | omega | (simp <;> omega)) _ | refine Below.alloc ?_ (by first | omega | (simp <;> omega)) _)))
set_option maxHeartbeats 3200000 in
theorem outline_10 (pb po M : Nat) (iv : Value) (o : Opm) (a b : Txts) (V0 : ByteArray → Option Value) (w : World) (h : OpAt w pb po o) (hf : OpFine o) (hi : InsOk w iv (inC o.kind) a b) (hF : FnS w M V0 fnL) (hT : Tabs w) (hown : ownF o = 0) (hk : o.kind = 10) :
    Calls Tryz.prog 9 #[.pointer (some ⟨pb, po, none⟩), .map (some M), iv] w fun e w' => OutT (outF o a b) (outC o a b) w e w' := by
  have hpb := h.lt
  have d0 := h.kind
  rw [hk] at d0
  obtain ⟨hi1, vx, vy, vz, rfl⟩ := hi
  rw [hk, show inC 10 = 1 from rfl] at hi1
  obtain ⟨ib, hiv, i0, _⟩ := hi1 (by decide)
  cases hiv
  obtain ⟨oa, oc, y3, hcs⟩ := h.cols
  by_cases hn : o.cols.len = 1
  · obtain ⟨F, eF⟩ : ∃ F : Int, F = outF o a b := ⟨_, rfl⟩
    obtain ⟨T, eT⟩ : ∃ T : Txts, T = outC o a b := ⟨_, rfl⟩
    rw [← eF]
    rw [← eT]
    have CX : Hid (∀ W, Below w.heap.size w W → Calls Tryz.prog 70 #[.pointer (some ⟨pb, po, none⟩), .slice (some ⟨ib, 0, none⟩) 1 1] W fun e w' => OutT F T W e w') := fun W hW => by
      rw [eF, eT]
      exact related_10 pb po ib o a b W (h.below hW) hf (i0.below hW) (Utf8Tabs_below hT hW) hk hn (agg_of hown hk)
    rw [hn] at y3
    clear h hf hi1 hF hT hown hk eF eT i0 hcs hn
    go_enter Tryz.func9, Tryz.ntmps9
    go_wp2_with (go_at_call 70; refine (CX.out _ ?_).mono ?_; (· (focus (repeat (first | exact Below.refl _ _ | exact Hid.out (by assumption) | refine Below.setCell ?_ (by first | omega | (simp <;> omega)) _ | refine Below.alloc ?_ (by first | omega | (simp <;> omega)) _)))); rintro e w2 ⟨a1, k1, qa1, qk1, rfl, hfar, hrow, hb2⟩; have HB2 : Hid (Below w.heap.size w w2) := Below.trans (by (focus (repeat (first | exact Below.refl _ _ | exact Hid.out (by assumption) | refine Below.setCell ?_ (by first | omega | (simp <;> omega)) _ | refine Below.alloc ?_ (by first | omega | (simp <;> omega)) _)))) (hb2.mono (by first | omega | (simp <;> omega))); have HF2 := hidK (hfar.low (B' := w.heap.size + 1) (by first | omega | (simp <;> omega))); have HROW := hidK hrow; have HR2 : Hid (w2.heap[w.heap.size]? = some (.cells #[.slice none 0 0, .slice none 0 0] 40)) := (hb2.block _ (by first | omega | (simp <;> omega))).trans (by first | exact kNew rfl | exact kOld (kNew rfl) | exact kOld HRP.out | exact HRP.out); obtain ⟨q0, q1, q2, q3, q4⟩ := k2 HR2.out; clear hb2 hfar hrow)
    refine bodyPost_ret (v := .tuple #[.agg #[.slice a1 (okN F T.len) k1, .slice qa1 0 qk1], .int .i64 F]) (by simp [results, Tryz.results9, go_sem, q0, q1]) rfl ⟨a1, k1, qa1, qk1, rfl, ?_, HROW.out, ?_⟩
    · exact ((HF2.out.setCell (by simp) _).setCell (by simp) _).low (Nat.le_succ _)
    · (focus (repeat (first | exact Below.refl _ _ | exact Hid.out (by assumption) | refine Below.setCell ?_ (by first | omega | (simp <;> omega)) _ | refine Below.alloc ?_ (by first | omega | (simp <;> omega)) _)))
  · have hF9 : outF o a b = 9 := by
      unfold outF
      have hN : namB o a b = (decide (o.cols.len = 1) && (cnB a (o.cols.at_ 0) && cnB a o.part)) := by unfold namB; rw [hk]; rfl
      rw [hN, decide_eq_false hn, if_neg (by simp)]
    have hnb : ((o.cols.len : Int) == 1) = false := by rw [beq_eq_false_iff_ne]; omega
    rw [hF9]
    generalize outC o a b = T at *
    generalize o.cols.len = cl at *
    clear h hf hi1 hF hT hown hk i0 hcs hn hF9
    go_enter Tryz.func9, Tryz.ntmps9
    go_wp2
    refine bodyPost_ret (v := .tuple #[.agg #[.slice none 0 0, .slice none 0 0], .int .i64 9]) (by simp [results, Tryz.results9, go_sem]) rfl (OutT.bad (by decide) ?_)
    (focus (repeat (first | exact Below.refl _ _ | exact Hid.out (by assumption) | refine Below.setCell ?_ (by first | omega | (simp <;> omega)) _ | refine Below.alloc ?_ (by first | omega | (simp <;> omega)) _)))
set_option maxHeartbeats 3200000 in
theorem outline_4 (pb po M : Nat) (iv : Value) (o : Opm) (a b : Txts) (V0 : ByteArray → Option Value) (w : World) (h : OpAt w pb po o) (hf : OpFine o) (hi : InsOk w iv (inC o.kind) a b) (hF : FnS w M V0 fnL) (hT : Tabs w) (hown : ownF o = 0) (hk : o.kind = 4) :
    Calls Tryz.prog 9 #[.pointer (some ⟨pb, po, none⟩), .map (some M), iv] w fun e w' => OutT (outF o a b) (outC o a b) w e w' := by
  have hpb := h.lt
  have d0 := h.kind
  rw [hk] at d0
  obtain ⟨hi1, vx, vy, vz, rfl⟩ := hi
  rw [hk, show inC 4 = 2 from rfl] at hi1
  obtain ⟨ib, hiv, i0, i1⟩ := hi1 (by decide)
  have i1 := i1 (by decide)
  cases hiv
  obtain ⟨oa, oc, y3, hcs⟩ := h.cols
  by_cases hn : o.cols.len = 2
  · obtain ⟨F, eF⟩ : ∃ F : Int, F = outF o a b := ⟨_, rfl⟩
    obtain ⟨T, eT⟩ : ∃ T : Txts, T = outC o a b := ⟨_, rfl⟩
    rw [← eF]
    rw [← eT]
    have CX : Hid (∀ W, Below w.heap.size w W → Calls Tryz.prog 70 #[.pointer (some ⟨pb, po, none⟩), .slice (some ⟨ib, 0, none⟩) 2 2] W fun e w' => OutT F T W e w') := fun W hW => by
      rw [eF, eT]
      exact related_4 pb po ib o a b W (h.below hW) hf (i0.below hW) (i1.below hW) (Utf8Tabs_below hT hW) hk hn
    rw [hn] at y3
    clear h hf hi1 hF hT hown hk eF eT i0 i1 hcs hn
    go_enter Tryz.func9, Tryz.ntmps9
    go_wp2_with (go_at_call 70; refine (CX.out _ ?_).mono ?_; (· (focus (repeat (first | exact Below.refl _ _ | exact Hid.out (by assumption) | refine Below.setCell ?_ (by first | omega | (simp <;> omega)) _ | refine Below.alloc ?_ (by first | omega | (simp <;> omega)) _)))); rintro e w2 ⟨a1, k1, qa1, qk1, rfl, hfar, hrow, hb2⟩; have HB2 : Hid (Below w.heap.size w w2) := Below.trans (by (focus (repeat (first | exact Below.refl _ _ | exact Hid.out (by assumption) | refine Below.setCell ?_ (by first | omega | (simp <;> omega)) _ | refine Below.alloc ?_ (by first | omega | (simp <;> omega)) _)))) (hb2.mono (by first | omega | (simp <;> omega))); have HF2 := hidK (hfar.low (B' := w.heap.size + 1) (by first | omega | (simp <;> omega))); have HROW := hidK hrow; have HR2 : Hid (w2.heap[w.heap.size]? = some (.cells #[.slice none 0 0, .slice none 0 0] 40)) := (hb2.block _ (by first | omega | (simp <;> omega))).trans (by first | exact kNew rfl | exact kOld (kNew rfl) | exact kOld HRP.out | exact HRP.out); obtain ⟨q0, q1, q2, q3, q4⟩ := k2 HR2.out; clear hb2 hfar hrow)
    refine bodyPost_ret (v := .tuple #[.agg #[.slice a1 (okN F T.len) k1, .slice qa1 0 qk1], .int .i64 F]) (by simp [results, Tryz.results9, go_sem, q0, q1]) rfl ⟨a1, k1, qa1, qk1, rfl, ?_, HROW.out, ?_⟩
    · exact ((HF2.out.setCell (by simp) _).setCell (by simp) _).low (Nat.le_succ _)
    · (focus (repeat (first | exact Below.refl _ _ | exact Hid.out (by assumption) | refine Below.setCell ?_ (by first | omega | (simp <;> omega)) _ | refine Below.alloc ?_ (by first | omega | (simp <;> omega)) _)))
  · have hF9 : outF o a b = 9 := by
      unfold outF
      have hN : namB o a b = (decide (o.cols.len = 2) && (cnB a (o.cols.at_ 0) && cnB b (o.cols.at_ 1))) := by unfold namB; rw [hk]; rfl
      rw [hN, decide_eq_false hn, if_neg (by simp)]
    have hnb : ((o.cols.len : Int) == 2) = false := by rw [beq_eq_false_iff_ne]; omega
    rw [hF9]
    generalize outC o a b = T at *
    generalize o.cols.len = cl at *
    clear h hf hi1 hF hT hown hk i0 i1 hcs hn hF9
    go_enter Tryz.func9, Tryz.ntmps9
    go_wp2
    refine bodyPost_ret (v := .tuple #[.agg #[.slice none 0 0, .slice none 0 0], .int .i64 9]) (by simp [results, Tryz.results9, go_sem]) rfl (OutT.bad (by decide) ?_)
    (focus (repeat (first | exact Below.refl _ _ | exact Hid.out (by assumption) | refine Below.setCell ?_ (by first | omega | (simp <;> omega)) _ | refine Below.alloc ?_ (by first | omega | (simp <;> omega)) _)))
set_option maxHeartbeats 3200000 in
theorem outline_11 (pb po M : Nat) (iv : Value) (o : Opm) (a b : Txts) (V0 : ByteArray → Option Value) (w : World) (h : OpAt w pb po o) (hf : OpFine o) (hi : InsOk w iv (inC o.kind) a b) (hF : FnS w M V0 fnL) (hT : Tabs w) (hown : ownF o = 0) (hk : o.kind = 11) :
    Calls Tryz.prog 9 #[.pointer (some ⟨pb, po, none⟩), .map (some M), iv] w fun e w' => OutT (outF o a b) (outC o a b) w e w' := by
  have hN : namB o a b = (decide ((o.cols.len : Int) = fnA o.name) && allT a o.cols) := by unfold namB; rw [hk]; rfl
  have hO : outC o a b = appS a (onC o.new) := by unfold outC; rw [hk]; rfl
  have hFF : outF o a b = (if (decide ((o.cols.len : Int) = fnA o.name) && allT a o.cols) = true then colsF (appS a (onC o.new)).at_ (appS a (onC o.new)).len else 9) := by
    unfold outF
    rw [hN, hO]
    skip
  rw [hFF, hO]
  have hpb := h.lt
  have d0 := h.kind
  rw [hk] at d0
  obtain ⟨hi1, vx, vy, vz, rfl⟩ := hi
  rw [hk, show inC 11 = 1 from rfl] at hi1
  obtain ⟨ib, hiv, i0, _⟩ := hi1 (by decide)
  cases hiv
  obtain ⟨ca, ck, qa, qk, x0, x1, hs, hr⟩ := i0.ex
  obtain ⟨oa, oc, y3, hcs⟩ := h.cols
  have y2 := h.new
  have y6 := h.name
  obtain ⟨hyes, fv, cv, hv⟩ : 0 ≤ fnA o.name ∧ ∃ f caps, V0 o.name = some (.agg #[.int .i64 (fnA o.name), .func f #[] caps]) := by
    rcases fn_look hF o.name with h1 | h1
    · exfalso
      unfold ownF at hown
      rw [hk] at hown
      simp [h1.1] at hown
    · exact h1
  have h3 := fnA_le o.name
  have hfd : ∀ (W : World) (x y : Value), (Instr.field 64 (.agg #[x, y]) 0).run Tryz.prog W = .ok x W := fun _ _ _ => rfl
  have HL : ∀ W, Below w.heap.size w W → (Instr.lookup 30 (.map (some M)) (.string o.name) false).run Tryz.prog W = .ok (.agg #[.int .i64 (fnA o.name), .func fv #[] cv]) W := fun W hW => by
    have k := ((hF.below hW).vm.look hf.name Tryz.underlying30 (z := .agg #[.int .i64 0, .nilFunc]) (by kernel_rfl)).1
    rw [hv] at k
    exact k
  obtain ⟨F, eF⟩ : ∃ F : Int, F = (if (decide ((o.cols.len : Int) = fnA o.name) && allT a o.cols) = true then colsF (appS a (onC o.new)).at_ (appS a (onC o.new)).len else 9) := ⟨_, rfl⟩
  obtain ⟨T, eT⟩ : ∃ T : Txts, T = appS a (onC o.new) := ⟨_, rfl⟩
  rw [← eF]
  rw [← eT]
  have CX : Hid (∀ W, Below w.heap.size w W → Calls Tryz.prog 68 #[.agg #[.slice ca a.len ck, .slice qa 0 qk], .string o.new, .int .i64 (fnA o.name), .slice oa o.cols.len oc] W fun e w' => OutT F T W e w') := fun W hW => by
    rw [eF, eT]
    obtain ⟨n, hn⟩ : ∃ n : Nat, fnA o.name = (n : Int) := ⟨(fnA o.name).toNat, by omega⟩
    have e1 : decide ((o.cols.len : Int) = fnA o.name) = decide (o.cols.len = n) := decide_eq_decide.2 (by rw [hn]; omega)
    rw [e1, hn]
    exact outlineApply_is a o.cols ca qa ck 0 qk n o.new _ W (hs.below hW) i0.may i0.fine (hcs.below hW) (by omega) hf.new (Utf8Tabs_below hT hW)
  have hlib := i0.lt
  have hlpb := hpb
  have HS : Hid (∀ W, Below w.heap.size w W → W.cell? ⟨ib, 0, none⟩ = some (.slice ca a.len ck) ∧ W.cell? ⟨ib, 1, none⟩ = some (.slice qa 0 qk) ∧ W.cell? ⟨pb, po + 2, none⟩ = some (.string o.new) ∧ W.cell? ⟨pb, po + 6, none⟩ = some (.string o.name) ∧ W.cell? ⟨pb, po + 3, none⟩ = some (.slice oa o.cols.len oc) ∧ (Instr.lookup 30 (.map (some M)) (.string o.name) false).run Tryz.prog W = .ok (.agg #[.int .i64 (fnA o.name), .func fv #[] cv]) W) := fun W hW => ⟨(hW.cell (p := ⟨ib, 0, none⟩) hlib).trans x0, (hW.cell (p := ⟨ib, 1, none⟩) hlib).trans x1, (hW.cell (p := ⟨pb, po + 2, none⟩) hlpb).trans y2, (hW.cell (p := ⟨pb, po + 6, none⟩) hlpb).trans y6, (hW.cell (p := ⟨pb, po + 3, none⟩) hlpb).trans y3, HL W hW⟩
  clear h hf hi1 hF hT hown hk hN hO hFF eF eT x0 x1 y2 y3 y6 hs hr hcs hyes hv h3 HL i0
  go_enter Tryz.func9, Tryz.ntmps9
  go_upto_region 7 with fail
  obtain ⟨W1, hW1⟩ : ∃ W, W = w.alloc (.cells #[.slice none 0 0, .slice none 0 0] 40) := ⟨_, rfl⟩
  have HRW : Hid (W1.heap[w.heap.size]? = some (.cells #[.slice none 0 0, .slice none 0 0] 40)) := by rw [hW1]; exact kNew rfl
  have HN1 : Hid (Below w.heap.size w W1) := by rw [hW1]; exact (Below.refl _ _).alloc (Nat.le_refl _) _
  have hlw : w.heap.size < W1.heap.size := kLt HRW.out
  rw [← hW1]
  clear hW1
  obtain ⟨s0, s1, s2, s3, s4, s5⟩ := HS.out W1 HN1.out
  obtain ⟨q0, q1, q2, q3, q4⟩ := k2 HRW.out
  go_region_held3 (fun W => W.cell? ⟨ib, 0, none⟩ = some (.slice ca a.len ck) ∧ W.cell? ⟨ib, 1, none⟩ = some (.slice qa 0 qk) ∧ W.cell? ⟨pb, po + 2, none⟩ = some (.string o.new) ∧ W.cell? ⟨pb, po + 6, none⟩ = some (.string o.name) ∧ W.cell? ⟨pb, po + 3, none⟩ = some (.slice oa o.cols.len oc) ∧ (Instr.lookup 30 (.map (some M)) (.string o.name) false).run Tryz.prog W = .ok (.agg #[.int .i64 (fnA o.name), .func fv #[] cv]) W)
    ((refine HS.out _ ?_; (focus (repeat (first | exact Below.refl _ _ | exact Hid.out (by assumption) | refine Below.setCell ?_ (by first | omega | (simp <;> omega)) _ | refine Below.alloc ?_ (by first | omega | (simp <;> omega)) _ | refine Below.trans ?_ (drewO _ _))))))
    (first | (go_at_call 68; refine (CX.out _ ?_).mono ?_; (· (focus (repeat (first | exact Below.refl _ _ | exact Hid.out (by assumption) | refine Below.setCell ?_ (by first | omega | (simp <;> omega)) _ | refine Below.alloc ?_ (by first | omega | (simp <;> omega)) _ | refine Below.trans ?_ (drewO _ _))))); rintro e w2 ⟨a1, k1, qa1, qk1, rfl, hfar, hrow, hb2⟩; have hn2 := Below.trans (B := w.heap.size) (a := w) (by (focus (repeat (first | exact Below.refl _ _ | exact Hid.out (by assumption) | refine Below.setCell ?_ (by first | omega | (simp <;> omega)) _ | refine Below.alloc ?_ (by first | omega | (simp <;> omega)) _ | refine Below.trans ?_ (drewO _ _))))) (hb2.mono (Nat.le_of_lt hlw)); have HN2 := hidK hn2; have HF2 : Hid (Far W1.heap.size w2 (.slice a1 (okN F T.len) k1) (okN F T.len) T.at_) := hfar; have HROW := hidK hrow; have HR2 : Hid (w2.heap[w.heap.size]? = some (.cells #[.slice none 0 0, .slice none 0 0] 40)) := (hb2.block w.heap.size hlw).trans HRW.out; clear q0 q1 q2 q3 q4; obtain ⟨q0, q1, q2, q3, q4⟩ := k2 HR2.out; obtain ⟨s0, s1, s2, s3, s4, s5⟩ := HS.out _ hn2; clear hfar hrow hb2 hn2 CX HN1))
  go_wp2
  refine bodyPost_ret (v := .tuple #[.agg #[.slice a1 (okN F T.len) k1, .slice qa1 0 qk1], .int .i64 F]) (by simp [results, Tryz.results9, go_sem, q0, q1]) rfl ⟨a1, k1, qa1, qk1, rfl, ?_, HROW.out, ?_⟩
  · exact ((HF2.out.setCell (by simpa using hlw) _).setCell (by simpa using hlw) _).low (Nat.le_of_lt hlw)
  · exact (HN2.out.setCell (Nat.le_refl _) _).setCell (Nat.le_refl _) _
set_option maxHeartbeats 3200000 in
theorem outline_13 (pb po M : Nat) (iv : Value) (o : Opm) (a b : Txts) (V0 : ByteArray → Option Value) (w : World) (h : OpAt w pb po o) (hf : OpFine o) (hi : InsOk w iv (inC o.kind) a b) (hF : FnS w M V0 fnL) (hT : Tabs w) (hown : ownF o = 0) (hk : o.kind = 13) :
    Calls Tryz.prog 9 #[.pointer (some ⟨pb, po, none⟩), .map (some M), iv] w fun e w' => OutT (outF o a b) (outC o a b) w e w' := by
  have hN : namB o a b = (allT a (onC iterS) && allT b ipiC) := by unfold namB; rw [hk]; rfl
  have hO : outC o a b = itC := by unfold outC; rw [hk]; rfl
  have hFF : outF o a b = (if (allT a (onC iterS) && allT b ipiC) = true then colsF itC.at_ itC.len else 9) := by
    unfold outF
    rw [hN, hO]
    skip
  rw [hFF, hO]
  have hpb := h.lt
  have d0 := h.kind
  rw [hk] at d0
  obtain ⟨hi1, vx, vy, vz, rfl⟩ := hi
  rw [hk, show inC 13 = 2 from rfl] at hi1
  obtain ⟨ib, hiv, i0, i1⟩ := hi1 (by decide)
  have i1 := i1 (by decide)
  cases hiv
  obtain ⟨ca, ck, qa, qk, x0, x1, hs, hr⟩ := i0.ex
  obtain ⟨ca', ck', qa', qk', x2, x3, hs', hr'⟩ := i1.ex
  obtain ⟨F, eF⟩ : ∃ F : Int, F = (if (allT a (onC iterS) && allT b ipiC) = true then colsF itC.at_ itC.len else 9) := ⟨_, rfl⟩
  obtain ⟨T, eT⟩ : ∃ T : Txts, T = itC := ⟨_, rfl⟩
  rw [← eF]
  rw [← eT]
  have CX : Hid (∀ W, Below w.heap.size w W → Calls Tryz.prog 69 #[.agg #[.slice ca a.len ck, .slice qa 0 qk], .agg #[.slice ca' b.len ck', .slice qa' 0 qk']] W fun e w' => OutT F T W e w') := fun W hW => by
    rw [eF, eT]
    exact outlineBuild_is a b ca qa ca' qa' ck 0 qk ck' 0 qk' W (hs.below hW) (hs'.below hW) (Utf8Tabs_below hT hW)
  have hlib := i0.lt
  have hlpb := hpb
  have HS : Hid (∀ W, Below w.heap.size w W → W.cell? ⟨ib, 0, none⟩ = some (.slice ca a.len ck) ∧ W.cell? ⟨ib, 1, none⟩ = some (.slice qa 0 qk) ∧ W.cell? ⟨ib, 2, none⟩ = some (.slice ca' b.len ck') ∧ W.cell? ⟨ib, 3, none⟩ = some (.slice qa' 0 qk')) := fun W hW => ⟨(hW.cell (p := ⟨ib, 0, none⟩) hlib).trans x0, (hW.cell (p := ⟨ib, 1, none⟩) hlib).trans x1, (hW.cell (p := ⟨ib, 2, none⟩) hlib).trans x2, (hW.cell (p := ⟨ib, 3, none⟩) hlib).trans x3⟩
  clear h hf hi1 hF hT hown hk hN hO hFF eF eT x0 x1 x2 x3 hs hr hs' hr' i1 i0
  go_enter Tryz.func9, Tryz.ntmps9
  go_upto_region 14 with fail
  obtain ⟨W1, hW1⟩ : ∃ W, W = w.alloc (.cells #[.slice none 0 0, .slice none 0 0] 40) := ⟨_, rfl⟩
  have HRW : Hid (W1.heap[w.heap.size]? = some (.cells #[.slice none 0 0, .slice none 0 0] 40)) := by rw [hW1]; exact kNew rfl
  have HN1 : Hid (Below w.heap.size w W1) := by rw [hW1]; exact (Below.refl _ _).alloc (Nat.le_refl _) _
  have hlw : w.heap.size < W1.heap.size := kLt HRW.out
  rw [← hW1]
  clear hW1
  obtain ⟨s0, s1, s2, s3⟩ := HS.out W1 HN1.out
  obtain ⟨q0, q1, q2, q3, q4⟩ := k2 HRW.out
  go_region_held3 (fun W => W.cell? ⟨ib, 0, none⟩ = some (.slice ca a.len ck) ∧ W.cell? ⟨ib, 1, none⟩ = some (.slice qa 0 qk) ∧ W.cell? ⟨ib, 2, none⟩ = some (.slice ca' b.len ck') ∧ W.cell? ⟨ib, 3, none⟩ = some (.slice qa' 0 qk'))
    ((refine HS.out _ ?_; (focus (repeat (first | exact Below.refl _ _ | exact Hid.out (by assumption) | refine Below.setCell ?_ (by first | omega | (simp <;> omega)) _ | refine Below.alloc ?_ (by first | omega | (simp <;> omega)) _ | refine Below.trans ?_ (drewO _ _))))))
    (first | (go_at_call 69; refine (CX.out _ ?_).mono ?_; (· (focus (repeat (first | exact Below.refl _ _ | exact Hid.out (by assumption) | refine Below.setCell ?_ (by first | omega | (simp <;> omega)) _ | refine Below.alloc ?_ (by first | omega | (simp <;> omega)) _ | refine Below.trans ?_ (drewO _ _))))); rintro e w2 ⟨a1, k1, qa1, qk1, rfl, hfar, hrow, hb2⟩; have hn2 := Below.trans (B := w.heap.size) (a := w) (by (focus (repeat (first | exact Below.refl _ _ | exact Hid.out (by assumption) | refine Below.setCell ?_ (by first | omega | (simp <;> omega)) _ | refine Below.alloc ?_ (by first | omega | (simp <;> omega)) _ | refine Below.trans ?_ (drewO _ _))))) (hb2.mono (Nat.le_of_lt hlw)); have HN2 := hidK hn2; have HF2 : Hid (Far W1.heap.size w2 (.slice a1 (okN F T.len) k1) (okN F T.len) T.at_) := hfar; have HROW := hidK hrow; have HR2 : Hid (w2.heap[w.heap.size]? = some (.cells #[.slice none 0 0, .slice none 0 0] 40)) := (hb2.block w.heap.size hlw).trans HRW.out; clear q0 q1 q2 q3 q4; obtain ⟨q0, q1, q2, q3, q4⟩ := k2 HR2.out; obtain ⟨s0, s1, s2, s3⟩ := HS.out _ hn2; clear hfar hrow hb2 hn2 CX HN1))
  go_wp2
  refine bodyPost_ret (v := .tuple #[.agg #[.slice a1 (okN F T.len) k1, .slice qa1 0 qk1], .int .i64 F]) (by simp [results, Tryz.results9, go_sem, q0, q1]) rfl ⟨a1, k1, qa1, qk1, rfl, ?_, HROW.out, ?_⟩
  · exact ((HF2.out.setCell (by simpa using hlw) _).setCell (by simpa using hlw) _).low (Nat.le_of_lt hlw)
  · exact (HN2.out.setCell (Nat.le_refl _) _).setCell (Nat.le_refl _) _
/-- the outline of an op -/
theorem outline_is (pb po M : Nat) (iv : Value) (o : Opm) (a b : Txts) (V0 : ByteArray → Option Value) (w : World) (h : OpAt w pb po o) (hf : OpFine o) (hi : InsOk w iv (inC o.kind) a b) (hF : FnS w M V0 fnL) (hT : Tabs w) (hown : ownF o = 0) (hk : 1 ≤ o.kind ∧ o.kind ≤ 15) :
    Calls Tryz.prog 9 #[.pointer (some ⟨pb, po, none⟩), .map (some M), iv] w fun e w' => OutT (outF o a b) (outC o a b) w e w' := by
  have hc : o.kind = 1 ∨ o.kind = 2 ∨ o.kind = 3 ∨ o.kind = 4 ∨ o.kind = 5 ∨ o.kind = 6 ∨ o.kind = 7 ∨ o.kind = 8 ∨ o.kind = 9 ∨ o.kind = 10 ∨ o.kind = 11 ∨ o.kind = 12 ∨ o.kind = 13 ∨ o.kind = 14 ∨ o.kind = 15 := by omega
  rcases hc with hk | hk | hk | hk | hk | hk | hk | hk | hk | hk | hk | hk | hk | hk | hk
  · exact outline_1 pb po M iv o a b V0 w h hf hi hF hT hown hk
  · exact outline_2 pb po M iv o a b V0 w h hf hi hF hT hown hk
  · exact outline_3 pb po M iv o a b V0 w h hf hi hF hT hown hk
  · exact outline_4 pb po M iv o a b V0 w h hf hi hF hT hown hk
  · exact outline_5 pb po M iv o a b V0 w h hf hi hF hT hown hk
  · exact outline_6 pb po M iv o a b V0 w h hf hi hF hT hown hk
  · exact outline_7 pb po M iv o a b V0 w h hf hi hF hT hown hk
  · exact outline_8 pb po M iv o a b V0 w h hf hi hF hT hown hk
  · exact outline_9 pb po M iv o a b V0 w h hf hi hF hT hown hk
  · exact outline_10 pb po M iv o a b V0 w h hf hi hF hT hown hk
  · exact outline_11 pb po M iv o a b V0 w h hf hi hF hT hown hk
  · exact outline_12 pb po M iv o a b V0 w h hf hi hF hT hown hk
  · exact outline_13 pb po M iv o a b V0 w h hf hi hF hT hown hk
  · exact outline_14 pb po M iv o a b V0 w h hf hi hF hT hown hk
  · exact outline_15 pb po M iv o a b V0 w h hf hi hF hT hown hk
end Go.Proofs.YtkcejelmohameaaGreatDoor
