/-
  CONTRACT: the document's columns of an op (opCols): a Table, a Union, a Make.
-/
import Derived.Test.YtkcejelmohameaaGreatDoorRdOp3
import Derived.Deep.QuietTactic
import Derived.BigQuiet
import Derived.Laws.EntriesVeiled
set_option linter.unusedVariables false
namespace Go.Proofs.YtkcejelmohameaaGreatDoor
set_option maxRecDepth 100000
open Go.RowKit Go.WideShapes

set_option maxHeartbeats 3200000 in
theorem opCols_6 (o : Opm) (a b : Txts) (ia oa pa ra qa ca ca' : Option Addr) (ic oc pc rcc qc ck ck' : Nat) (w : World) (hcs : StrsIs w (.slice oa o.cols.len oc) o.cols.len o.cols.at_) (hos : StrsIs w (.slice pa o.olds.len pc) o.olds.len o.olds.at_) (hrc : StrsIs w (.slice ra o.rc.len rcc) o.rc.len o.rc.at_) (hrr : RowsIs w (.slice qa o.rm qc) o.rm o.rr) (hf : OpFine o) (ha : StrsIs w (.slice ca a.len ck) a.len a.at_) (hb : StrsIs w (.slice ca' b.len ck') b.len b.at_) (hma : a.len ≤ 8) (hmb : b.len ≤ 8) (hT : Tabs w) (hk : o.kind = 6) :
    Calls Tryz.prog 14 #[.agg #[.int .i64 6, .slice ia o.nin ic, .string o.new, .slice oa o.cols.len oc, .slice pa o.olds.len pc, .string o.part, .string o.name, .int .i64 o.n, .int .i64 o.axis, .int .i64 o.tk, .string o.tn, .slice ra o.rc.len rcc, .slice qa o.rm qc], .slice ca a.len ck, .slice ca' b.len ck'] w fun e w' => OpR o a b w e w' := by
  have HOWN : ownF o = 0 := by unfold ownF; rw [hk]; rfl
  have hN : namB o a b = colsB a.at_ b.at_ a.len b.len := by unfold namB; rw [hk]; rfl
  have hO : outC o a b = a := by unfold outC; rw [hk]; rfl
  have hE := opE_of (a := a) (b := b) HOWN
  rw [hN] at hE
  have HO := hidK hO
  have HRES : Hid (∀ W, Below w.heap.size w W → StrsIs W (.slice ca a.len ck) a.len a.at_) := fun W hW => ha.below hW
  have ha9 := ha
  have hb9 := hb
  obtain ⟨_, _, e1, _, _, _, c3⟩ := ha9
  obtain ⟨_, _, e2, _, _, _, c3'⟩ := hb9
  cases e1
  cases e2
  have HCC : Hid (∀ W i, Below w.heap.size w W → i < a.len → a.len = b.len → ∃ b0 off b' off', ca = some ⟨b0, off, none⟩ ∧ ca' = some ⟨b', off', none⟩ ∧ b0 < w.heap.size ∧ b' < w.heap.size ∧ W.cell? ⟨b0, off + i, none⟩ = some (.string (a.at_ i)) ∧ W.cell? ⟨b', off' + i, none⟩ = some (.string (b.at_ i))) := fun W i hW hi hnn => by
    obtain ⟨b0, off, h1, h2, h3⟩ := c3 (by omega)
    obtain ⟨b', off', h1', h2', h3'⟩ := c3' (by omega)
    exact ⟨b0, off, b', off', h1, h1', h2, h2', (hW.cell (p := ⟨b0, off + i, none⟩) h2).trans (h3 i hi), (hW.cell (p := ⟨b', off' + i, none⟩) h2').trans (h3' i (by omega))⟩
  have hnn : a.len ≤ 9223372036854775807 := by omega
  clear c3 c3' HOWN hN hO
  by_cases hln : a.len = b.len
  rotate_left
  · have HE := hidK (show opE o a b = 9 by rw [hE, colsB_len hln]; rfl)
    have n1b : ¬ (a.len : Int) = (b.len : Int) := by omega
    clear hE hln HCC
    clear hcs hos hrc hrr hf ha hb hT hk hma hmb
    go_enter Tryz.func14, Tryz.ntmps14
    go_wp2
    refine bodyPost_ret (v := .tuple #[.slice none 0 0, .int .i64 9]) (by simp [results, Tryz.results14, go_sem] <;> omega) rfl (OpR.bad HE.out (by decide) ?_)
    (focus (repeat (first | exact Below.refl _ _ | exact Hid.out (by assumption) | refine Below.setCell ?_ (by first | omega | (simp <;> omega)) _ | refine Below.alloc ?_ (by first | omega | (simp <;> omega)) _)))
  · have HE := hidK hE
    have HLN := hidK hln
    have n1b : (a.len : Int) = (b.len : Int) := by omega
    clear hE hln
    clear hcs hos hrc hrr hf ha hb hT hk hma hmb
    go_enter Tryz.func14, Tryz.ntmps14
    go_wp2
    go_loopw [12] (fun i wr => ∃ k : Nat, k ≤ a.len ∧ i = .int .i64 k ∧ (∀ j, j < k → ((a.at_ j).toList == (b.at_ j).toList) = true) ∧ Below w.heap.size w wr) (fun i _ => a.len - (intOf i).toNat)
    case atStart => exact ⟨0, Nat.zero_le _, rfl, fun j hj => by omega, (Below.refl _ _).alloc (Nat.le_refl _) _⟩
    case round =>
      obtain ⟨k, hk, rfl, hok, hbr⟩ := hrel
      have HOK := hidK hok
      have HBR := hidK hbr
      have hzr := hbr.size
      clear hok hbr
      by_cases hlt : k < a.len
      · obtain ⟨b0, off, b', off', rfl, rfl, hb0, hb0', e1, e2⟩ := HCC.out wr k HBR.out hlt HLN.out
        have hbz : b0 < wr.heap.size := by omega
        have hbz' : b' < wr.heap.size := by omega
        have hki : (k : Int) < (a.len : Int) := by omega
        have hki' : (k : Int) < (b.len : Int) := by omega
        cases hs : ((a.at_ k).toList == (b.at_ k).toList)
        · have HE9 := hidK (show opE o a b = 9 by rw [HE.out, ← HLN.out, colsB_no hlt hs]; rfl)
          go_wp2
          go_quiet (fail)
          go_wp2
          refine bodyPost_ret (v := .tuple #[.slice none 0 0, .int .i64 9]) (by simp [results, Tryz.results14, go_sem] <;> omega) rfl (OpR.bad HE9.out (by decide) ?_)
          exact below_drawn HBR.out _
        · have HS := hidK hs
          go_wp2
          go_quiet (fail)
          go_wp2
          go_roundw
          case rel =>
            refine ⟨k + 1, by omega, by go_num, fun j hj => ?_, below_drawn HBR.out _⟩
            by_cases e : j = k
            · rw [e]; exact HS.out
            · exact HOK.out j (by omega)
          case measure => simp [intOf]; omega
      · have HE0 := hidK (show opE o a b = 0 by rw [HE.out, ← HLN.out, colsB_yes fun j hj => HOK.out j (by omega)]; rfl)
        have hki : ¬ (k : Int) < (a.len : Int) := by omega
        go_wp2
        refine bodyPost_ret (v := .tuple #[.slice ca a.len ck, .int .i64 0]) (by simp [results, Tryz.results14, go_sem] <;> omega) rfl ?_
        refine ⟨_, by rw [HE0.out], fun _ => ⟨_, _, by rw [HO.out], ?_⟩, HBR.out⟩
        rw [HO.out]
        exact HRES.out _ HBR.out
set_option maxHeartbeats 3200000 in
theorem opCols_13 (o : Opm) (a b : Txts) (ia oa pa ra qa ca ca' : Option Addr) (ic oc pc rcc qc ck ck' : Nat) (w : World) (hcs : StrsIs w (.slice oa o.cols.len oc) o.cols.len o.cols.at_) (hos : StrsIs w (.slice pa o.olds.len pc) o.olds.len o.olds.at_) (hrc : StrsIs w (.slice ra o.rc.len rcc) o.rc.len o.rc.at_) (hrr : RowsIs w (.slice qa o.rm qc) o.rm o.rr) (hf : OpFine o) (ha : StrsIs w (.slice ca a.len ck) a.len a.at_) (hb : StrsIs w (.slice ca' b.len ck') b.len b.at_) (hma : a.len ≤ 8) (hmb : b.len ≤ 8) (hT : Tabs w) (hk : o.kind = 13) :
    Calls Tryz.prog 14 #[.agg #[.int .i64 13, .slice ia o.nin ic, .string o.new, .slice oa o.cols.len oc, .slice pa o.olds.len pc, .string o.part, .string o.name, .int .i64 o.n, .int .i64 o.axis, .int .i64 o.tk, .string o.tn, .slice ra o.rc.len rcc, .slice qa o.rm qc], .slice ca a.len ck, .slice ca' b.len ck'] w fun e w' => OpR o a b w e w' := by
  have HOWN : ownF o = makeF o.n o.name := by unfold ownF; rw [hk, if_neg (by decide), if_neg (by decide), if_neg (by decide), if_neg (by decide), if_pos rfl]
  have hN0 : namB o a b = (allT a (onC iterS) && allT b ipiC) := by unfold namB; rw [hk]; rfl
  have hN : namB o a b = (cnB a iterS && allT b ipiC) := by rw [hN0, allT_one (a := a) (l := onC iterS) rfl]; rfl
  clear hN0
  have hO : outC o a b = itC := by unfold outC; rw [hk]; rfl
  have HO := hidK hO
  have CM : Hid (∀ W, Calls Tryz.prog 76 #[.int .i64 o.n, .string o.name] W fun e w' => e = .returned (.int .i64 (makeF o.n o.name)) ∧ w' = W) := fun W => makeFault_is o.n o.name W hf.name
  have CH1 : Hid (∀ W, Below w.heap.size w W → Calls Tryz.prog 73 #[.slice ca a.len ck, .string ⟨#[105, 116, 101, 114]⟩] W fun e w' => e = .returned (.bool (cnB a iterS)) ∧ w' = W) := fun W hW => hasTxt_is _ _ _ _ W (ha.below hW)
  have CT2 : Hid (∀ W v, Below w.heap.size w W → StrsIs W v ipiC.len ipiC.at_ → Calls Tryz.prog 17 #[.slice ca' b.len ck', v] W fun e w' => e = .returned (.bool (allT b ipiC)) ∧ w' = W) := fun W v hW hs => allThere_is _ _ b ipiC W (hb.below hW) hs
  by_cases h0 : makeF o.n o.name = 0
  rotate_left
  · have HE := hidK (show opE o a b = makeF o.n o.name by unfold opE; rw [HOWN, if_neg h0])
    have H0 := hidK h0
    have h0b : (makeF o.n o.name == 0) = false := by simpa using h0
    clear HOWN hN hO HO h0
    clear hcs hos hrc hrr hf ha hb hT hk hma hmb
    generalize makeF o.n o.name = r at *
    go_enter Tryz.func14, Tryz.ntmps14
    go_wp2_with (first
      | (go_at_call 76; refine (CM.out _).mono ?_; rintro e w' ⟨rfl, hww⟩; obtain rfl := hww.symm; clear hww CM)
      | fail)
    refine bodyPost_ret (v := .tuple #[.slice (some ⟨w.heap.size + 1, 0, none⟩) 2 2, .int .i64 r]) (by simp [results, Tryz.results14, go_sem] <;> omega) rfl (OpR.bad HE.out H0.out ?_)
    (focus (repeat (first | exact Below.refl _ _ | exact Hid.out (by assumption) | refine Below.setCell ?_ (by first | omega | (simp <;> omega)) _ | refine Below.alloc ?_ (by first | omega | (simp <;> omega)) _)))
  · have hE : opE o a b = if (cnB a iterS && allT b ipiC) = true then 0 else 9 := by rw [← hN]; exact opE_of (HOWN.trans h0)
    rw [h0] at CM
    cases c1 : cnB a iterS with
    | false =>
      have HE := hidK (show opE o a b = 9 by rw [hE, c1]; rfl)
      rw [c1] at CH1
      clear HOWN hN hO HO h0 hE c1
      clear hcs hos hrc hrr hf ha hb hT hk hma hmb
      go_enter Tryz.func14, Tryz.ntmps14
      go_wp2_with (first
        | (go_at_call 76; refine (CM.out _).mono ?_; rintro e w' ⟨rfl, hww⟩; obtain rfl := hww.symm; clear hww CM)
        | (go_at_call 73; refine (CH1.out _ ?_).mono ?_; (· (focus (repeat (first | exact Below.refl _ _ | exact Hid.out (by assumption) | refine Below.setCell ?_ (by first | omega | (simp <;> omega)) _ | refine Below.alloc ?_ (by first | omega | (simp <;> omega)) _)))); rintro e w' ⟨rfl, hww⟩; obtain rfl := hww.symm; clear hww CH1)
        | fail)
      refine bodyPost_ret (v := .tuple #[.slice (some ⟨w.heap.size + 1, 0, none⟩) 2 2, .int .i64 9]) (by simp [results, Tryz.results14, go_sem] <;> omega) rfl (OpR.bad HE.out (by decide) ?_)
      (focus (repeat (first | exact Below.refl _ _ | exact Hid.out (by assumption) | refine Below.setCell ?_ (by first | omega | (simp <;> omega)) _ | refine Below.alloc ?_ (by first | omega | (simp <;> omega)) _)))
    | true =>
      rw [c1] at CH1
      cases c2 : allT b ipiC with
      | false =>
        have HE := hidK (show opE o a b = 9 by rw [hE, c1, c2]; rfl)
        rw [c2] at CT2
        clear HOWN hN hO HO h0 hE c1 c2
        clear hcs hos hrc hrr hf ha hb hT hk hma hmb
        go_enter Tryz.func14, Tryz.ntmps14
        go_wp2_with (first
          | (go_at_call 76; refine (CM.out _).mono ?_; rintro e w' ⟨rfl, hww⟩; obtain rfl := hww.symm; clear hww CM)
          | (go_at_call 73; refine (CH1.out _ ?_).mono ?_; (· (focus (repeat (first | exact Below.refl _ _ | exact Hid.out (by assumption) | refine Below.setCell ?_ (by first | omega | (simp <;> omega)) _ | refine Below.alloc ?_ (by first | omega | (simp <;> omega)) _)))); rintro e w' ⟨rfl, hww⟩; obtain rfl := hww.symm; clear hww CH1)
          | (go_at_call 17; refine (CT2.out _ _ ?_ ?_).mono ?_; (· (focus (repeat (first | exact Below.refl _ _ | exact Hid.out (by assumption) | refine Below.setCell ?_ (by first | omega | (simp <;> omega)) _ | refine Below.alloc ?_ (by first | omega | (simp <;> omega)) _)))); (· exact strs_ipi (kNew (by simp))); rintro e w' ⟨rfl, hww⟩; obtain rfl := hww.symm; clear hww CT2)
          | fail)
        refine bodyPost_ret (v := .tuple #[.slice (some ⟨w.heap.size + 1 + 1, 0, none⟩) 2 2, .int .i64 9]) (by simp [results, Tryz.results14, go_sem] <;> omega) rfl (OpR.bad HE.out (by decide) ?_)
        (focus (repeat (first | exact Below.refl _ _ | exact Hid.out (by assumption) | refine Below.setCell ?_ (by first | omega | (simp <;> omega)) _ | refine Below.alloc ?_ (by first | omega | (simp <;> omega)) _)))
      | true =>
        have HE := hidK (show opE o a b = 0 by rw [hE, c1, c2]; rfl)
        rw [c2] at CT2
        clear HOWN hN hO h0 hE c1 c2
        clear hcs hos hrc hrr hf ha hb hT hk hma hmb
        go_enter Tryz.func14, Tryz.ntmps14
        go_wp2_with (first
          | (go_at_call 76; refine (CM.out _).mono ?_; rintro e w' ⟨rfl, hww⟩; obtain rfl := hww.symm; clear hww CM)
          | (go_at_call 73; refine (CH1.out _ ?_).mono ?_; (· (focus (repeat (first | exact Below.refl _ _ | exact Hid.out (by assumption) | refine Below.setCell ?_ (by first | omega | (simp <;> omega)) _ | refine Below.alloc ?_ (by first | omega | (simp <;> omega)) _)))); rintro e w' ⟨rfl, hww⟩; obtain rfl := hww.symm; clear hww CH1)
          | (go_at_call 17; refine (CT2.out _ _ ?_ ?_).mono ?_; (· (focus (repeat (first | exact Below.refl _ _ | exact Hid.out (by assumption) | refine Below.setCell ?_ (by first | omega | (simp <;> omega)) _ | refine Below.alloc ?_ (by first | omega | (simp <;> omega)) _)))); (· exact strs_ipi (kNew (by simp))); rintro e w' ⟨rfl, hww⟩; obtain rfl := hww.symm; clear hww CT2)
          | fail)
        refine bodyPost_ret (v := .tuple #[.slice (some ⟨w.heap.size + 1 + 1, 0, none⟩) 2 2, .int .i64 0]) (by simp [results, Tryz.results14, go_sem] <;> omega) rfl ?_
        refine ⟨_, by rw [HE.out], fun _ => ⟨_, _, by rw [HO.out]; rfl, ?_⟩, ?_⟩
        · rw [HO.out]
          exact strs_it (kNew (by simp))
        · (focus (repeat (first | exact Below.refl _ _ | exact Hid.out (by assumption) | refine Below.setCell ?_ (by first | omega | (simp <;> omega)) _ | refine Below.alloc ?_ (by first | omega | (simp <;> omega)) _)))
set_option maxHeartbeats 3200000 in
theorem opCols_1 (o : Opm) (a b : Txts) (ia oa pa ra qa ca ca' : Option Addr) (ic oc pc rcc qc ck ck' : Nat) (w : World) (hcs : StrsIs w (.slice oa o.cols.len oc) o.cols.len o.cols.at_) (hos : StrsIs w (.slice pa o.olds.len pc) o.olds.len o.olds.at_) (hrc : StrsIs w (.slice ra o.rc.len rcc) o.rc.len o.rc.at_) (hrr : RowsIs w (.slice qa o.rm qc) o.rm o.rr) (hf : OpFine o) (ha : StrsIs w (.slice ca a.len ck) a.len a.at_) (hb : StrsIs w (.slice ca' b.len ck') b.len b.at_) (hma : a.len ≤ 8) (hmb : b.len ≤ 8) (hT : Tabs w) (hk : o.kind = 1) :
    Calls Tryz.prog 14 #[.agg #[.int .i64 1, .slice ia o.nin ic, .string o.new, .slice oa o.cols.len oc, .slice pa o.olds.len pc, .string o.part, .string o.name, .int .i64 o.n, .int .i64 o.axis, .int .i64 o.tk, .string o.tn, .slice ra o.rc.len rcc, .slice qa o.rm qc], .slice ca a.len ck, .slice ca' b.len ck'] w fun e w' => OpR o a b w e w' := by
  have HE : Hid (opE o a b = tabF o.rc.at_ o.rc.len o.rr o.rm) := by
    have h1 : ownF o = tabF o.rc.at_ o.rc.len o.rr o.rm := by unfold ownF; rw [if_pos hk]; rfl
    have h2 : opE o a b = tabF o.rc.at_ o.rc.len o.rr o.rm := by
      unfold opE
      rw [h1]
      by_cases h : tabF o.rc.at_ o.rc.len o.rr o.rm = 0
      · rw [if_pos h, h, if_pos (by unfold namB; rw [hk]; rfl)]
      · rw [if_neg h]
    exact h2
  have HO : Hid (outC o a b = o.rc) := by
    have h : outC o a b = o.rc := by unfold outC; exact if_pos hk
    exact h
  have CK : Hid (∀ W, Below w.heap.size w W → Calls Tryz.prog 72 #[.agg #[.slice ra o.rc.len rcc, .slice qa o.rm qc]] W fun e w' => e = .returned (.int .i64 (relF o.rc.at_ o.rc.len o.rr o.rm)) ∧ Below W.heap.size W w') := fun W hW => relFault_is _ _ _ _ _ _ W (hrc.below hW) (hrr.below hW) hf.rc hf.rr (Utf8Tabs_below hT hW)
  have HQ : Hid (∀ W, Below w.heap.size w W → RowsIs W (.slice qa o.rm qc) o.rm o.rr) := fun W hW => hrr.below hW
  have HRC : Hid (∀ W, Below w.heap.size w W → StrsIs W (.slice ra o.rc.len rcc) o.rc.len o.rc.at_) := fun W hW => hrc.below hW
  have HG := hidK hf.rr
  have hqq := hrr
  obtain ⟨_, _, e0, q1, q2, _⟩ := hqq
  cases e0
  unfold maxLen at q2
  unfold tabF at HE
  clear hcs hos hrc hrr hf ha hb hT hk hma hmb
  by_cases h0 : relF o.rc.at_ o.rc.len o.rr o.rm = 0
  rotate_left
  · have HE1 := hidK (show opE o a b = relF o.rc.at_ o.rc.len o.rr o.rm by rw [HE.out, if_neg h0])
    have h0b : (relF o.rc.at_ o.rc.len o.rr o.rm == 0) = false := by simpa using h0
    have H0 := hidK h0
    clear HE h0
    generalize relF o.rc.at_ o.rc.len o.rr o.rm = r at *
    go_enter Tryz.func14, Tryz.ntmps14
    go_wp2_with (go_at_call 72; refine (CK.out _ ?_).mono ?_; (· (focus (repeat (first | exact Below.refl _ _ | exact Hid.out (by assumption) | refine Below.setCell ?_ (by first | omega | (simp <;> omega)) _ | refine Below.alloc ?_ (by first | omega | (simp <;> omega)) _)))); rintro e w1 ⟨rfl, hb1⟩; have HB1 : Hid (Below w.heap.size w w1) := Below.trans (by (focus (repeat (first | exact Below.refl _ _ | exact Hid.out (by assumption) | refine Below.setCell ?_ (by first | omega | (simp <;> omega)) _ | refine Below.alloc ?_ (by first | omega | (simp <;> omega)) _)))) (hb1.mono (by first | omega | (simp <;> omega))); clear hb1 CK)
    refine bodyPost_ret (v := .tuple #[.slice none 0 0, .int .i64 r]) (by simp [results, Tryz.results14, go_sem] <;> omega) rfl (OpR.bad HE1.out H0.out HB1.out)
  · have HE1 := hidK (show opE o a b = (if nodesB o.rr o.rm = true then 12 else 0) by rw [HE.out, if_pos h0])
    rw [h0] at CK
    clear HE h0
    go_enter Tryz.func14, Tryz.ntmps14
    go_wp2_with (go_at_call 72; refine (CK.out _ ?_).mono ?_; (· (focus (repeat (first | exact Below.refl _ _ | exact Hid.out (by assumption) | refine Below.setCell ?_ (by first | omega | (simp <;> omega)) _ | refine Below.alloc ?_ (by first | omega | (simp <;> omega)) _)))); rintro e w1 ⟨rfl, hb1⟩; have HB1 : Hid (Below w.heap.size w w1) := Below.trans (by (focus (repeat (first | exact Below.refl _ _ | exact Hid.out (by assumption) | refine Below.setCell ?_ (by first | omega | (simp <;> omega)) _ | refine Below.alloc ?_ (by first | omega | (simp <;> omega)) _)))) (hb1.mono (by first | omega | (simp <;> omega))); have HR1 : Hid (w1.heap[w.heap.size]? = some (.cells #[.int .i64 1, .slice ia o.nin ic, .string o.new, .slice oa o.cols.len oc, .slice pa o.olds.len pc, .string o.part, .string o.name, .int .i64 o.n, .int .i64 o.axis, .int .i64 o.tk, .string o.tn, .slice ra o.rc.len rcc, .slice qa o.rm qc] 42)) := (hb1.block _ (by first | omega | (simp <;> omega))).trans (kNew rfl); have q11 := (kCell HR1.out (j := 11) (by simp)).1; have q12 := (kCell HR1.out (j := 12) (by simp)).1; have hz1 := kLt HR1.out; simp at q11 q12; clear hb1 CK)
    go_loopw [10] (fun i wr => ∃ k : Nat, k ≤ o.rm ∧ i = .int .i64 (k : Int) ∧ (∀ t, t < k → nodeR (o.rr t) = false) ∧ wr = w1) (fun i _ => o.rm - (intOf i).toNat)
    case atStart => exact ⟨0, Nat.zero_le _, rfl, fun t ht => absurd ht (Nat.not_lt_zero t), rfl⟩
    case round =>
      obtain ⟨k, hk, rfl, hall, hwr⟩ := hrel
      subst hwr
      have HALL := hidK hall
      clear hall
      have HQr := hidK (HQ.out _ HB1.out)
      by_cases hlt : k < o.rm
      · obtain ⟨_, _, e0, _, _, _, hrows⟩ := HQr.out
        obtain ⟨rb, ro, rfl, hrb, hat⟩ := hrows (by omega)
        obtain rfl : qa = some ⟨rb, ro, none⟩ := by cases e0; rfl
        obtain ⟨u, e1, hu⟩ := hat k hlt
        have hki : (k : Int) < (o.rm : Int) := by omega
        obtain ⟨ua, uc, rfl, u1, u2, _, u3⟩ := hu
        have U3 := hidK u3
        unfold maxLen at u2
        have hln : (o.rr k).len * 32 ≤ 140737488351232 := (HG.out.2 k hlt).1
        obtain ⟨N, hN⟩ : ∃ N, N = (o.rr k).len := ⟨_, rfl⟩
        have HN := hidK hN
        rw [← hN] at e1 u1 hln
        rw [← hN] at U3
        clear e0 hrows hat u3 hN
        go_wp2
        go_loopw [11] (fun i W => ∃ j : Nat, j ≤ N ∧ i = .int .i64 (j : Int) ∧ (∀ t, t < j → ¬ ((o.rr k).at_ t).kind = 1) ∧ W = wr) (fun i _ => N - (intOf i).toNat)
        case atStart => exact ⟨0, Nat.zero_le _, rfl, fun t ht => absurd ht (Nat.not_lt_zero t), rfl⟩
        case round =>
          obtain ⟨j, hj, rfl, hjall, hwj⟩ := hrel
          subst hwj
          have HJ := hidK hjall
          clear hjall
          by_cases hjl : j < N
          · obtain ⟨ib, io, rfl, hib, hits⟩ := U3.out (by omega)
            obtain ⟨y0, y1, y2⟩ := hits j (by omega)
            have hji : (j : Int) < (N : Int) := by omega
            clear hits
            by_cases hx : ((o.rr k).at_ j).kind = 1
            · have HX := hidK (show opE o a b = 12 by rw [HE1.out, if_pos (nodes_yes hlt (node_yes (by rw [← HN.out]; omega) hx))])
              rw [hx] at y0
              clear hx
              generalize (o.rr k).at_ j = x at *
              go_wp2
              refine bodyPost_ret (v := .tuple #[.slice none 0 0, .int .i64 12]) (by simp [results, Tryz.results14, go_sem] <;> omega) rfl (OpR.bad HX.out (by decide) HB1.out)
            · have HX : Hid (∀ t, t < j + 1 → ¬ ((o.rr k).at_ t).kind = 1) := fun t ht => by
                by_cases e : t = j
                · rw [e]; exact hx
                · exact HJ.out t (by omega)
              have hxb : (((o.rr k).at_ j).kind == 1) = false := by simpa using hx
              generalize (o.rr k).at_ j = x at y0 y1 y2 hxb hx
              clear hx
              go_wp2
              go_roundw
              case rel => exact ⟨j + 1, by omega, by go_num, HX.out, by trivial⟩
              case measure => simp [intOf]; omega
          · have HX : Hid (∀ t, t < k + 1 → nodeR (o.rr t) = false) := fun t ht => by
              by_cases e : t = k
              · rw [e]; exact node_no.2 fun a ha => HJ.out a (by rw [← HN.out] at ha; omega)
              · exact HALL.out t (by omega)
            have hji : ¬ (j : Int) < (N : Int) := by omega
            go_wp2
            go_roundw
            case rel => exact ⟨k + 1, by omega, by go_num, HX.out, by trivial⟩
            case measure => simp [intOf]; omega
      · have HX := hidK (show opE o a b = 0 by rw [HE1.out, nodes_no fun i hi => HALL.out i (by omega)]; rfl)
        have hki : ¬ (k : Int) < (o.rm : Int) := by omega
        go_wp2
        refine bodyPost_ret (v := .tuple #[.slice ra o.rc.len rcc, .int .i64 0]) (by simp [results, Tryz.results14, go_sem] <;> omega) rfl ?_
        refine ⟨_, by rw [HX.out], fun _ => ⟨_, _, by rw [HO.out], ?_⟩, HB1.out⟩
        rw [HO.out]
        exact HRC.out _ HB1.out
end Go.Proofs.YtkcejelmohameaaGreatDoor
