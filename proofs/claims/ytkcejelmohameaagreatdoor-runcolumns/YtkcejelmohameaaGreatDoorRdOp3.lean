/-
  CONTRACT: the document's columns of an op (opCols): a Group, an Apply, a Walk, a Build, a Source.
-/
import Derived.Test.YtkcejelmohameaaGreatDoorWkStep
import Derived.Deep.QuietTactic
import Derived.BigQuiet
import Derived.Laws.EntriesVeiled
set_option linter.unusedVariables false
namespace Go.Proofs.YtkcejelmohameaaGreatDoor
set_option maxRecDepth 100000
open Go.RowKit Go.WideShapes

set_option maxHeartbeats 3200000 in
theorem opCols_10y (o : Opm) (a b : Txts) (ia oa pa ra qa ca ca' : Option Addr) (ic oc pc rcc qc ck ck' : Nat) (w : World) (hcs : StrsIs w (.slice oa o.cols.len oc) o.cols.len o.cols.at_) (hos : StrsIs w (.slice pa o.olds.len pc) o.olds.len o.olds.at_) (hrc : StrsIs w (.slice ra o.rc.len rcc) o.rc.len o.rc.at_) (hrr : RowsIs w (.slice qa o.rm qc) o.rm o.rr) (hf : OpFine o) (ha : StrsIs w (.slice ca a.len ck) a.len a.at_) (hb : StrsIs w (.slice ca' b.len ck') b.len b.at_) (hma : a.len ≤ 8) (hmb : b.len ≤ 8) (hT : Tabs w) (hk : o.kind = 10) (hg : aggB o.name = true) :
    Calls Tryz.prog 14 #[.agg #[.int .i64 10, .slice ia o.nin ic, .string o.new, .slice oa o.cols.len oc, .slice pa o.olds.len pc, .string o.part, .string o.name, .int .i64 o.n, .int .i64 o.axis, .int .i64 o.tk, .string o.tn, .slice ra o.rc.len rcc, .slice qa o.rm qc], .slice ca a.len ck, .slice ca' b.len ck'] w fun e w' => OpR o a b w e w' := by
  have HOWN : ownF o = 0 := by unfold ownF; rw [hk, if_neg (by decide), if_pos rfl, if_pos hg]
  have hN : namB o a b = (decide (o.cols.len = 1) && (cnB a (o.cols.at_ 0) && cnB a o.part)) := by unfold namB; rw [hk]; rfl
  have hO : outC o a b = pnT o.part o.new := by unfold outC; rw [hk]; rfl
  have hE := opE_of (a := a) (b := b) HOWN
  rw [hN] at hE
  have CHG : Hid (∀ W v, Below w.heap.size w W → StrsIs W v aggT.len aggT.at_ → Calls Tryz.prog 73 #[v, .string o.name] W fun e w' => e = .returned (.bool (aggB o.name)) ∧ w' = W) := fun W v hW hs => by
    have h := hasTxt_is v 4 aggT.at_ o.name W hs
    rw [agg_has] at h
    exact h
  rw [hg] at CHG
  have CH1 : Hid (∀ W, Below w.heap.size w W → Calls Tryz.prog 73 #[.slice ca a.len ck, .string (o.cols.at_ 0)] W fun e w' => e = .returned (.bool (cnB a (o.cols.at_ 0))) ∧ w' = W) := fun W hW => hasTxt_is _ _ _ _ W (ha.below hW)
  have CH2 : Hid (∀ W, Below w.heap.size w W → Calls Tryz.prog 73 #[.slice ca a.len ck, .string o.part] W fun e w' => e = .returned (.bool (cnB a o.part)) ∧ w' = W) := fun W hW => hasTxt_is _ _ _ _ W (ha.below hW)
  cases c0 : (decide (o.cols.len = 1)) with
  | false =>
    have HE := hidK (show opE o a b = 9 by rw [hE]; simp [c0])
    have n1b : ¬ (o.cols.len : Int) = 1 := by have := of_decide_eq_false c0; omega
    clear hE hN hO HOWN c0
    clear hcs hos hrc hrr hf ha hb hT hk hma hmb hg
    go_enter Tryz.func14, Tryz.ntmps14
    go_wp2_with (first
      | (go_at_call 73; refine (CHG.out _ _ ?_ ?_).mono ?_; (· (focus (repeat (first | exact Below.refl _ _ | exact Hid.out (by assumption) | refine Below.setCell ?_ (by first | omega | (simp <;> omega)) _ | refine Below.alloc ?_ (by first | omega | (simp <;> omega)) _)))); (· exact strs_agg (kNew (by simp))); rintro e w' ⟨rfl, hww⟩; obtain rfl := hww.symm; clear hww CHG)
      | fail)
    refine bodyPost_ret (v := .tuple #[.slice none 0 0, .int .i64 9]) (by simp [results, Tryz.results14, go_sem] <;> omega) rfl (OpR.bad HE.out (by decide) ?_)
    (focus (repeat (first | exact Below.refl _ _ | exact Hid.out (by assumption) | refine Below.setCell ?_ (by first | omega | (simp <;> omega)) _ | refine Below.alloc ?_ (by first | omega | (simp <;> omega)) _)))
  | true =>
    cases c1 : (cnB a (o.cols.at_ 0)) with
    | false =>
      have HE := hidK (show opE o a b = 9 by rw [hE]; simp [c0, c1])
      have n1b : (o.cols.len : Int) = 1 := by have := of_decide_eq_true c0; omega
      have hcs2 := hcs
      obtain ⟨_, _, e0, _, _, _, hat⟩ := hcs2
      cases e0
      have hn0 := of_decide_eq_true c0
      obtain ⟨cb, co, rfl, hcb, hel⟩ := hat (by omega)
      have z0 : w.cell? ⟨cb, co, none⟩ = some (.string (o.cols.at_ 0)) := hel 0 (by omega)
      have hx0 : (0 : Int) < (o.cols.len : Int) := by omega
      clear hat hel hn0
      rw [c1] at CH1
      clear hE hN hO HOWN c0 c1
      clear hcs hos hrc hrr hf ha hb hT hk hma hmb hg
      go_enter Tryz.func14, Tryz.ntmps14
      go_wp2_with (first
        | (go_at_call 73; refine (CHG.out _ _ ?_ ?_).mono ?_; (· (focus (repeat (first | exact Below.refl _ _ | exact Hid.out (by assumption) | refine Below.setCell ?_ (by first | omega | (simp <;> omega)) _ | refine Below.alloc ?_ (by first | omega | (simp <;> omega)) _)))); (· exact strs_agg (kNew (by simp))); rintro e w' ⟨rfl, hww⟩; obtain rfl := hww.symm; clear hww CHG)
        | (go_at_call 73; refine (CH1.out _ ?_).mono ?_; (· (focus (repeat (first | exact Below.refl _ _ | exact Hid.out (by assumption) | refine Below.setCell ?_ (by first | omega | (simp <;> omega)) _ | refine Below.alloc ?_ (by first | omega | (simp <;> omega)) _)))); rintro e w' ⟨rfl, hww⟩; obtain rfl := hww.symm; clear hww CH1)
        | fail)
      refine bodyPost_ret (v := .tuple #[.slice none 0 0, .int .i64 9]) (by simp [results, Tryz.results14, go_sem] <;> omega) rfl (OpR.bad HE.out (by decide) ?_)
      (focus (repeat (first | exact Below.refl _ _ | exact Hid.out (by assumption) | refine Below.setCell ?_ (by first | omega | (simp <;> omega)) _ | refine Below.alloc ?_ (by first | omega | (simp <;> omega)) _)))
    | true =>
      cases c2 : (cnB a o.part) with
      | false =>
        have HE := hidK (show opE o a b = 9 by rw [hE]; simp [c0, c1, c2])
        have n1b : (o.cols.len : Int) = 1 := by have := of_decide_eq_true c0; omega
        have hcs2 := hcs
        obtain ⟨_, _, e0, _, _, _, hat⟩ := hcs2
        cases e0
        have hn0 := of_decide_eq_true c0
        obtain ⟨cb, co, rfl, hcb, hel⟩ := hat (by omega)
        have z0 : w.cell? ⟨cb, co, none⟩ = some (.string (o.cols.at_ 0)) := hel 0 (by omega)
        have hx0 : (0 : Int) < (o.cols.len : Int) := by omega
        clear hat hel hn0
        rw [c1] at CH1
        rw [c2] at CH2
        clear hE hN hO HOWN c0 c1 c2
        clear hcs hos hrc hrr hf ha hb hT hk hma hmb hg
        go_enter Tryz.func14, Tryz.ntmps14
        go_wp2_with (first
          | (go_at_call 73; refine (CHG.out _ _ ?_ ?_).mono ?_; (· (focus (repeat (first | exact Below.refl _ _ | exact Hid.out (by assumption) | refine Below.setCell ?_ (by first | omega | (simp <;> omega)) _ | refine Below.alloc ?_ (by first | omega | (simp <;> omega)) _)))); (· exact strs_agg (kNew (by simp))); rintro e w' ⟨rfl, hww⟩; obtain rfl := hww.symm; clear hww CHG)
          | (go_at_call 73; refine (CH1.out _ ?_).mono ?_; (· (focus (repeat (first | exact Below.refl _ _ | exact Hid.out (by assumption) | refine Below.setCell ?_ (by first | omega | (simp <;> omega)) _ | refine Below.alloc ?_ (by first | omega | (simp <;> omega)) _)))); rintro e w' ⟨rfl, hww⟩; obtain rfl := hww.symm; clear hww CH1)
          | (go_at_call 73; refine (CH2.out _ ?_).mono ?_; (· (focus (repeat (first | exact Below.refl _ _ | exact Hid.out (by assumption) | refine Below.setCell ?_ (by first | omega | (simp <;> omega)) _ | refine Below.alloc ?_ (by first | omega | (simp <;> omega)) _)))); rintro e w' ⟨rfl, hww⟩; obtain rfl := hww.symm; clear hww CH2)
          | fail)
        refine bodyPost_ret (v := .tuple #[.slice none 0 0, .int .i64 9]) (by simp [results, Tryz.results14, go_sem] <;> omega) rfl (OpR.bad HE.out (by decide) ?_)
        (focus (repeat (first | exact Below.refl _ _ | exact Hid.out (by assumption) | refine Below.setCell ?_ (by first | omega | (simp <;> omega)) _ | refine Below.alloc ?_ (by first | omega | (simp <;> omega)) _)))
      | true =>
        have HE := hidK (show opE o a b = 0 by rw [hE]; simp [c0, c1, c2])
        have n1b : (o.cols.len : Int) = 1 := by have := of_decide_eq_true c0; omega
        have hcs2 := hcs
        obtain ⟨_, _, e0, _, _, _, hat⟩ := hcs2
        cases e0
        have hn0 := of_decide_eq_true c0
        obtain ⟨cb, co, rfl, hcb, hel⟩ := hat (by omega)
        have z0 : w.cell? ⟨cb, co, none⟩ = some (.string (o.cols.at_ 0)) := hel 0 (by omega)
        have hx0 : (0 : Int) < (o.cols.len : Int) := by omega
        clear hat hel hn0
        rw [c1] at CH1
        rw [c2] at CH2
        have HO := hidK hO
        clear hE hN hO HOWN c0 c1 c2
        clear hcs hos hrc hrr hf ha hb hT hk hma hmb
        go_enter Tryz.func14, Tryz.ntmps14
        go_wp2_with (first
          | (go_at_call 73; refine (CHG.out _ _ ?_ ?_).mono ?_; (· (focus (repeat (first | exact Below.refl _ _ | exact Hid.out (by assumption) | refine Below.setCell ?_ (by first | omega | (simp <;> omega)) _ | refine Below.alloc ?_ (by first | omega | (simp <;> omega)) _)))); (· exact strs_agg (kNew (by simp))); rintro e w' ⟨rfl, hww⟩; obtain rfl := hww.symm; clear hww CHG)
          | (go_at_call 73; refine (CH1.out _ ?_).mono ?_; (· (focus (repeat (first | exact Below.refl _ _ | exact Hid.out (by assumption) | refine Below.setCell ?_ (by first | omega | (simp <;> omega)) _ | refine Below.alloc ?_ (by first | omega | (simp <;> omega)) _)))); rintro e w' ⟨rfl, hww⟩; obtain rfl := hww.symm; clear hww CH1)
          | (go_at_call 73; refine (CH2.out _ ?_).mono ?_; (· (focus (repeat (first | exact Below.refl _ _ | exact Hid.out (by assumption) | refine Below.setCell ?_ (by first | omega | (simp <;> omega)) _ | refine Below.alloc ?_ (by first | omega | (simp <;> omega)) _)))); rintro e w' ⟨rfl, hww⟩; obtain rfl := hww.symm; clear hww CH2)
          | fail)
        refine bodyPost_ret (v := .tuple #[.slice (some ⟨w.heap.size + 1 + 1, 0, none⟩) 2 2, .int .i64 0]) (by simp [results, Tryz.results14, go_sem] <;> omega) rfl ?_
        refine ⟨_, by rw [HE.out], fun _ => ⟨_, _, by rw [HO.out]; rfl, ?_⟩, ?_⟩
        · rw [HO.out]
          exact strs_pn (kNew (by simp))
        · (focus (repeat (first | exact Below.refl _ _ | exact Hid.out (by assumption) | refine Below.setCell ?_ (by first | omega | (simp <;> omega)) _ | refine Below.alloc ?_ (by first | omega | (simp <;> omega)) _)))
set_option maxHeartbeats 3200000 in
theorem opCols_10n (o : Opm) (a b : Txts) (ia oa pa ra qa ca ca' : Option Addr) (ic oc pc rcc qc ck ck' : Nat) (w : World) (hcs : StrsIs w (.slice oa o.cols.len oc) o.cols.len o.cols.at_) (hos : StrsIs w (.slice pa o.olds.len pc) o.olds.len o.olds.at_) (hrc : StrsIs w (.slice ra o.rc.len rcc) o.rc.len o.rc.at_) (hrr : RowsIs w (.slice qa o.rm qc) o.rm o.rr) (hf : OpFine o) (ha : StrsIs w (.slice ca a.len ck) a.len a.at_) (hb : StrsIs w (.slice ca' b.len ck') b.len b.at_) (hma : a.len ≤ 8) (hmb : b.len ≤ 8) (hT : Tabs w) (hk : o.kind = 10) (hg : aggB o.name = false) :
    Calls Tryz.prog 14 #[.agg #[.int .i64 10, .slice ia o.nin ic, .string o.new, .slice oa o.cols.len oc, .slice pa o.olds.len pc, .string o.part, .string o.name, .int .i64 o.n, .int .i64 o.axis, .int .i64 o.tk, .string o.tn, .slice ra o.rc.len rcc, .slice qa o.rm qc], .slice ca a.len ck, .slice ca' b.len ck'] w fun e w' => OpR o a b w e w' := by
  have HE : Hid (opE o a b = 6) := by
    have h1 : ownF o = 6 := by unfold ownF; rw [hk, if_neg (by decide), if_pos rfl, if_neg (by rw [hg]; decide)]
    have h2 : opE o a b = 6 := by unfold opE; rw [h1]; rfl
    exact h2
  have CHG : Hid (∀ W v, Below w.heap.size w W → StrsIs W v aggT.len aggT.at_ → Calls Tryz.prog 73 #[v, .string o.name] W fun e w' => e = .returned (.bool (aggB o.name)) ∧ w' = W) := fun W v hW hs => by
    have h := hasTxt_is v 4 aggT.at_ o.name W hs
    rw [agg_has] at h
    exact h
  rw [hg] at CHG
  clear hcs hos hrc hrr hf ha hb hT hk hma hmb hg
  go_enter Tryz.func14, Tryz.ntmps14
  go_wp2_with (first
    | (go_at_call 73; refine (CHG.out _ _ ?_ ?_).mono ?_; (· (focus (repeat (first | exact Below.refl _ _ | exact Hid.out (by assumption) | refine Below.setCell ?_ (by first | omega | (simp <;> omega)) _ | refine Below.alloc ?_ (by first | omega | (simp <;> omega)) _)))); (· exact strs_agg (kNew (by simp))); rintro e w' ⟨rfl, hww⟩; obtain rfl := hww.symm; clear hww CHG)
    | fail)
  refine bodyPost_ret (v := .tuple #[.slice none 0 0, .int .i64 6]) (by simp [results, Tryz.results14, go_sem] <;> omega) rfl (OpR.bad HE.out (by decide) ?_)
  (focus (repeat (first | exact Below.refl _ _ | exact Hid.out (by assumption) | refine Below.setCell ?_ (by first | omega | (simp <;> omega)) _ | refine Below.alloc ?_ (by first | omega | (simp <;> omega)) _)))
set_option maxHeartbeats 3200000 in
theorem opCols_11y (o : Opm) (a b : Txts) (ia oa pa ra qa ca ca' : Option Addr) (ic oc pc rcc qc ck ck' : Nat) (w : World) (hcs : StrsIs w (.slice oa o.cols.len oc) o.cols.len o.cols.at_) (hos : StrsIs w (.slice pa o.olds.len pc) o.olds.len o.olds.at_) (hrc : StrsIs w (.slice ra o.rc.len rcc) o.rc.len o.rc.at_) (hrr : RowsIs w (.slice qa o.rm qc) o.rm o.rr) (hf : OpFine o) (ha : StrsIs w (.slice ca a.len ck) a.len a.at_) (hb : StrsIs w (.slice ca' b.len ck') b.len b.at_) (hma : a.len ≤ 8) (hmb : b.len ≤ 8) (hT : Tabs w) (hk : o.kind = 11) (hg : 0 ≤ fnA o.name) :
    Calls Tryz.prog 14 #[.agg #[.int .i64 11, .slice ia o.nin ic, .string o.new, .slice oa o.cols.len oc, .slice pa o.olds.len pc, .string o.part, .string o.name, .int .i64 o.n, .int .i64 o.axis, .int .i64 o.tk, .string o.tn, .slice ra o.rc.len rcc, .slice qa o.rm qc], .slice ca a.len ck, .slice ca' b.len ck'] w fun e w' => OpR o a b w e w' := by
  have HOWN : ownF o = 0 := by unfold ownF; rw [hk, if_neg (by decide), if_neg (by decide), if_pos rfl, if_neg (by omega)]
  have hN : namB o a b = (decide ((o.cols.len : Int) = fnA o.name) && allT a o.cols) := by unfold namB; rw [hk]; rfl
  have hO : outC o a b = appS a (onC o.new) := by unfold outC; rw [hk]; rfl
  have hE := opE_of (a := a) (b := b) HOWN
  rw [hN] at hE
  have n0 : ¬ fnA o.name < 0 := by omega
  have CF1 : Hid (∀ W, Calls Tryz.prog 74 #[.string o.name] W fun e w' => e = .returned (.int .i64 (fnA o.name)) ∧ w' = W) := fun W => fnArgs_is o.name W
  have CF2 : Hid (∀ W, Calls Tryz.prog 74 #[.string o.name] W fun e w' => e = .returned (.int .i64 (fnA o.name)) ∧ w' = W) := fun W => fnArgs_is o.name W
  have CT1 : Hid (∀ W, Below w.heap.size w W → Calls Tryz.prog 17 #[.slice ca a.len ck, .slice oa o.cols.len oc] W fun e w' => e = .returned (.bool (allT a o.cols)) ∧ w' = W) := fun W hW => allThere_is _ _ a o.cols W (ha.below hW) (hcs.below hW)
  have CX : Hid (∀ W bb x, Below w.heap.size w W → W.cell? ⟨bb, 0, none⟩ = some (.slice ca a.len ck) → W.cell? ⟨bb, 1, none⟩ = some x → StrsIs W x (onC o.new).len (onC o.new).at_ → bb < W.heap.size → Calls Tryz.prog 16 #[.slice (some ⟨bb, 0, none⟩) 2 2] W fun e w' => (∃ x y, e = .returned (.slice x (appS a (onC o.new)).len y) ∧ StrsIs w' (.slice x (appS a (onC o.new)).len y) (appS a (onC o.new)).len (appS a (onC o.new)).at_) ∧ Below W.heap.size W w') := fun W bb x hW k0 k1 hx hbb => (texts_two bb 0 2 _ _ a (onC o.new) W (Nat.le_refl _) (by unfold maxLen; omega) hbb k0 k1 (ha.below hW) hx (by show (a.len + 1) * 16 ≤ _; omega)).mono (by
    rintro e w' ⟨u, rfl, h1, ⟨x, y, rfl⟩, h2⟩
    exact ⟨⟨x, y, rfl, h1.is⟩, h2⟩)
  cases c0 : (decide ((o.cols.len : Int) = fnA o.name)) with
  | false =>
    have HE := hidK (show opE o a b = 9 by rw [hE]; simp [c0])
    have n1b : ¬ fnA o.name = (o.cols.len : Int) := fun h => of_decide_eq_false c0 h.symm
    clear hE hN hO HOWN c0
    clear hcs hos hrc hrr hf ha hb hT hk hma hmb hg
    go_enter Tryz.func14, Tryz.ntmps14
    go_wp2_with (first
      | (go_at_call 74; refine (CF1.out _).mono ?_; rintro e w' ⟨rfl, hww⟩; obtain rfl := hww.symm; clear hww CF1) | (go_at_call 74; refine (CF2.out _).mono ?_; rintro e w' ⟨rfl, hww⟩; obtain rfl := hww.symm; clear hww CF2)
      | fail)
    refine bodyPost_ret (v := .tuple #[.slice none 0 0, .int .i64 9]) (by simp [results, Tryz.results14, go_sem] <;> omega) rfl (OpR.bad HE.out (by decide) ?_)
    (focus (repeat (first | exact Below.refl _ _ | exact Hid.out (by assumption) | refine Below.setCell ?_ (by first | omega | (simp <;> omega)) _ | refine Below.alloc ?_ (by first | omega | (simp <;> omega)) _)))
  | true =>
    cases c1 : (allT a o.cols) with
    | false =>
      have HE := hidK (show opE o a b = 9 by rw [hE]; simp [c0, c1])
      have n1b : fnA o.name = (o.cols.len : Int) := (of_decide_eq_true c0).symm
      rw [c1] at CT1
      clear hE hN hO HOWN c0 c1
      clear hcs hos hrc hrr hf ha hb hT hk hma hmb hg
      go_enter Tryz.func14, Tryz.ntmps14
      go_wp2_with (first
        | (go_at_call 74; refine (CF1.out _).mono ?_; rintro e w' ⟨rfl, hww⟩; obtain rfl := hww.symm; clear hww CF1) | (go_at_call 74; refine (CF2.out _).mono ?_; rintro e w' ⟨rfl, hww⟩; obtain rfl := hww.symm; clear hww CF2)
        | (go_at_call 17; refine (CT1.out _ ?_).mono ?_; (· (focus (repeat (first | exact Below.refl _ _ | exact Hid.out (by assumption) | refine Below.setCell ?_ (by first | omega | (simp <;> omega)) _ | refine Below.alloc ?_ (by first | omega | (simp <;> omega)) _)))); rintro e w' ⟨rfl, hww⟩; obtain rfl := hww.symm; clear hww CT1)
        | fail)
      refine bodyPost_ret (v := .tuple #[.slice none 0 0, .int .i64 9]) (by simp [results, Tryz.results14, go_sem] <;> omega) rfl (OpR.bad HE.out (by decide) ?_)
      (focus (repeat (first | exact Below.refl _ _ | exact Hid.out (by assumption) | refine Below.setCell ?_ (by first | omega | (simp <;> omega)) _ | refine Below.alloc ?_ (by first | omega | (simp <;> omega)) _)))
    | true =>
      have HE := hidK (show opE o a b = 0 by rw [hE]; simp [c0, c1])
      have n1b : fnA o.name = (o.cols.len : Int) := (of_decide_eq_true c0).symm
      rw [c1] at CT1
      have HO := hidK hO
      clear hE hN hO HOWN c0 c1
      clear hcs hos hrc hrr hf ha hb hT hk hma hmb
      go_enter Tryz.func14, Tryz.ntmps14
      go_wp2_with (first
        | (go_at_call 74; refine (CF1.out _).mono ?_; rintro e w' ⟨rfl, hww⟩; obtain rfl := hww.symm; clear hww CF1) | (go_at_call 74; refine (CF2.out _).mono ?_; rintro e w' ⟨rfl, hww⟩; obtain rfl := hww.symm; clear hww CF2)
        | (go_at_call 17; refine (CT1.out _ ?_).mono ?_; (· (focus (repeat (first | exact Below.refl _ _ | exact Hid.out (by assumption) | refine Below.setCell ?_ (by first | omega | (simp <;> omega)) _ | refine Below.alloc ?_ (by first | omega | (simp <;> omega)) _)))); rintro e w' ⟨rfl, hww⟩; obtain rfl := hww.symm; clear hww CT1)
        | (go_at_call 16; refine (CX.out _ _ (.slice (some ⟨w.heap.size + 1, 0, none⟩) 1 1) ?_ ?_ ?_ ?_ ?_).mono ?_; (· (focus (repeat (first | exact Below.refl _ _ | exact Hid.out (by assumption) | refine Below.setCell ?_ (by first | omega | (simp <;> omega)) _ | refine Below.alloc ?_ (by first | omega | (simp <;> omega)) _)))); (· simp [go_sem]); (· simp [go_sem]); (· exact (strs1 (kNew (by simp))).below ((Below.refl _ _).alloc (Nat.le_refl _) _)); (· simp); rintro e w9 ⟨⟨x9, y9, rfl, hs9⟩, hb9⟩; have HS9 := hidK hs9; have HB9 : Hid (Below w.heap.size w w9) := Below.trans (by (focus (repeat (first | exact Below.refl _ _ | exact Hid.out (by assumption) | refine Below.setCell ?_ (by first | omega | (simp <;> omega)) _ | refine Below.alloc ?_ (by first | omega | (simp <;> omega)) _)))) (hb9.mono (by first | omega | (simp <;> omega))); clear hb9 hs9 CX)
        | fail)
      refine bodyPost_ret (v := .tuple #[.slice x9 (appS a (onC o.new)).len y9, .int .i64 0]) (by simp [results, Tryz.results14, go_sem] <;> omega) rfl ⟨_, by rw [HE.out], fun _ => ⟨_, _, by rw [HO.out], by rw [HO.out]; exact HS9.out⟩, HB9.out⟩
set_option maxHeartbeats 3200000 in
theorem opCols_11n (o : Opm) (a b : Txts) (ia oa pa ra qa ca ca' : Option Addr) (ic oc pc rcc qc ck ck' : Nat) (w : World) (hcs : StrsIs w (.slice oa o.cols.len oc) o.cols.len o.cols.at_) (hos : StrsIs w (.slice pa o.olds.len pc) o.olds.len o.olds.at_) (hrc : StrsIs w (.slice ra o.rc.len rcc) o.rc.len o.rc.at_) (hrr : RowsIs w (.slice qa o.rm qc) o.rm o.rr) (hf : OpFine o) (ha : StrsIs w (.slice ca a.len ck) a.len a.at_) (hb : StrsIs w (.slice ca' b.len ck') b.len b.at_) (hma : a.len ≤ 8) (hmb : b.len ≤ 8) (hT : Tabs w) (hk : o.kind = 11) (hg : fnA o.name = -1) :
    Calls Tryz.prog 14 #[.agg #[.int .i64 11, .slice ia o.nin ic, .string o.new, .slice oa o.cols.len oc, .slice pa o.olds.len pc, .string o.part, .string o.name, .int .i64 o.n, .int .i64 o.axis, .int .i64 o.tk, .string o.tn, .slice ra o.rc.len rcc, .slice qa o.rm qc], .slice ca a.len ck, .slice ca' b.len ck'] w fun e w' => OpR o a b w e w' := by
  have HE : Hid (opE o a b = 6) := by
    have h1 : ownF o = 6 := by unfold ownF; rw [hk, if_neg (by decide), if_neg (by decide), if_pos rfl, if_pos (by omega)]
    have h2 : opE o a b = 6 := by unfold opE; rw [h1]; rfl
    exact h2
  have n0 : fnA o.name < 0 := by omega
  have CF1 : Hid (∀ W, Calls Tryz.prog 74 #[.string o.name] W fun e w' => e = .returned (.int .i64 (fnA o.name)) ∧ w' = W) := fun W => fnArgs_is o.name W
  clear hcs hos hrc hrr hf ha hb hT hk hma hmb hg
  go_enter Tryz.func14, Tryz.ntmps14
  go_wp2_with (first
    | (go_at_call 74; refine (CF1.out _).mono ?_; rintro e w' ⟨rfl, hww⟩; obtain rfl := hww.symm; clear hww CF1)
    | fail)
  refine bodyPost_ret (v := .tuple #[.slice none 0 0, .int .i64 6]) (by simp [results, Tryz.results14, go_sem] <;> omega) rfl (OpR.bad HE.out (by decide) ?_)
  (focus (repeat (first | exact Below.refl _ _ | exact Hid.out (by assumption) | refine Below.setCell ?_ (by first | omega | (simp <;> omega)) _ | refine Below.alloc ?_ (by first | omega | (simp <;> omega)) _)))
set_option maxHeartbeats 3200000 in
theorem opCols_12y (o : Opm) (a b : Txts) (ia oa pa ra qa ca ca' : Option Addr) (ic oc pc rcc qc ck ck' : Nat) (w : World) (hcs : StrsIs w (.slice oa o.cols.len oc) o.cols.len o.cols.at_) (hos : StrsIs w (.slice pa o.olds.len pc) o.olds.len o.olds.at_) (hrc : StrsIs w (.slice ra o.rc.len rcc) o.rc.len o.rc.at_) (hrr : RowsIs w (.slice qa o.rm qc) o.rm o.rr) (hf : OpFine o) (ha : StrsIs w (.slice ca a.len ck) a.len a.at_) (hb : StrsIs w (.slice ca' b.len ck') b.len b.at_) (hma : a.len ≤ 8) (hmb : b.len ≤ 8) (hT : Tabs w) (hk : o.kind = 12) (hg : stepB o.axis o.tk = true) :
    Calls Tryz.prog 14 #[.agg #[.int .i64 12, .slice ia o.nin ic, .string o.new, .slice oa o.cols.len oc, .slice pa o.olds.len pc, .string o.part, .string o.name, .int .i64 o.n, .int .i64 o.axis, .int .i64 o.tk, .string o.tn, .slice ra o.rc.len rcc, .slice qa o.rm qc], .slice ca a.len ck, .slice ca' b.len ck'] w fun e w' => OpR o a b w e w' := by
  have HOWN : ownF o = 0 := by unfold ownF; rw [hk, if_neg (by decide), if_neg (by decide), if_neg (by decide), if_pos rfl, if_pos hg]
  have hN : namB o a b = (allT a itC) := by unfold namB; rw [hk]; rfl
  have hO : outC o a b = itC := by unfold outC; rw [hk]; rfl
  have hE := opE_of (a := a) (b := b) HOWN
  rw [hN] at hE
  have CS : Hid (∀ W, Calls Tryz.prog 75 #[.int .i64 o.axis, .agg #[.int .i64 o.tk, .string o.tn]] W fun e w' => e = .returned (.bool (stepB o.axis o.tk)) ∧ Below W.heap.size W w') := fun W => by
    have h := stepMay_is o.axis o.tk o.tn W
    rw [stepB_in] at h
    exact h
  rw [hg] at CS
  have CT1 : Hid (∀ W v, Below w.heap.size w W → StrsIs W v (itC).len (itC).at_ → Calls Tryz.prog 17 #[.slice ca a.len ck, v] W fun e w' => e = .returned (.bool (allT a (itC))) ∧ w' = W) := fun W v hW hs => allThere_is _ _ a (itC) W (ha.below hW) hs
  cases c0 : (allT a itC) with
  | false =>
    have HE := hidK (show opE o a b = 9 by rw [hE]; simp [c0])
    rw [c0] at CT1
    clear hE hN hO HOWN c0
    clear hcs hos hrc hrr hf ha hb hT hk hma hmb hg
    go_enter Tryz.func14, Tryz.ntmps14
    go_wp2_with (first
      | (go_at_call 75; refine (CS.out _).mono ?_; rintro e w1 ⟨rfl, hb1⟩; have HB1 : Hid (Below w.heap.size w w1) := Below.trans ((Below.refl _ _).alloc (Nat.le_refl _) _) (hb1.mono (by simp)); have hz1 := HB1.out.size; clear hb1 CS) | (go_at_call 17; refine (CT1.out _ _ ?_ ?_).mono ?_; (· (focus (repeat (first | exact Below.refl _ _ | exact Hid.out (by assumption) | refine Below.setCell ?_ (by first | omega | (simp <;> omega)) _ | refine Below.alloc ?_ (by first | omega | (simp <;> omega)) _)))); (· exact strs_it (kNew (by simp))); rintro e w' ⟨rfl, hww⟩; obtain rfl := hww.symm; clear hww CT1)
      | fail)
    refine bodyPost_ret (v := .tuple #[.slice none 0 0, .int .i64 9]) (by simp [results, Tryz.results14, go_sem] <;> omega) rfl (OpR.bad HE.out (by decide) ?_)
    (focus (repeat (first | exact Below.refl _ _ | exact Hid.out (by assumption) | refine Below.setCell ?_ (by first | omega | (simp <;> omega)) _ | refine Below.alloc ?_ (by first | omega | (simp <;> omega)) _)))
  | true =>
    have HE := hidK (show opE o a b = 0 by rw [hE]; simp [c0])
    rw [c0] at CT1
    have HO := hidK hO
    clear hE hN hO HOWN c0
    clear hcs hos hrc hrr hf ha hb hT hk hma hmb
    go_enter Tryz.func14, Tryz.ntmps14
    go_wp2_with (first
      | (go_at_call 75; refine (CS.out _).mono ?_; rintro e w1 ⟨rfl, hb1⟩; have HB1 : Hid (Below w.heap.size w w1) := Below.trans ((Below.refl _ _).alloc (Nat.le_refl _) _) (hb1.mono (by simp)); have hz1 := HB1.out.size; clear hb1 CS) | (go_at_call 17; refine (CT1.out _ _ ?_ ?_).mono ?_; (· (focus (repeat (first | exact Below.refl _ _ | exact Hid.out (by assumption) | refine Below.setCell ?_ (by first | omega | (simp <;> omega)) _ | refine Below.alloc ?_ (by first | omega | (simp <;> omega)) _)))); (· exact strs_it (kNew (by simp))); rintro e w' ⟨rfl, hww⟩; obtain rfl := hww.symm; clear hww CT1)
      | fail)
    refine bodyPost_ret (v := .tuple #[.slice (some ⟨w1.heap.size + 1, 0, none⟩) 2 2, .int .i64 0]) (by simp [results, Tryz.results14, go_sem] <;> omega) rfl ?_
    refine ⟨_, by rw [HE.out], fun _ => ⟨_, _, by rw [HO.out]; rfl, ?_⟩, ?_⟩
    · rw [HO.out]
      exact strs_it (kNew (by simp))
    · (focus (repeat (first | exact Below.refl _ _ | exact Hid.out (by assumption) | refine Below.setCell ?_ (by first | omega | (simp <;> omega)) _ | refine Below.alloc ?_ (by first | omega | (simp <;> omega)) _)))
set_option maxHeartbeats 3200000 in
theorem opCols_12n (o : Opm) (a b : Txts) (ia oa pa ra qa ca ca' : Option Addr) (ic oc pc rcc qc ck ck' : Nat) (w : World) (hcs : StrsIs w (.slice oa o.cols.len oc) o.cols.len o.cols.at_) (hos : StrsIs w (.slice pa o.olds.len pc) o.olds.len o.olds.at_) (hrc : StrsIs w (.slice ra o.rc.len rcc) o.rc.len o.rc.at_) (hrr : RowsIs w (.slice qa o.rm qc) o.rm o.rr) (hf : OpFine o) (ha : StrsIs w (.slice ca a.len ck) a.len a.at_) (hb : StrsIs w (.slice ca' b.len ck') b.len b.at_) (hma : a.len ≤ 8) (hmb : b.len ≤ 8) (hT : Tabs w) (hk : o.kind = 12) (hg : stepB o.axis o.tk = false) :
    Calls Tryz.prog 14 #[.agg #[.int .i64 12, .slice ia o.nin ic, .string o.new, .slice oa o.cols.len oc, .slice pa o.olds.len pc, .string o.part, .string o.name, .int .i64 o.n, .int .i64 o.axis, .int .i64 o.tk, .string o.tn, .slice ra o.rc.len rcc, .slice qa o.rm qc], .slice ca a.len ck, .slice ca' b.len ck'] w fun e w' => OpR o a b w e w' := by
  have HE : Hid (opE o a b = 3) := by
    have h1 : ownF o = 3 := by unfold ownF; rw [hk, if_neg (by decide), if_neg (by decide), if_neg (by decide), if_pos rfl, if_neg (by rw [hg]; decide)]
    have h2 : opE o a b = 3 := by unfold opE; rw [h1]; rfl
    exact h2
  have CS : Hid (∀ W, Calls Tryz.prog 75 #[.int .i64 o.axis, .agg #[.int .i64 o.tk, .string o.tn]] W fun e w' => e = .returned (.bool (stepB o.axis o.tk)) ∧ Below W.heap.size W w') := fun W => by
    have h := stepMay_is o.axis o.tk o.tn W
    rw [stepB_in] at h
    exact h
  rw [hg] at CS
  clear hcs hos hrc hrr hf ha hb hT hk hma hmb hg
  go_enter Tryz.func14, Tryz.ntmps14
  go_wp2_with (first
    | (go_at_call 75; refine (CS.out _).mono ?_; rintro e w1 ⟨rfl, hb1⟩; have HB1 : Hid (Below w.heap.size w w1) := Below.trans ((Below.refl _ _).alloc (Nat.le_refl _) _) (hb1.mono (by simp)); have hz1 := HB1.out.size; clear hb1 CS)
    | fail)
  refine bodyPost_ret (v := .tuple #[.slice none 0 0, .int .i64 3]) (by simp [results, Tryz.results14, go_sem] <;> omega) rfl (OpR.bad HE.out (by decide) ?_)
  (focus (repeat (first | exact Below.refl _ _ | exact Hid.out (by assumption) | refine Below.setCell ?_ (by first | omega | (simp <;> omega)) _ | refine Below.alloc ?_ (by first | omega | (simp <;> omega)) _)))
set_option maxHeartbeats 3200000 in
theorem opCols_14 (o : Opm) (a b : Txts) (ia oa pa ra qa ca ca' : Option Addr) (ic oc pc rcc qc ck ck' : Nat) (w : World) (hcs : StrsIs w (.slice oa o.cols.len oc) o.cols.len o.cols.at_) (hos : StrsIs w (.slice pa o.olds.len pc) o.olds.len o.olds.at_) (hrc : StrsIs w (.slice ra o.rc.len rcc) o.rc.len o.rc.at_) (hrr : RowsIs w (.slice qa o.rm qc) o.rm o.rr) (hf : OpFine o) (ha : StrsIs w (.slice ca a.len ck) a.len a.at_) (hb : StrsIs w (.slice ca' b.len ck') b.len b.at_) (hma : a.len ≤ 8) (hmb : b.len ≤ 8) (hT : Tabs w) (hk : o.kind = 14) :
    Calls Tryz.prog 14 #[.agg #[.int .i64 14, .slice ia o.nin ic, .string o.new, .slice oa o.cols.len oc, .slice pa o.olds.len pc, .string o.part, .string o.name, .int .i64 o.n, .int .i64 o.axis, .int .i64 o.tk, .string o.tn, .slice ra o.rc.len rcc, .slice qa o.rm qc], .slice ca a.len ck, .slice ca' b.len ck'] w fun e w' => OpR o a b w e w' := by
  have HOWN : ownF o = 0 := by unfold ownF; rw [hk]; rfl
  have hN : namB o a b = (true) := by unfold namB; rw [hk]; rfl
  have hO : outC o a b = onC itemS := by unfold outC; rw [hk]; rfl
  have hE := opE_of (a := a) (b := b) HOWN
  rw [hN] at hE
  have HE := hidK (show opE o a b = 0 by rw [hE]; simp [])
  have HO := hidK hO
  clear hE hN hO HOWN 
  clear hcs hos hrc hrr hf ha hb hT hk hma hmb
  go_enter Tryz.func14, Tryz.ntmps14
  go_wp2
  refine bodyPost_ret (v := .tuple #[.slice (some ⟨w.heap.size + 1, 0, none⟩) 1 1, .int .i64 0]) (by simp [results, Tryz.results14, go_sem] <;> omega) rfl ?_
  refine ⟨_, by rw [HE.out], fun _ => ⟨_, _, by rw [HO.out]; rfl, ?_⟩, ?_⟩
  · rw [HO.out]
    exact strs1 (x := itemS) (kNew (by simp))
  · (focus (repeat (first | exact Below.refl _ _ | exact Hid.out (by assumption) | refine Below.setCell ?_ (by first | omega | (simp <;> omega)) _ | refine Below.alloc ?_ (by first | omega | (simp <;> omega)) _)))
end Go.Proofs.YtkcejelmohameaaGreatDoor
