/-
  CONTRACT: the document's columns of an op (opCols), kind by kind.
-/
import Derived.Test.YtkcejelmohameaaGreatDoorRcOpen
import Derived.Test.YtkcejelmohameaaGreatDoorRdArgs
import Derived.Test.YtkcejelmohameaaGreatDoorRcOut
import Derived.Test.YtkcejelmohameaaGreatDoorRlCrossI
import Derived.Test.YtkcejelmohameaaGreatDoorRlFault
import Derived.Test.YtkcejelmohameaaGreatDoorRlExcI
import Derived.Deep.QuietTactic
import Derived.BigQuiet
import Derived.Laws.EntriesVeiled
set_option linter.unusedVariables false
namespace Go.Proofs.YtkcejelmohameaaGreatDoor
set_option maxRecDepth 100000
open Go.RowKit Go.WideShapes

/-- what is refused of an op, by itself and by the columns that it names -/
def opE (o : Opm) (a b : Txts) : Int := if ownF o = 0 then (if namB o a b = true then 0 else 9) else ownF o
/-- what the document's opCols tells -/
def OpR (o : Opm) (a b : Txts) (w : World) (e : Ending) (w' : World) : Prop :=
  ∃ v, e = .returned (.tuple #[v, .int .i64 (opE o a b)]) ∧ (opE o a b = 0 → ∃ x y, v = .slice x (outC o a b).len y ∧ StrsIs w' v (outC o a b).len (outC o a b).at_) ∧ Below w.heap.size w w'
theorem OpR.bad {o : Opm} {a b : Txts} {w w' : World} {v : Value} {F : Int} (hF : opE o a b = F) (h0 : ¬ F = 0) (hb : Below w.heap.size w w') : OpR o a b w (.returned (.tuple #[v, .int .i64 F])) w' :=
  ⟨v, by rw [hF], fun h => absurd (hF.symm.trans h) h0, hb⟩
theorem opE_of {o : Opm} {a b : Txts} (h : ownF o = 0) : opE o a b = if namB o a b = true then 0 else 9 := by unfold opE; rw [if_pos h]
theorem allT_one {a l : Txts} (h : l.len = 1) : allT a l = cnB a (l.at_ 0) := by
  unfold allT cnB foundB
  rw [h]
  simp [List.range_succ]
theorem strs_pn {w : World} {g : Nat} {p n : ByteArray} (h : w.heap[g]? = some (.cells #[.string p, .string n] 9)) : StrsIs w (.slice (some ⟨g, 0, none⟩) 2 2) (pnT p n).len (pnT p n).at_ := strs_blk h rfl (by decide) (by unfold maxLen; omega) fun i hi => by
  have : i = 0 ∨ i = 1 := by simp at hi; omega
  rcases this with rfl | rfl <;> rfl
def aggT : Txts := ⟨4, fun i => if i = 0 then tCount else if i = 1 then tSum else if i = 2 then tMin else tMax⟩
theorem strs_agg {w : World} {g : Nat} (h : w.heap[g]? = some (.cells #[.string ⟨#[99, 111, 117, 110, 116]⟩, .string ⟨#[115, 117, 109]⟩, .string ⟨#[109, 105, 110]⟩, .string ⟨#[109, 97, 120]⟩] 9)) : StrsIs w (.slice (some ⟨g, 0, none⟩) 4 4) aggT.len aggT.at_ := strs_blk h rfl (by decide) (by unfold maxLen; omega) fun i hi => by
  have : i = 0 ∨ i = 1 ∨ i = 2 ∨ i = 3 := by simp at hi; omega
  rcases this with rfl | rfl | rfl | rfl <;> rfl
theorem sizeE0 {s : ByteArray} (h : s.size = 0) : s = ⟨#[]⟩ := by
  cases s with
  | mk d => congr 1; exact Array.eq_empty_of_size_eq_zero h
theorem colI_in {C : Nat → ByteArray} {n j : Nat} {s : ByteArray} (hj : j < n) (h : ((C j).toList == s.toList) = true) : ¬ colI C n s = -1 := by
  induction j using Nat.strongRecOn with
  | ind j ih =>
    by_cases he : ∃ t, t < j ∧ ((C t).toList == s.toList) = true
    · obtain ⟨t, ht, h2⟩ := he
      exact ih t ht (by omega) h2
    · rw [colI_hit hj h (fun t ht => by
        cases h3 : ((C t).toList == s.toList) with
        | false => rfl
        | true => exact absurd ⟨t, ht, h3⟩ he)]
      omega
theorem agg_has (s : ByteArray) : decide (0 ≤ colI aggT.at_ 4 s) = aggB s := by
  rcases colI_cases aggT.at_ 4 s with h | ⟨k, hk, h⟩
  · rw [h]
    cases e : aggB s with
    | false => rfl
    | true =>
      exfalso
      have hc : ∀ i, i < 4 → ¬ aggT.at_ i = s := fun i hi he => by
        by_cases e1 : ∀ j, j < 4 → ((aggT.at_ j).toList == s.toList) = false
        · have := e1 i hi
          rw [he] at this
          simp at this
        · have : 0 ≤ colI aggT.at_ 4 s := by
            apply Classical.byContradiction
            intro hn
            apply e1
            intro j hj
            cases hj2 : ((aggT.at_ j).toList == s.toList) with
            | false => rfl
            | true => exact absurd h (colI_in hj hj2)
          omega
      unfold aggB at e
      have e := of_decide_eq_true e
      rcases e with e | e | e | e
      · exact hc 0 (by decide) e.symm
      · exact hc 1 (by decide) e.symm
      · exact hc 2 (by decide) e.symm
      · exact hc 3 (by decide) e.symm
  · rw [h, decide_eq_true (by omega)]
    have h2 := colI_at h
    symm
    unfold aggB
    apply decide_eq_true
    have : k = 0 ∨ k = 1 ∨ k = 2 ∨ k = 3 := by omega
    rcases this with rfl | rfl | rfl | rfl
    · exact .inl h2.symm
    · exact .inr (.inl h2.symm)
    · exact .inr (.inr (.inl h2.symm))
    · exact .inr (.inr (.inr h2.symm))
set_option maxHeartbeats 3200000 in
theorem opCols_2 (o : Opm) (a b : Txts) (ia oa pa ra qa ca ca' : Option Addr) (ic oc pc rcc qc ck ck' : Nat) (w : World) (hcs : StrsIs w (.slice oa o.cols.len oc) o.cols.len o.cols.at_) (hos : StrsIs w (.slice pa o.olds.len pc) o.olds.len o.olds.at_) (hrc : StrsIs w (.slice ra o.rc.len rcc) o.rc.len o.rc.at_) (hrr : RowsIs w (.slice qa o.rm qc) o.rm o.rr) (hf : OpFine o) (ha : StrsIs w (.slice ca a.len ck) a.len a.at_) (hb : StrsIs w (.slice ca' b.len ck') b.len b.at_) (hma : a.len ≤ 8) (hmb : b.len ≤ 8) (hT : Tabs w) (hk : o.kind = 2) :
    Calls Tryz.prog 14 #[.agg #[.int .i64 2, .slice ia o.nin ic, .string o.new, .slice oa o.cols.len oc, .slice pa o.olds.len pc, .string o.part, .string o.name, .int .i64 o.n, .int .i64 o.axis, .int .i64 o.tk, .string o.tn, .slice ra o.rc.len rcc, .slice qa o.rm qc], .slice ca a.len ck, .slice ca' b.len ck'] w fun e w' => OpR o a b w e w' := by
  have HOWN : ownF o = 0 := by unfold ownF; rw [hk]; rfl
  have hN : namB o a b = (decide (o.cols.len = o.olds.len) && allT a o.olds) := by unfold namB; rw [hk]; rfl
  have hO : outC o a b = o.cols := by unfold outC; rw [hk]; rfl
  have hE := opE_of (a := a) (b := b) HOWN
  rw [hN] at hE
  have CT1 : Hid (∀ W, Below w.heap.size w W → Calls Tryz.prog 17 #[.slice ca a.len ck, .slice pa o.olds.len pc] W fun e w' => e = .returned (.bool (allT a o.olds)) ∧ w' = W) := fun W hW => allThere_is _ _ a o.olds W (ha.below hW) (hos.below hW)
  cases c0 : (decide (o.cols.len = o.olds.len)) with
  | false =>
    have HE := hidK (show opE o a b = 9 by rw [hE]; simp [c0])
    have n1b : ¬ (o.cols.len : Int) = (o.olds.len : Int) := by have := of_decide_eq_false c0; omega
    clear hE hN hO HOWN c0
    clear hcs hos hrc hrr hf ha hb hT hk hma hmb
    go_enter Tryz.func14, Tryz.ntmps14
    go_wp2
    refine bodyPost_ret (v := .tuple #[.slice none 0 0, .int .i64 9]) (by simp [results, Tryz.results14, go_sem] <;> omega) rfl (OpR.bad HE.out (by decide) ?_)
    (focus (repeat (first | exact Below.refl _ _ | exact Hid.out (by assumption) | refine Below.setCell ?_ (by first | omega | (simp <;> omega)) _ | refine Below.alloc ?_ (by first | omega | (simp <;> omega)) _)))
  | true =>
    cases c1 : (allT a o.olds) with
    | false =>
      have HE := hidK (show opE o a b = 9 by rw [hE]; simp [c0, c1])
      have n1b : (o.cols.len : Int) = (o.olds.len : Int) := by have := of_decide_eq_true c0; omega
      rw [c1] at CT1
      clear hE hN hO HOWN c0 c1
      clear hcs hos hrc hrr hf ha hb hT hk hma hmb
      go_enter Tryz.func14, Tryz.ntmps14
      go_wp2_with (first
        | (go_at_call 17; refine (CT1.out _ ?_).mono ?_; (· (focus (repeat (first | exact Below.refl _ _ | exact Hid.out (by assumption) | refine Below.setCell ?_ (by first | omega | (simp <;> omega)) _ | refine Below.alloc ?_ (by first | omega | (simp <;> omega)) _)))); rintro e w' ⟨rfl, hww⟩; obtain rfl := hww.symm; clear hww CT1)
        | fail)
      refine bodyPost_ret (v := .tuple #[.slice none 0 0, .int .i64 9]) (by simp [results, Tryz.results14, go_sem] <;> omega) rfl (OpR.bad HE.out (by decide) ?_)
      (focus (repeat (first | exact Below.refl _ _ | exact Hid.out (by assumption) | refine Below.setCell ?_ (by first | omega | (simp <;> omega)) _ | refine Below.alloc ?_ (by first | omega | (simp <;> omega)) _)))
    | true =>
      have HE := hidK (show opE o a b = 0 by rw [hE]; simp [c0, c1])
      have n1b : (o.cols.len : Int) = (o.olds.len : Int) := by have := of_decide_eq_true c0; omega
      rw [c1] at CT1
      have HO := hidK hO
      clear hE hN hO HOWN c0 c1
      have HRES : Hid (∀ W, Below w.heap.size w W → StrsIs W (.slice oa o.cols.len oc) (o.cols).len (o.cols).at_) := fun W hW => hcs.below hW
      clear hcs hos hrc hrr hf ha hb hT hk hma hmb
      go_enter Tryz.func14, Tryz.ntmps14
      go_wp2_with (first
        | (go_at_call 17; refine (CT1.out _ ?_).mono ?_; (· (focus (repeat (first | exact Below.refl _ _ | exact Hid.out (by assumption) | refine Below.setCell ?_ (by first | omega | (simp <;> omega)) _ | refine Below.alloc ?_ (by first | omega | (simp <;> omega)) _)))); rintro e w' ⟨rfl, hww⟩; obtain rfl := hww.symm; clear hww CT1)
        | fail)
      refine bodyPost_ret (v := .tuple #[.slice oa o.cols.len oc, .int .i64 0]) (by simp [results, Tryz.results14, go_sem] <;> omega) rfl ?_
      have hb9 : Below w.heap.size w (w.alloc (.cells #[.int .i64 2, .slice ia o.nin ic, .string o.new, .slice oa o.cols.len oc, .slice pa o.olds.len pc, .string o.part, .string o.name, .int .i64 o.n, .int .i64 o.axis, .int .i64 o.tk, .string o.tn, .slice ra o.rc.len rcc, .slice qa o.rm qc] 42)) := (Below.refl _ _).alloc (Nat.le_refl _) _
      refine ⟨_, by rw [HE.out], fun _ => ⟨_, _, by rw [HO.out], ?_⟩, ?_⟩
      · rw [HO.out]
        refine HRES.out _ ?_
        (focus (repeat (first | exact Below.refl _ _ | exact Hid.out (by assumption) | refine Below.setCell ?_ (by first | omega | (simp <;> omega)) _ | refine Below.alloc ?_ (by first | omega | (simp <;> omega)) _)))
      · (focus (repeat (first | exact Below.refl _ _ | exact Hid.out (by assumption) | refine Below.setCell ?_ (by first | omega | (simp <;> omega)) _ | refine Below.alloc ?_ (by first | omega | (simp <;> omega)) _)))
set_option maxHeartbeats 3200000 in
theorem opCols_3 (o : Opm) (a b : Txts) (ia oa pa ra qa ca ca' : Option Addr) (ic oc pc rcc qc ck ck' : Nat) (w : World) (hcs : StrsIs w (.slice oa o.cols.len oc) o.cols.len o.cols.at_) (hos : StrsIs w (.slice pa o.olds.len pc) o.olds.len o.olds.at_) (hrc : StrsIs w (.slice ra o.rc.len rcc) o.rc.len o.rc.at_) (hrr : RowsIs w (.slice qa o.rm qc) o.rm o.rr) (hf : OpFine o) (ha : StrsIs w (.slice ca a.len ck) a.len a.at_) (hb : StrsIs w (.slice ca' b.len ck') b.len b.at_) (hma : a.len ≤ 8) (hmb : b.len ≤ 8) (hT : Tabs w) (hk : o.kind = 3) :
    Calls Tryz.prog 14 #[.agg #[.int .i64 3, .slice ia o.nin ic, .string o.new, .slice oa o.cols.len oc, .slice pa o.olds.len pc, .string o.part, .string o.name, .int .i64 o.n, .int .i64 o.axis, .int .i64 o.tk, .string o.tn, .slice ra o.rc.len rcc, .slice qa o.rm qc], .slice ca a.len ck, .slice ca' b.len ck'] w fun e w' => OpR o a b w e w' := by
  have HOWN : ownF o = 0 := by unfold ownF; rw [hk]; rfl
  have hN : namB o a b = (decide (o.cols.len = 1) && cnB a (o.cols.at_ 0)) := by unfold namB; rw [hk]; rfl
  have hO : outC o a b = a := by unfold outC; rw [hk]; rfl
  have hE := opE_of (a := a) (b := b) HOWN
  rw [hN] at hE
  have CT1 : Hid (∀ W, Below w.heap.size w W → Calls Tryz.prog 17 #[.slice ca a.len ck, .slice oa o.cols.len oc] W fun e w' => e = .returned (.bool (allT a o.cols)) ∧ w' = W) := fun W hW => allThere_is _ _ a o.cols W (ha.below hW) (hcs.below hW)
  cases c0 : (decide (o.cols.len = 1)) with
  | false =>
    have HE := hidK (show opE o a b = 9 by rw [hE]; simp [c0])
    have n1b : ¬ (o.cols.len : Int) = 1 := by have := of_decide_eq_false c0; omega
    clear hE hN hO HOWN c0
    clear hcs hos hrc hrr hf ha hb hT hk hma hmb
    go_enter Tryz.func14, Tryz.ntmps14
    go_wp2
    refine bodyPost_ret (v := .tuple #[.slice none 0 0, .int .i64 9]) (by simp [results, Tryz.results14, go_sem] <;> omega) rfl (OpR.bad HE.out (by decide) ?_)
    (focus (repeat (first | exact Below.refl _ _ | exact Hid.out (by assumption) | refine Below.setCell ?_ (by first | omega | (simp <;> omega)) _ | refine Below.alloc ?_ (by first | omega | (simp <;> omega)) _)))
  | true =>
    cases c1 : (cnB a (o.cols.at_ 0)) with
    | false =>
      have HE := hidK (show opE o a b = 9 by rw [hE]; simp [c0, c1])
      have n1b : (o.cols.len : Int) = 1 := by have := of_decide_eq_true c0; omega
      rw [allT_one (a := a) (l := o.cols) (of_decide_eq_true c0), c1] at CT1
      clear hE hN hO HOWN c0 c1
      clear hcs hos hrc hrr hf ha hb hT hk hma hmb
      go_enter Tryz.func14, Tryz.ntmps14
      go_wp2_with (first
        | (go_at_call 17; refine (CT1.out _ ?_).mono ?_; (· (focus (repeat (first | exact Below.refl _ _ | exact Hid.out (by assumption) | refine Below.setCell ?_ (by first | omega | (simp <;> omega)) _ | refine Below.alloc ?_ (by first | omega | (simp <;> omega)) _)))); rintro e w' ⟨rfl, hww⟩; obtain rfl := hww.symm; clear hww CT1)
        | fail)
      refine bodyPost_ret (v := .tuple #[.slice none 0 0, .int .i64 9]) (by simp [results, Tryz.results14, go_sem] <;> omega) rfl (OpR.bad HE.out (by decide) ?_)
      (focus (repeat (first | exact Below.refl _ _ | exact Hid.out (by assumption) | refine Below.setCell ?_ (by first | omega | (simp <;> omega)) _ | refine Below.alloc ?_ (by first | omega | (simp <;> omega)) _)))
    | true =>
      have HE := hidK (show opE o a b = 0 by rw [hE]; simp [c0, c1])
      have n1b : (o.cols.len : Int) = 1 := by have := of_decide_eq_true c0; omega
      rw [allT_one (a := a) (l := o.cols) (of_decide_eq_true c0), c1] at CT1
      have HO := hidK hO
      clear hE hN hO HOWN c0 c1
      have HRES : Hid (∀ W, Below w.heap.size w W → StrsIs W (.slice ca a.len ck) (a).len (a).at_) := fun W hW => ha.below hW
      clear hcs hos hrc hrr hf ha hb hT hk hma hmb
      go_enter Tryz.func14, Tryz.ntmps14
      go_wp2_with (first
        | (go_at_call 17; refine (CT1.out _ ?_).mono ?_; (· (focus (repeat (first | exact Below.refl _ _ | exact Hid.out (by assumption) | refine Below.setCell ?_ (by first | omega | (simp <;> omega)) _ | refine Below.alloc ?_ (by first | omega | (simp <;> omega)) _)))); rintro e w' ⟨rfl, hww⟩; obtain rfl := hww.symm; clear hww CT1)
        | fail)
      refine bodyPost_ret (v := .tuple #[.slice ca a.len ck, .int .i64 0]) (by simp [results, Tryz.results14, go_sem] <;> omega) rfl ?_
      have hb9 : Below w.heap.size w (w.alloc (.cells #[.int .i64 3, .slice ia o.nin ic, .string o.new, .slice oa o.cols.len oc, .slice pa o.olds.len pc, .string o.part, .string o.name, .int .i64 o.n, .int .i64 o.axis, .int .i64 o.tk, .string o.tn, .slice ra o.rc.len rcc, .slice qa o.rm qc] 42)) := (Below.refl _ _).alloc (Nat.le_refl _) _
      refine ⟨_, by rw [HE.out], fun _ => ⟨_, _, by rw [HO.out], ?_⟩, ?_⟩
      · rw [HO.out]
        refine HRES.out _ ?_
        (focus (repeat (first | exact Below.refl _ _ | exact Hid.out (by assumption) | refine Below.setCell ?_ (by first | omega | (simp <;> omega)) _ | refine Below.alloc ?_ (by first | omega | (simp <;> omega)) _)))
      · (focus (repeat (first | exact Below.refl _ _ | exact Hid.out (by assumption) | refine Below.setCell ?_ (by first | omega | (simp <;> omega)) _ | refine Below.alloc ?_ (by first | omega | (simp <;> omega)) _)))
set_option maxHeartbeats 3200000 in
theorem opCols_4 (o : Opm) (a b : Txts) (ia oa pa ra qa ca ca' : Option Addr) (ic oc pc rcc qc ck ck' : Nat) (w : World) (hcs : StrsIs w (.slice oa o.cols.len oc) o.cols.len o.cols.at_) (hos : StrsIs w (.slice pa o.olds.len pc) o.olds.len o.olds.at_) (hrc : StrsIs w (.slice ra o.rc.len rcc) o.rc.len o.rc.at_) (hrr : RowsIs w (.slice qa o.rm qc) o.rm o.rr) (hf : OpFine o) (ha : StrsIs w (.slice ca a.len ck) a.len a.at_) (hb : StrsIs w (.slice ca' b.len ck') b.len b.at_) (hma : a.len ≤ 8) (hmb : b.len ≤ 8) (hT : Tabs w) (hk : o.kind = 4) :
    Calls Tryz.prog 14 #[.agg #[.int .i64 4, .slice ia o.nin ic, .string o.new, .slice oa o.cols.len oc, .slice pa o.olds.len pc, .string o.part, .string o.name, .int .i64 o.n, .int .i64 o.axis, .int .i64 o.tk, .string o.tn, .slice ra o.rc.len rcc, .slice qa o.rm qc], .slice ca a.len ck, .slice ca' b.len ck'] w fun e w' => OpR o a b w e w' := by
  have HOWN : ownF o = 0 := by unfold ownF; rw [hk]; rfl
  have hN : namB o a b = (decide (o.cols.len = 2) && (cnB a (o.cols.at_ 0) && cnB b (o.cols.at_ 1))) := by unfold namB; rw [hk]; rfl
  have hO : outC o a b = appS a b := by unfold outC; rw [hk]; rfl
  have hE := opE_of (a := a) (b := b) HOWN
  rw [hN] at hE
  have CH1 : Hid (∀ W, Below w.heap.size w W → Calls Tryz.prog 73 #[.slice ca a.len ck, .string (o.cols.at_ 0)] W fun e w' => e = .returned (.bool (cnB a (o.cols.at_ 0))) ∧ w' = W) := fun W hW => hasTxt_is _ _ _ _ W (ha.below hW)
  have CH2 : Hid (∀ W, Below w.heap.size w W → Calls Tryz.prog 73 #[.slice ca' b.len ck', .string (o.cols.at_ 1)] W fun e w' => e = .returned (.bool (cnB b (o.cols.at_ 1))) ∧ w' = W) := fun W hW => hasTxt_is _ _ _ _ W (hb.below hW)
  have CX : Hid (∀ W bb x, Below w.heap.size w W → W.cell? ⟨bb, 0, none⟩ = some (.slice ca a.len ck) → W.cell? ⟨bb, 1, none⟩ = some x → StrsIs W x (b).len (b).at_ → bb < W.heap.size → Calls Tryz.prog 16 #[.slice (some ⟨bb, 0, none⟩) 2 2] W fun e w' => (∃ x y, e = .returned (.slice x (appS a (b)).len y) ∧ StrsIs w' (.slice x (appS a (b)).len y) (appS a (b)).len (appS a (b)).at_) ∧ Below W.heap.size W w') := fun W bb x hW k0 k1 hx hbb => (texts_two bb 0 2 _ _ a (b) W (Nat.le_refl _) (by unfold maxLen; omega) hbb k0 k1 (ha.below hW) hx (by show (a.len + (b).len) * 16 ≤ _; omega)).mono (by
    rintro e w' ⟨u, rfl, h1, ⟨x, y, rfl⟩, h2⟩
    exact ⟨⟨x, y, rfl, h1.is⟩, h2⟩)
  have HBS : Hid (∀ W, Below w.heap.size w W → StrsIs W (.slice ca' b.len ck') b.len b.at_) := fun W hW => hb.below hW
  cases c0 : (decide (o.cols.len = 2)) with
  | false =>
    have HE := hidK (show opE o a b = 9 by rw [hE]; simp [c0])
    have n1b : ¬ (o.cols.len : Int) = 2 := by have := of_decide_eq_false c0; omega
    clear hE hN hO HOWN c0
    clear hcs hos hrc hrr hf ha hb hT hk hma hmb
    go_enter Tryz.func14, Tryz.ntmps14
    go_wp2
    refine bodyPost_ret (v := .tuple #[.slice none 0 0, .int .i64 9]) (by simp [results, Tryz.results14, go_sem] <;> omega) rfl (OpR.bad HE.out (by decide) ?_)
    (focus (repeat (first | exact Below.refl _ _ | exact Hid.out (by assumption) | refine Below.setCell ?_ (by first | omega | (simp <;> omega)) _ | refine Below.alloc ?_ (by first | omega | (simp <;> omega)) _)))
  | true =>
    cases c1 : (cnB a (o.cols.at_ 0)) with
    | false =>
      have HE := hidK (show opE o a b = 9 by rw [hE]; simp [c0, c1])
      have n1b : (o.cols.len : Int) = 2 := by have := of_decide_eq_true c0; omega
      have hcs2 := hcs
      obtain ⟨_, _, e0, _, _, _, hat⟩ := hcs2
      cases e0
      have hn0 := of_decide_eq_true c0
      obtain ⟨cb, co, rfl, hcb, hel⟩ := hat (by omega)
      have z0 : w.cell? ⟨cb, co, none⟩ = some (.string (o.cols.at_ 0)) := hel 0 (by omega)
      have hx0 : (0 : Int) < (o.cols.len : Int) := by omega
      have z1 : w.cell? ⟨cb, co + 1, none⟩ = some (.string (o.cols.at_ 1)) := hel 1 (by omega)
      have hx1 : (1 : Int) < (o.cols.len : Int) := by omega
      clear hat hel hn0
      rw [c1] at CH1
      clear hE hN hO HOWN c0 c1
      clear hcs hos hrc hrr hf ha hb hT hk hma hmb
      go_enter Tryz.func14, Tryz.ntmps14
      go_wp2_with (first
        | (go_at_call 73; refine (CH1.out _ ?_).mono ?_; (· (focus (repeat (first | exact Below.refl _ _ | exact Hid.out (by assumption) | refine Below.setCell ?_ (by first | omega | (simp <;> omega)) _ | refine Below.alloc ?_ (by first | omega | (simp <;> omega)) _)))); rintro e w' ⟨rfl, hww⟩; obtain rfl := hww.symm; clear hww CH1)
        | fail)
      refine bodyPost_ret (v := .tuple #[.slice none 0 0, .int .i64 9]) (by simp [results, Tryz.results14, go_sem] <;> omega) rfl (OpR.bad HE.out (by decide) ?_)
      (focus (repeat (first | exact Below.refl _ _ | exact Hid.out (by assumption) | refine Below.setCell ?_ (by first | omega | (simp <;> omega)) _ | refine Below.alloc ?_ (by first | omega | (simp <;> omega)) _)))
    | true =>
      cases c2 : (cnB b (o.cols.at_ 1)) with
      | false =>
        have HE := hidK (show opE o a b = 9 by rw [hE]; simp [c0, c1, c2])
        have n1b : (o.cols.len : Int) = 2 := by have := of_decide_eq_true c0; omega
        have hcs2 := hcs
        obtain ⟨_, _, e0, _, _, _, hat⟩ := hcs2
        cases e0
        have hn0 := of_decide_eq_true c0
        obtain ⟨cb, co, rfl, hcb, hel⟩ := hat (by omega)
        have z0 : w.cell? ⟨cb, co, none⟩ = some (.string (o.cols.at_ 0)) := hel 0 (by omega)
        have hx0 : (0 : Int) < (o.cols.len : Int) := by omega
        have z1 : w.cell? ⟨cb, co + 1, none⟩ = some (.string (o.cols.at_ 1)) := hel 1 (by omega)
        have hx1 : (1 : Int) < (o.cols.len : Int) := by omega
        clear hat hel hn0
        rw [c1] at CH1
        rw [c2] at CH2
        clear hE hN hO HOWN c0 c1 c2
        clear hcs hos hrc hrr hf ha hb hT hk hma hmb
        go_enter Tryz.func14, Tryz.ntmps14
        go_wp2_with (first
          | (go_at_call 73; refine (CH1.out _ ?_).mono ?_; (· (focus (repeat (first | exact Below.refl _ _ | exact Hid.out (by assumption) | refine Below.setCell ?_ (by first | omega | (simp <;> omega)) _ | refine Below.alloc ?_ (by first | omega | (simp <;> omega)) _)))); rintro e w' ⟨rfl, hww⟩; obtain rfl := hww.symm; clear hww CH1)
          | (go_at_call 73; refine (CH2.out _ ?_).mono ?_; (· (focus (repeat (first | exact Below.refl _ _ | exact Hid.out (by assumption) | refine Below.setCell ?_ (by first | omega | (simp <;> omega)) _ | refine Below.alloc ?_ (by first | omega | (simp <;> omega)) _)))); rintro e w' ⟨rfl, hww⟩; obtain rfl := hww.symm; clear hww CH2)
          | fail)
        refine bodyPost_ret (v := .tuple #[.slice none 0 0, .int .i64 9]) (by simp [results, Tryz.results14, go_sem] <;> omega) rfl (OpR.bad HE.out (by decide) ?_)
        (focus (repeat (first | exact Below.refl _ _ | exact Hid.out (by assumption) | refine Below.setCell ?_ (by first | omega | (simp <;> omega)) _ | refine Below.alloc ?_ (by first | omega | (simp <;> omega)) _)))
      | true =>
        have HE := hidK (show opE o a b = 0 by rw [hE]; simp [c0, c1, c2])
        have n1b : (o.cols.len : Int) = 2 := by have := of_decide_eq_true c0; omega
        have hcs2 := hcs
        obtain ⟨_, _, e0, _, _, _, hat⟩ := hcs2
        cases e0
        have hn0 := of_decide_eq_true c0
        obtain ⟨cb, co, rfl, hcb, hel⟩ := hat (by omega)
        have z0 : w.cell? ⟨cb, co, none⟩ = some (.string (o.cols.at_ 0)) := hel 0 (by omega)
        have hx0 : (0 : Int) < (o.cols.len : Int) := by omega
        have z1 : w.cell? ⟨cb, co + 1, none⟩ = some (.string (o.cols.at_ 1)) := hel 1 (by omega)
        have hx1 : (1 : Int) < (o.cols.len : Int) := by omega
        clear hat hel hn0
        rw [c1] at CH1
        rw [c2] at CH2
        have HO := hidK hO
        clear hE hN hO HOWN c0 c1 c2
        clear hcs hos hrc hrr hf ha hb hT hk hma hmb
        go_enter Tryz.func14, Tryz.ntmps14
        go_wp2_with (first
          | (go_at_call 73; refine (CH1.out _ ?_).mono ?_; (· (focus (repeat (first | exact Below.refl _ _ | exact Hid.out (by assumption) | refine Below.setCell ?_ (by first | omega | (simp <;> omega)) _ | refine Below.alloc ?_ (by first | omega | (simp <;> omega)) _)))); rintro e w' ⟨rfl, hww⟩; obtain rfl := hww.symm; clear hww CH1)
          | (go_at_call 73; refine (CH2.out _ ?_).mono ?_; (· (focus (repeat (first | exact Below.refl _ _ | exact Hid.out (by assumption) | refine Below.setCell ?_ (by first | omega | (simp <;> omega)) _ | refine Below.alloc ?_ (by first | omega | (simp <;> omega)) _)))); rintro e w' ⟨rfl, hww⟩; obtain rfl := hww.symm; clear hww CH2)
          | (go_at_call 16; refine (CX.out _ _ (.slice ca' b.len ck') ?_ ?_ ?_ ?_ ?_).mono ?_; (· (focus (repeat (first | exact Below.refl _ _ | exact Hid.out (by assumption) | refine Below.setCell ?_ (by first | omega | (simp <;> omega)) _ | refine Below.alloc ?_ (by first | omega | (simp <;> omega)) _)))); (· simp [go_sem]); (· simp [go_sem]); (· exact HBS.out _ (by (focus (repeat (first | exact Below.refl _ _ | exact Hid.out (by assumption) | refine Below.setCell ?_ (by first | omega | (simp <;> omega)) _ | refine Below.alloc ?_ (by first | omega | (simp <;> omega)) _))))); (· simp); rintro e w9 ⟨⟨x9, y9, rfl, hs9⟩, hb9⟩; have HS9 := hidK hs9; have HB9 : Hid (Below w.heap.size w w9) := Below.trans (by (focus (repeat (first | exact Below.refl _ _ | exact Hid.out (by assumption) | refine Below.setCell ?_ (by first | omega | (simp <;> omega)) _ | refine Below.alloc ?_ (by first | omega | (simp <;> omega)) _)))) (hb9.mono (by first | omega | (simp <;> omega))); clear hb9 hs9 CX)
          | fail)
        refine bodyPost_ret (v := .tuple #[.slice x9 (appS a (b)).len y9, .int .i64 0]) (by simp [results, Tryz.results14, go_sem] <;> omega) rfl ⟨_, by rw [HE.out], fun _ => ⟨_, _, by rw [HO.out], by rw [HO.out]; exact HS9.out⟩, HB9.out⟩
set_option maxHeartbeats 3200000 in
theorem opCols_5 (o : Opm) (a b : Txts) (ia oa pa ra qa ca ca' : Option Addr) (ic oc pc rcc qc ck ck' : Nat) (w : World) (hcs : StrsIs w (.slice oa o.cols.len oc) o.cols.len o.cols.at_) (hos : StrsIs w (.slice pa o.olds.len pc) o.olds.len o.olds.at_) (hrc : StrsIs w (.slice ra o.rc.len rcc) o.rc.len o.rc.at_) (hrr : RowsIs w (.slice qa o.rm qc) o.rm o.rr) (hf : OpFine o) (ha : StrsIs w (.slice ca a.len ck) a.len a.at_) (hb : StrsIs w (.slice ca' b.len ck') b.len b.at_) (hma : a.len ≤ 8) (hmb : b.len ≤ 8) (hT : Tabs w) (hk : o.kind = 5) :
    Calls Tryz.prog 14 #[.agg #[.int .i64 5, .slice ia o.nin ic, .string o.new, .slice oa o.cols.len oc, .slice pa o.olds.len pc, .string o.part, .string o.name, .int .i64 o.n, .int .i64 o.axis, .int .i64 o.tk, .string o.tn, .slice ra o.rc.len rcc, .slice qa o.rm qc], .slice ca a.len ck, .slice ca' b.len ck'] w fun e w' => OpR o a b w e w' := by
  have HOWN : ownF o = 0 := by unfold ownF; rw [hk]; rfl
  have hN : namB o a b = (true) := by unfold namB; rw [hk]; rfl
  have hO : outC o a b = appS a b := by unfold outC; rw [hk]; rfl
  have hE := opE_of (a := a) (b := b) HOWN
  rw [hN] at hE
  have CX : Hid (∀ W bb x, Below w.heap.size w W → W.cell? ⟨bb, 0, none⟩ = some (.slice ca a.len ck) → W.cell? ⟨bb, 1, none⟩ = some x → StrsIs W x (b).len (b).at_ → bb < W.heap.size → Calls Tryz.prog 16 #[.slice (some ⟨bb, 0, none⟩) 2 2] W fun e w' => (∃ x y, e = .returned (.slice x (appS a (b)).len y) ∧ StrsIs w' (.slice x (appS a (b)).len y) (appS a (b)).len (appS a (b)).at_) ∧ Below W.heap.size W w') := fun W bb x hW k0 k1 hx hbb => (texts_two bb 0 2 _ _ a (b) W (Nat.le_refl _) (by unfold maxLen; omega) hbb k0 k1 (ha.below hW) hx (by show (a.len + (b).len) * 16 ≤ _; omega)).mono (by
    rintro e w' ⟨u, rfl, h1, ⟨x, y, rfl⟩, h2⟩
    exact ⟨⟨x, y, rfl, h1.is⟩, h2⟩)
  have HBS : Hid (∀ W, Below w.heap.size w W → StrsIs W (.slice ca' b.len ck') b.len b.at_) := fun W hW => hb.below hW
  have HE := hidK (show opE o a b = 0 by rw [hE]; simp [])
  have HO := hidK hO
  clear hE hN hO HOWN 
  clear hcs hos hrc hrr hf ha hb hT hk hma hmb
  go_enter Tryz.func14, Tryz.ntmps14
  go_wp2_with (first
    | (go_at_call 16; refine (CX.out _ _ (.slice ca' b.len ck') ?_ ?_ ?_ ?_ ?_).mono ?_; (· (focus (repeat (first | exact Below.refl _ _ | exact Hid.out (by assumption) | refine Below.setCell ?_ (by first | omega | (simp <;> omega)) _ | refine Below.alloc ?_ (by first | omega | (simp <;> omega)) _)))); (· simp [go_sem]); (· simp [go_sem]); (· exact HBS.out _ (by (focus (repeat (first | exact Below.refl _ _ | exact Hid.out (by assumption) | refine Below.setCell ?_ (by first | omega | (simp <;> omega)) _ | refine Below.alloc ?_ (by first | omega | (simp <;> omega)) _))))); (· simp); rintro e w9 ⟨⟨x9, y9, rfl, hs9⟩, hb9⟩; have HS9 := hidK hs9; have HB9 : Hid (Below w.heap.size w w9) := Below.trans (by (focus (repeat (first | exact Below.refl _ _ | exact Hid.out (by assumption) | refine Below.setCell ?_ (by first | omega | (simp <;> omega)) _ | refine Below.alloc ?_ (by first | omega | (simp <;> omega)) _)))) (hb9.mono (by first | omega | (simp <;> omega))); clear hb9 hs9 CX)
    | fail)
  refine bodyPost_ret (v := .tuple #[.slice x9 (appS a (b)).len y9, .int .i64 0]) (by simp [results, Tryz.results14, go_sem] <;> omega) rfl ⟨_, by rw [HE.out], fun _ => ⟨_, _, by rw [HO.out], by rw [HO.out]; exact HS9.out⟩, HB9.out⟩
set_option maxHeartbeats 3200000 in
theorem opCols_7 (o : Opm) (a b : Txts) (ia oa pa ra qa ca ca' : Option Addr) (ic oc pc rcc qc ck ck' : Nat) (w : World) (hcs : StrsIs w (.slice oa o.cols.len oc) o.cols.len o.cols.at_) (hos : StrsIs w (.slice pa o.olds.len pc) o.olds.len o.olds.at_) (hrc : StrsIs w (.slice ra o.rc.len rcc) o.rc.len o.rc.at_) (hrr : RowsIs w (.slice qa o.rm qc) o.rm o.rr) (hf : OpFine o) (ha : StrsIs w (.slice ca a.len ck) a.len a.at_) (hb : StrsIs w (.slice ca' b.len ck') b.len b.at_) (hma : a.len ≤ 8) (hmb : b.len ≤ 8) (hT : Tabs w) (hk : o.kind = 7) :
    Calls Tryz.prog 14 #[.agg #[.int .i64 7, .slice ia o.nin ic, .string o.new, .slice oa o.cols.len oc, .slice pa o.olds.len pc, .string o.part, .string o.name, .int .i64 o.n, .int .i64 o.axis, .int .i64 o.tk, .string o.tn, .slice ra o.rc.len rcc, .slice qa o.rm qc], .slice ca a.len ck, .slice ca' b.len ck'] w fun e w' => OpR o a b w e w' := by
  have HOWN : ownF o = 0 := by unfold ownF; rw [hk]; rfl
  have hN : namB o a b = (allT a o.cols && allT b o.cols) := by unfold namB; rw [hk]; rfl
  have hO : outC o a b = a := by unfold outC; rw [hk]; rfl
  have hE := opE_of (a := a) (b := b) HOWN
  rw [hN] at hE
  have CT1 : Hid (∀ W, Below w.heap.size w W → Calls Tryz.prog 17 #[.slice ca a.len ck, .slice oa o.cols.len oc] W fun e w' => e = .returned (.bool (allT a o.cols)) ∧ w' = W) := fun W hW => allThere_is _ _ a o.cols W (ha.below hW) (hcs.below hW)
  have CT2 : Hid (∀ W, Below w.heap.size w W → Calls Tryz.prog 17 #[.slice ca' b.len ck', .slice oa o.cols.len oc] W fun e w' => e = .returned (.bool (allT b o.cols)) ∧ w' = W) := fun W hW => allThere_is _ _ b o.cols W (hb.below hW) (hcs.below hW)
  cases c0 : (allT a o.cols) with
  | false =>
    have HE := hidK (show opE o a b = 9 by rw [hE]; simp [c0])
    rw [c0] at CT1
    clear hE hN hO HOWN c0
    clear hcs hos hrc hrr hf ha hb hT hk hma hmb
    go_enter Tryz.func14, Tryz.ntmps14
    go_wp2_with (first
      | (go_at_call 17; refine (CT1.out _ ?_).mono ?_; (· (focus (repeat (first | exact Below.refl _ _ | exact Hid.out (by assumption) | refine Below.setCell ?_ (by first | omega | (simp <;> omega)) _ | refine Below.alloc ?_ (by first | omega | (simp <;> omega)) _)))); rintro e w' ⟨rfl, hww⟩; obtain rfl := hww.symm; clear hww CT1)
      | fail)
    refine bodyPost_ret (v := .tuple #[.slice none 0 0, .int .i64 9]) (by simp [results, Tryz.results14, go_sem] <;> omega) rfl (OpR.bad HE.out (by decide) ?_)
    (focus (repeat (first | exact Below.refl _ _ | exact Hid.out (by assumption) | refine Below.setCell ?_ (by first | omega | (simp <;> omega)) _ | refine Below.alloc ?_ (by first | omega | (simp <;> omega)) _)))
  | true =>
    cases c1 : (allT b o.cols) with
    | false =>
      have HE := hidK (show opE o a b = 9 by rw [hE]; simp [c0, c1])
      rw [c0] at CT1
      rw [c1] at CT2
      clear hE hN hO HOWN c0 c1
      clear hcs hos hrc hrr hf ha hb hT hk hma hmb
      go_enter Tryz.func14, Tryz.ntmps14
      go_wp2_with (first
        | (go_at_call 17; refine (CT1.out _ ?_).mono ?_; (· (focus (repeat (first | exact Below.refl _ _ | exact Hid.out (by assumption) | refine Below.setCell ?_ (by first | omega | (simp <;> omega)) _ | refine Below.alloc ?_ (by first | omega | (simp <;> omega)) _)))); rintro e w' ⟨rfl, hww⟩; obtain rfl := hww.symm; clear hww CT1)
        | (go_at_call 17; refine (CT2.out _ ?_).mono ?_; (· (focus (repeat (first | exact Below.refl _ _ | exact Hid.out (by assumption) | refine Below.setCell ?_ (by first | omega | (simp <;> omega)) _ | refine Below.alloc ?_ (by first | omega | (simp <;> omega)) _)))); rintro e w' ⟨rfl, hww⟩; obtain rfl := hww.symm; clear hww CT2)
        | fail)
      refine bodyPost_ret (v := .tuple #[.slice none 0 0, .int .i64 9]) (by simp [results, Tryz.results14, go_sem] <;> omega) rfl (OpR.bad HE.out (by decide) ?_)
      (focus (repeat (first | exact Below.refl _ _ | exact Hid.out (by assumption) | refine Below.setCell ?_ (by first | omega | (simp <;> omega)) _ | refine Below.alloc ?_ (by first | omega | (simp <;> omega)) _)))
    | true =>
      have HE := hidK (show opE o a b = 0 by rw [hE]; simp [c0, c1])
      rw [c0] at CT1
      rw [c1] at CT2
      have HO := hidK hO
      clear hE hN hO HOWN c0 c1
      have HRES : Hid (∀ W, Below w.heap.size w W → StrsIs W (.slice ca a.len ck) (a).len (a).at_) := fun W hW => ha.below hW
      clear hcs hos hrc hrr hf ha hb hT hk hma hmb
      go_enter Tryz.func14, Tryz.ntmps14
      go_wp2_with (first
        | (go_at_call 17; refine (CT1.out _ ?_).mono ?_; (· (focus (repeat (first | exact Below.refl _ _ | exact Hid.out (by assumption) | refine Below.setCell ?_ (by first | omega | (simp <;> omega)) _ | refine Below.alloc ?_ (by first | omega | (simp <;> omega)) _)))); rintro e w' ⟨rfl, hww⟩; obtain rfl := hww.symm; clear hww CT1)
        | (go_at_call 17; refine (CT2.out _ ?_).mono ?_; (· (focus (repeat (first | exact Below.refl _ _ | exact Hid.out (by assumption) | refine Below.setCell ?_ (by first | omega | (simp <;> omega)) _ | refine Below.alloc ?_ (by first | omega | (simp <;> omega)) _)))); rintro e w' ⟨rfl, hww⟩; obtain rfl := hww.symm; clear hww CT2)
        | fail)
      refine bodyPost_ret (v := .tuple #[.slice ca a.len ck, .int .i64 0]) (by simp [results, Tryz.results14, go_sem] <;> omega) rfl ?_
      have hb9 : Below w.heap.size w (w.alloc (.cells #[.int .i64 7, .slice ia o.nin ic, .string o.new, .slice oa o.cols.len oc, .slice pa o.olds.len pc, .string o.part, .string o.name, .int .i64 o.n, .int .i64 o.axis, .int .i64 o.tk, .string o.tn, .slice ra o.rc.len rcc, .slice qa o.rm qc] 42)) := (Below.refl _ _).alloc (Nat.le_refl _) _
      refine ⟨_, by rw [HE.out], fun _ => ⟨_, _, by rw [HO.out], ?_⟩, ?_⟩
      · rw [HO.out]
        refine HRES.out _ ?_
        (focus (repeat (first | exact Below.refl _ _ | exact Hid.out (by assumption) | refine Below.setCell ?_ (by first | omega | (simp <;> omega)) _ | refine Below.alloc ?_ (by first | omega | (simp <;> omega)) _)))
      · (focus (repeat (first | exact Below.refl _ _ | exact Hid.out (by assumption) | refine Below.setCell ?_ (by first | omega | (simp <;> omega)) _ | refine Below.alloc ?_ (by first | omega | (simp <;> omega)) _)))
set_option maxHeartbeats 3200000 in
theorem opCols_8 (o : Opm) (a b : Txts) (ia oa pa ra qa ca ca' : Option Addr) (ic oc pc rcc qc ck ck' : Nat) (w : World) (hcs : StrsIs w (.slice oa o.cols.len oc) o.cols.len o.cols.at_) (hos : StrsIs w (.slice pa o.olds.len pc) o.olds.len o.olds.at_) (hrc : StrsIs w (.slice ra o.rc.len rcc) o.rc.len o.rc.at_) (hrr : RowsIs w (.slice qa o.rm qc) o.rm o.rr) (hf : OpFine o) (ha : StrsIs w (.slice ca a.len ck) a.len a.at_) (hb : StrsIs w (.slice ca' b.len ck') b.len b.at_) (hma : a.len ≤ 8) (hmb : b.len ≤ 8) (hT : Tabs w) (hk : o.kind = 8) :
    Calls Tryz.prog 14 #[.agg #[.int .i64 8, .slice ia o.nin ic, .string o.new, .slice oa o.cols.len oc, .slice pa o.olds.len pc, .string o.part, .string o.name, .int .i64 o.n, .int .i64 o.axis, .int .i64 o.tk, .string o.tn, .slice ra o.rc.len rcc, .slice qa o.rm qc], .slice ca a.len ck, .slice ca' b.len ck'] w fun e w' => OpR o a b w e w' := by
  have HOWN : ownF o = 0 := by unfold ownF; rw [hk]; rfl
  have hN : namB o a b = (allT a o.cols) := by unfold namB; rw [hk]; rfl
  have hO : outC o a b = a := by unfold outC; rw [hk]; rfl
  have hE := opE_of (a := a) (b := b) HOWN
  rw [hN] at hE
  have CT1 : Hid (∀ W, Below w.heap.size w W → Calls Tryz.prog 17 #[.slice ca a.len ck, .slice oa o.cols.len oc] W fun e w' => e = .returned (.bool (allT a o.cols)) ∧ w' = W) := fun W hW => allThere_is _ _ a o.cols W (ha.below hW) (hcs.below hW)
  cases c0 : (allT a o.cols) with
  | false =>
    have HE := hidK (show opE o a b = 9 by rw [hE]; simp [c0])
    rw [c0] at CT1
    clear hE hN hO HOWN c0
    clear hcs hos hrc hrr hf ha hb hT hk hma hmb
    go_enter Tryz.func14, Tryz.ntmps14
    go_wp2_with (first
      | (go_at_call 17; refine (CT1.out _ ?_).mono ?_; (· (focus (repeat (first | exact Below.refl _ _ | exact Hid.out (by assumption) | refine Below.setCell ?_ (by first | omega | (simp <;> omega)) _ | refine Below.alloc ?_ (by first | omega | (simp <;> omega)) _)))); rintro e w' ⟨rfl, hww⟩; obtain rfl := hww.symm; clear hww CT1)
      | fail)
    refine bodyPost_ret (v := .tuple #[.slice none 0 0, .int .i64 9]) (by simp [results, Tryz.results14, go_sem] <;> omega) rfl (OpR.bad HE.out (by decide) ?_)
    (focus (repeat (first | exact Below.refl _ _ | exact Hid.out (by assumption) | refine Below.setCell ?_ (by first | omega | (simp <;> omega)) _ | refine Below.alloc ?_ (by first | omega | (simp <;> omega)) _)))
  | true =>
    have HE := hidK (show opE o a b = 0 by rw [hE]; simp [c0])
    rw [c0] at CT1
    have HO := hidK hO
    clear hE hN hO HOWN c0
    have HRES : Hid (∀ W, Below w.heap.size w W → StrsIs W (.slice ca a.len ck) (a).len (a).at_) := fun W hW => ha.below hW
    clear hcs hos hrc hrr hf ha hb hT hk hma hmb
    go_enter Tryz.func14, Tryz.ntmps14
    go_wp2_with (first
      | (go_at_call 17; refine (CT1.out _ ?_).mono ?_; (· (focus (repeat (first | exact Below.refl _ _ | exact Hid.out (by assumption) | refine Below.setCell ?_ (by first | omega | (simp <;> omega)) _ | refine Below.alloc ?_ (by first | omega | (simp <;> omega)) _)))); rintro e w' ⟨rfl, hww⟩; obtain rfl := hww.symm; clear hww CT1)
      | fail)
    refine bodyPost_ret (v := .tuple #[.slice ca a.len ck, .int .i64 0]) (by simp [results, Tryz.results14, go_sem] <;> omega) rfl ?_
    have hb9 : Below w.heap.size w (w.alloc (.cells #[.int .i64 8, .slice ia o.nin ic, .string o.new, .slice oa o.cols.len oc, .slice pa o.olds.len pc, .string o.part, .string o.name, .int .i64 o.n, .int .i64 o.axis, .int .i64 o.tk, .string o.tn, .slice ra o.rc.len rcc, .slice qa o.rm qc] 42)) := (Below.refl _ _).alloc (Nat.le_refl _) _
    refine ⟨_, by rw [HE.out], fun _ => ⟨_, _, by rw [HO.out], ?_⟩, ?_⟩
    · rw [HO.out]
      refine HRES.out _ ?_
      (focus (repeat (first | exact Below.refl _ _ | exact Hid.out (by assumption) | refine Below.setCell ?_ (by first | omega | (simp <;> omega)) _ | refine Below.alloc ?_ (by first | omega | (simp <;> omega)) _)))
    · (focus (repeat (first | exact Below.refl _ _ | exact Hid.out (by assumption) | refine Below.setCell ?_ (by first | omega | (simp <;> omega)) _ | refine Below.alloc ?_ (by first | omega | (simp <;> omega)) _)))
set_option maxHeartbeats 3200000 in
theorem opCols_15 (o : Opm) (a b : Txts) (ia oa pa ra qa ca ca' : Option Addr) (ic oc pc rcc qc ck ck' : Nat) (w : World) (hcs : StrsIs w (.slice oa o.cols.len oc) o.cols.len o.cols.at_) (hos : StrsIs w (.slice pa o.olds.len pc) o.olds.len o.olds.at_) (hrc : StrsIs w (.slice ra o.rc.len rcc) o.rc.len o.rc.at_) (hrr : RowsIs w (.slice qa o.rm qc) o.rm o.rr) (hf : OpFine o) (ha : StrsIs w (.slice ca a.len ck) a.len a.at_) (hb : StrsIs w (.slice ca' b.len ck') b.len b.at_) (hma : a.len ≤ 8) (hmb : b.len ≤ 8) (hT : Tabs w) (hk : o.kind = 15) :
    Calls Tryz.prog 14 #[.agg #[.int .i64 15, .slice ia o.nin ic, .string o.new, .slice oa o.cols.len oc, .slice pa o.olds.len pc, .string o.part, .string o.name, .int .i64 o.n, .int .i64 o.axis, .int .i64 o.tk, .string o.tn, .slice ra o.rc.len rcc, .slice qa o.rm qc], .slice ca a.len ck, .slice ca' b.len ck'] w fun e w' => OpR o a b w e w' := by
  have HOWN : ownF o = 0 := by unfold ownF; rw [hk]; rfl
  have hN : namB o a b = (allT a o.cols) := by unfold namB; rw [hk]; rfl
  have hO : outC o a b = a := by unfold outC; rw [hk]; rfl
  have hE := opE_of (a := a) (b := b) HOWN
  rw [hN] at hE
  have CT1 : Hid (∀ W, Below w.heap.size w W → Calls Tryz.prog 17 #[.slice ca a.len ck, .slice oa o.cols.len oc] W fun e w' => e = .returned (.bool (allT a o.cols)) ∧ w' = W) := fun W hW => allThere_is _ _ a o.cols W (ha.below hW) (hcs.below hW)
  cases c0 : (allT a o.cols) with
  | false =>
    have HE := hidK (show opE o a b = 9 by rw [hE]; simp [c0])
    rw [c0] at CT1
    clear hE hN hO HOWN c0
    clear hcs hos hrc hrr hf ha hb hT hk hma hmb
    go_enter Tryz.func14, Tryz.ntmps14
    go_wp2_with (first
      | (go_at_call 17; refine (CT1.out _ ?_).mono ?_; (· (focus (repeat (first | exact Below.refl _ _ | exact Hid.out (by assumption) | refine Below.setCell ?_ (by first | omega | (simp <;> omega)) _ | refine Below.alloc ?_ (by first | omega | (simp <;> omega)) _)))); rintro e w' ⟨rfl, hww⟩; obtain rfl := hww.symm; clear hww CT1)
      | fail)
    refine bodyPost_ret (v := .tuple #[.slice none 0 0, .int .i64 9]) (by simp [results, Tryz.results14, go_sem] <;> omega) rfl (OpR.bad HE.out (by decide) ?_)
    (focus (repeat (first | exact Below.refl _ _ | exact Hid.out (by assumption) | refine Below.setCell ?_ (by first | omega | (simp <;> omega)) _ | refine Below.alloc ?_ (by first | omega | (simp <;> omega)) _)))
  | true =>
    have HE := hidK (show opE o a b = 0 by rw [hE]; simp [c0])
    rw [c0] at CT1
    have HO := hidK hO
    clear hE hN hO HOWN c0
    have HRES : Hid (∀ W, Below w.heap.size w W → StrsIs W (.slice ca a.len ck) (a).len (a).at_) := fun W hW => ha.below hW
    clear hcs hos hrc hrr hf ha hb hT hk hma hmb
    go_enter Tryz.func14, Tryz.ntmps14
    go_wp2_with (first
      | (go_at_call 17; refine (CT1.out _ ?_).mono ?_; (· (focus (repeat (first | exact Below.refl _ _ | exact Hid.out (by assumption) | refine Below.setCell ?_ (by first | omega | (simp <;> omega)) _ | refine Below.alloc ?_ (by first | omega | (simp <;> omega)) _)))); rintro e w' ⟨rfl, hww⟩; obtain rfl := hww.symm; clear hww CT1)
      | fail)
    refine bodyPost_ret (v := .tuple #[.slice ca a.len ck, .int .i64 0]) (by simp [results, Tryz.results14, go_sem] <;> omega) rfl ?_
    have hb9 : Below w.heap.size w (w.alloc (.cells #[.int .i64 15, .slice ia o.nin ic, .string o.new, .slice oa o.cols.len oc, .slice pa o.olds.len pc, .string o.part, .string o.name, .int .i64 o.n, .int .i64 o.axis, .int .i64 o.tk, .string o.tn, .slice ra o.rc.len rcc, .slice qa o.rm qc] 42)) := (Below.refl _ _).alloc (Nat.le_refl _) _
    refine ⟨_, by rw [HE.out], fun _ => ⟨_, _, by rw [HO.out], ?_⟩, ?_⟩
    · rw [HO.out]
      refine HRES.out _ ?_
      (focus (repeat (first | exact Below.refl _ _ | exact Hid.out (by assumption) | refine Below.setCell ?_ (by first | omega | (simp <;> omega)) _ | refine Below.alloc ?_ (by first | omega | (simp <;> omega)) _)))
    · (focus (repeat (first | exact Below.refl _ _ | exact Hid.out (by assumption) | refine Below.setCell ?_ (by first | omega | (simp <;> omega)) _ | refine Below.alloc ?_ (by first | omega | (simp <;> omega)) _)))
end Go.Proofs.YtkcejelmohameaaGreatDoor
