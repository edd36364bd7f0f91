/-
  CONTRACTS of rel.Rank and of the document's answer RankedOf, where the relation or a column is refused.
-/
import Derived.Test.YtlblomlblibbdaaDoorRlRank
import Derived.Test.YtlblomlblibbdaaDoorRlPicks
import Derived.Test.YtlblomlblibbdaaDoorRlFound
import Derived.Test.YtlblomlblibbdaaDoorRlCols
import Derived.Sort.AtCall
set_option linter.unusedVariables false
namespace Go.Proofs.YtlblomlblibbdaaDoor
set_option maxRecDepth 100000
open Go.RowKit Go.WideShapes

set_option maxHeartbeats 1600000 in
theorem rank_bad (c q l : Value) (name part : ByteArray) (n m ko : Nat) (C O : Nat → ByteArray) (R : Nat → Row) (w : World) (hc : StrsIs w c n C) (hq : RowsIs w q m R) (hf : StrsFine n C) (hg : RowsFine m R) (hl : StrsIs w l ko O) (hfl : StrsFine ko O) (hT : Tabs w) (h0 : ¬ relF C n R m = 0) :
    Calls Tryd.prog 5 #[.agg #[c, q], .string name, l, .string part] w fun e w' => e = .returned (.tuple #[.agg #[.slice none 0 0, .slice none 0 0], .int .i64 (relF C n R m)]) ∧ Below w.heap.size w w' := by
  have HW : Hid (∀ {W : World} {o o' : Obj}, Below (w.heap.size + 2) ((w.alloc o).alloc o') W → Below w.heap.size w W) := fun h => (below_two _ _).trans (h.mono (by omega))
  have C1 : Hid (∀ o o', Calls Tryd.prog 8 #[.agg #[c, q]] ((w.alloc o).alloc o') fun e w' => e = .returned (.int .i64 (relF C n R m)) ∧ Below (w.heap.size + 2) ((w.alloc o).alloc o') w') := fun o o' => by
    have h := relCheck_is c q n m C R _ (hc.below (below_two o o')) (hq.below (below_two o o')) hf hg (Utf8Tabs_below hT (below_two o o'))
    rwa [show ((w.alloc o).alloc o').heap.size = w.heap.size + 2 by simp] at h
  obtain ⟨qa, qcap, rfl, _⟩ := hq
  obtain ⟨ca, ccap, rfl, _⟩ := hc
  obtain ⟨la, lcap, rfl, _⟩ := hl
  have h1 : (relF C n R m != 0) = true := by simpa using h0
  clear hf hg hT hfl h0
  generalize relF C n R m = G at *
  go_enter Tryd.func5, Tryd.ntmps5
  go_wp2_with (first | (go_at_call 8; refine (C1.out _ _).mono ?_; rintro e w1 ⟨rfl, hb1⟩; have HB1 : Hid (Below (w.heap.size + 2) ((w.alloc (.cells #[.slice ca n ccap, .slice qa m qcap] 25)).alloc (.cells #[.slice none 0 0, .slice none 0 0] 25)) w1) := hb1; obtain ⟨x0, x1, x2, x3, x4, x5, x6⟩ := box2r hb1; have x7 : w.heap.size < w1.heap.size := Nat.lt_of_succ_lt x6; clear hb1))
  exact bodyPost_ret (v := .tuple #[.agg #[.slice none 0 0, .slice none 0 0], .int .i64 G]) (by simp [results, Tryd.results5, go_sem, x2, x3]) rfl ⟨rfl, ((HW.out HB1.out).setCell (by simp <;> omega) _).setCell (by simp <;> omega) _⟩
set_option maxHeartbeats 1600000 in
theorem rank_cols (c q l : Value) (name part : ByteArray) (n m ko : Nat) (C O : Nat → ByteArray) (R : Nat → Row) (w : World) (hc : StrsIs w c n C) (hq : RowsIs w q m R) (hf : StrsFine n C) (hg : RowsFine m R) (hl : StrsIs w l ko O) (hfl : StrsFine ko O) (hT : Tabs w) (h0 : relF C n R m = 0) (hfo : foundB C n O ko = false) :
    Calls Tryd.prog 5 #[.agg #[c, q], .string name, l, .string part] w fun e w' => e = .returned (.tuple #[.agg #[.slice none 0 0, .slice none 0 0], .int .i64 9]) ∧ Below w.heap.size w w' := by
  have HW : Hid (∀ {W : World} {o o' : Obj}, Below (w.heap.size + 2) ((w.alloc o).alloc o') W → Below w.heap.size w W) := fun h => (below_two _ _).trans (h.mono (by omega))
  have C1 : Hid (∀ o o', Calls Tryd.prog 8 #[.agg #[c, q]] ((w.alloc o).alloc o') fun e w' => e = .returned (.int .i64 0) ∧ Below (w.heap.size + 2) ((w.alloc o).alloc o') w') := fun o o' => by
    have h := relCheck_is c q n m C R _ (hc.below (below_two o o')) (hq.below (below_two o o')) hf hg (Utf8Tabs_below hT (below_two o o'))
    rw [h0] at h
    rwa [show ((w.alloc o).alloc o').heap.size = w.heap.size + 2 by simp] at h
  obtain ⟨t, t1, t2, t3⟩ := found_no hfo
  have CC : Hid (∀ W, Below w.heap.size w W → Calls Tryd.prog 9 #[c, l] W fun e w' => e = .returned (.tuple #[.slice none 0 0, .int .i64 9]) ∧ Below W.heap.size W w') := fun W hW => columns_no c l n ko C O (prP C n O) W (hc.below hW) (hl.below hW) t t1 t3 t2 hfl.1
  obtain ⟨qa, qcap, rfl, _⟩ := hq
  obtain ⟨ca, ccap, rfl, _⟩ := hc
  obtain ⟨la, lcap, rfl, _⟩ := hl
  clear hf hg hT hfl h0 hfo t1 t2 t3
  go_enter Tryd.func5, Tryd.ntmps5
  go_wp2_with (first
    | (go_at_call 8; refine (C1.out _ _).mono ?_; rintro e w1 ⟨rfl, hb1⟩; have HB1 : Hid (Below (w.heap.size + 2) ((w.alloc (.cells #[.slice ca n ccap, .slice qa m qcap] 25)).alloc (.cells #[.slice none 0 0, .slice none 0 0] 25)) w1) := hb1; obtain ⟨x0, x1, x2, x3, x4, x5, x6⟩ := box2r hb1; have x7 : w.heap.size < w1.heap.size := Nat.lt_of_succ_lt x6; clear hb1)
    | (go_at_call 9; refine (CC.out _ (HW.out HB1.out)).mono ?_; rintro e w2 ⟨rfl, hb2⟩; have HB2 : Hid (Below (w.heap.size + 2) ((w.alloc (.cells #[.slice ca n ccap, .slice qa m qcap] 25)).alloc (.cells #[.slice none 0 0, .slice none 0 0] 25)) w2) := HB1.out.trans (hb2.mono (by omega)); clear x0 x1 x2 x3 x4 x5 x6 x7; obtain ⟨x0, x1, x2, x3, x4, x5, x6⟩ := box2r HB2.out; have x7 : w.heap.size < w2.heap.size := Nat.lt_of_succ_lt x6; clear hb2))
  exact bodyPost_ret (v := .tuple #[.agg #[.slice none 0 0, .slice none 0 0], .int .i64 9]) (by simp [results, Tryd.results5, go_sem, x2, x3]) rfl ⟨rfl, ((HW.out HB2.out).setCell (by simp <;> omega) _).setCell (by simp <;> omega) _⟩
set_option maxHeartbeats 1600000 in
theorem rank_pcol (c q l : Value) (name part : ByteArray) (n m ko : Nat) (C O : Nat → ByteArray) (R : Nat → Row) (w : World) (hc : StrsIs w c n C) (hq : RowsIs w q m R) (hf : StrsFine n C) (hg : RowsFine m R) (hl : StrsIs w l ko O) (hfl : StrsFine ko O) (hT : Tabs w) (h0 : relF C n R m = 0) (hfo : foundB C n O ko = true) (hpe : part.toList.isEmpty = false) (hcol : colI C n part = -1) :
    Calls Tryd.prog 5 #[.agg #[c, q], .string name, l, .string part] w fun e w' => e = .returned (.tuple #[.agg #[.slice none 0 0, .slice none 0 0], .int .i64 9]) ∧ Below w.heap.size w w' := by
  have HW : Hid (∀ {W : World} {o o' : Obj}, Below (w.heap.size + 2) ((w.alloc o).alloc o') W → Below w.heap.size w W) := fun h => (below_two _ _).trans (h.mono (by omega))
  have C1 : Hid (∀ o o', Calls Tryd.prog 8 #[.agg #[c, q]] ((w.alloc o).alloc o') fun e w' => e = .returned (.int .i64 0) ∧ Below (w.heap.size + 2) ((w.alloc o).alloc o') w') := fun o o' => by
    have h := relCheck_is c q n m C R _ (hc.below (below_two o o')) (hq.below (below_two o o')) hf hg (Utf8Tabs_below hT (below_two o o'))
    rw [h0] at h
    rwa [show ((w.alloc o).alloc o').heap.size = w.heap.size + 2 by simp] at h
  have CC : Hid (∀ W, Below w.heap.size w W → Calls Tryd.prog 9 #[c, l] W fun e w' => ∃ v, e = .returned (.tuple #[v, .int .i64 0]) ∧ (∃ a' c', v = .slice a' (keptN (firstB (prP C n O)) ko) c') ∧ Below W.heap.size W w') := fun W hW => (columns_yes c l n ko C O (prP C n O) W (hc.below hW) (hl.below hW) (fun i hi => (found_yes hfo i hi).1) hfl.1).mono fun e w' ⟨v, h1, _, h3, h4⟩ => ⟨v, h1, h3, h4⟩
  have CCOL : Hid (∀ W, Below w.heap.size w W → Calls Tryd.prog 11 #[c, .string part] W fun e w' => e = .returned (.tuple #[.int .i64 0, .int .i64 9]) ∧ w' = W) := fun W hW => by
    have h := column_is c n C part W (hc.below hW)
    unfold colV colF at h
    rwa [hcol, if_pos (by decide), if_pos (by decide)] at h
  have hmf : ∀ (fn : Fn) (first cap : Array Value) (w : World), (Instr.makeFunc fn first cap).run Tryd.prog w = .ok (.func fn first cap) w := fun _ _ _ _ => rfl
  obtain ⟨qa, qcap, rfl, _⟩ := hq
  obtain ⟨ca, ccap, rfl, _⟩ := hc
  obtain ⟨la, lcap, rfl, _⟩ := hl
  clear hf hg hT hfl h0 hfo hcol
  go_enter Tryd.func5, Tryd.ntmps5
  go_wp2_with (first
    | (go_at_call 8; refine (C1.out _ _).mono ?_; rintro e w1 ⟨rfl, hb1⟩; have HB1 : Hid (Below (w.heap.size + 2) ((w.alloc (.cells #[.slice ca n ccap, .slice qa m qcap] 25)).alloc (.cells #[.slice none 0 0, .slice none 0 0] 25)) w1) := hb1; obtain ⟨x0, x1, x2, x3, x4, x5, x6⟩ := box2r hb1; have x7 : w.heap.size < w1.heap.size := Nat.lt_of_succ_lt x6; clear hb1)
    | (go_at_call 9; refine (CC.out _ (HW.out HB1.out)).mono ?_; rintro e w2 ⟨v2, rfl, ⟨pa, pc, rfl⟩, hb2⟩; have HB2 : Hid (Below (w.heap.size + 2) ((w.alloc (.cells #[.slice ca n ccap, .slice qa m qcap] 25)).alloc (.cells #[.slice none 0 0, .slice none 0 0] 25)) w2) := HB1.out.trans (hb2.mono (by omega)); clear x0 x1 x2 x3 x4 x5 x6 x7; obtain ⟨x0, x1, x2, x3, x4, x5, x6⟩ := box2r HB2.out; have x7 : w.heap.size < w2.heap.size := Nat.lt_of_succ_lt x6; clear hb2)
    | (go_at_call 11; refine (CCOL.out _ (HW.out HB2.out)).mono ?_; rintro e w3 ⟨rfl, hw3⟩; obtain rfl := hw3.symm))
  refine bodyPost_ret (v := .tuple #[.agg #[.slice none 0 0, .slice none 0 0], .int .i64 9]) (by simp [results, Tryd.results5, go_sem, x2, x3, x6]) rfl ⟨rfl, ?_⟩
  exact (((HW.out HB2.out).setCell (by simp <;> omega) _).setCell (by simp <;> omega) _).alloc (by simp <;> omega) _
set_option maxHeartbeats 1600000 in
theorem ranked_bad (c q l : Value) (name part : ByteArray) (n m ko : Nat) (C O : Nat → ByteArray) (R : Nat → Row) (w : World) (hc : StrsIs w c n C) (hq : RowsIs w q m R) (hf : StrsFine n C) (hg : RowsFine m R) (hl : StrsIs w l ko O) (hfl : StrsFine ko O) (hT : Tabs w) (h0 : ¬ relF C n R m = 0) :
    Calls Tryd.prog 6 #[.agg #[c, q], .string name, l, .string part] w fun e w' => e = .returned (.tuple #[.agg #[.slice none 0 0, .slice none 0 0], .int .i64 (relF C n R m)]) ∧ Below w.heap.size w w' := by
  have HW : Hid (∀ {W : World} {o o' : Obj}, Below (w.heap.size + 2) ((w.alloc o).alloc o') W → Below w.heap.size w W) := fun h => (below_two _ _).trans (h.mono (by omega))
  have C1 : Hid (∀ o o', Calls Tryd.prog 19 #[.agg #[c, q]] ((w.alloc o).alloc o') fun e w' => e = .returned (.int .i64 (relF C n R m)) ∧ Below (w.heap.size + 2) ((w.alloc o).alloc o') w') := fun o o' => by
    have h := relFault_is c q n m C R _ (hc.below (below_two o o')) (hq.below (below_two o o')) hf hg (Utf8Tabs_below hT (below_two o o'))
    rwa [show ((w.alloc o).alloc o').heap.size = w.heap.size + 2 by simp] at h
  have hqs : ∃ a x, q = .slice a m x := by obtain ⟨a, x, e, _⟩ := hq; exact ⟨a, x, e⟩
  have CY : Hid ((∀ i, i < ko → colI C n (O i) = (prP C n O i : Int)) → ∀ W, Below w.heap.size w W → Calls Tryd.prog 20 #[.agg #[c, q], l] W fun e w' => ∃ v, e = .returned (.tuple #[v, .bool true]) ∧ IntsIs w' v ko (prP C n O) ∧ (∃ a' c', v = .slice a' ko c') ∧ Below W.heap.size W w') := fun hP W hW => colsAt_yes c q l n m ko C O (prP C n O) W (hc.below hW) hqs (hl.below hW) hP hfl.1
  have CN : Hid (∀ t, t < ko → (∀ i, i < t → colI C n (O i) = (prP C n O i : Int)) → colI C n (O t) = -1 → ∀ W, Below w.heap.size w W → Calls Tryd.prog 20 #[.agg #[c, q], l] W fun e w' => e = .returned (.tuple #[.slice none 0 0, .bool false]) ∧ Below W.heap.size W w') := fun t ht hP hN W hW => colsAt_no c q l n m ko C O (prP C n O) W (hc.below hW) hqs (hl.below hW) t ht hP hN hfl.1
  have CA : Hid (∀ W, Below w.heap.size w W → Calls Tryd.prog 20 #[.agg #[c, q], l] W fun e w' => ∃ a k x, e = .returned (.tuple #[.slice a k x, .bool (foundB C n O ko)]) ∧ Below W.heap.size W w') := fun W hW => by
    cases hfo : foundB C n O ko
    · obtain ⟨t, t1, t2, t3⟩ := found_no hfo
      exact (CN.out t t1 t3 t2 W hW).mono (fun e w' ⟨h3, h4⟩ => ⟨_, _, _, h3, h4⟩)
    · exact (CY.out (fun i hi => (found_yes hfo i hi).1) W hW).mono (fun e w' ⟨v, h3, _, ⟨a, x, h5⟩, h4⟩ => by subst h5; exact ⟨_, _, _, h3, h4⟩)
  have CL : Hid (∀ W, Below w.heap.size w W → Calls Tryd.prog 21 #[.agg #[c, q], .string part] W fun e w' => e = .returned (.int .i64 (colI C n part)) ∧ Below W.heap.size W w') := fun W hW => colAt_is c q n m C R part W (hc.below hW) hqs
  obtain ⟨qa, qcap, rfl, _⟩ := hq
  obtain ⟨ca, ccap, rfl, _⟩ := hc
  obtain ⟨la, lcap, rfl, _⟩ := hl
  have h1 : (relF C n R m != 0) = true := by simpa using h0
  have h2 : (relF C n R m == 0) = false := by simpa using h0
  clear hf hg hT hfl h0 hqs CY CN
  generalize relF C n R m = G at *
  generalize foundB C n O ko = fb at *
  generalize colI C n part = J at *
  go_enter Tryd.func6, Tryd.ntmps6
  go_wp2_with (first
    | (go_at_call 19; refine (C1.out _ _).mono ?_; rintro e w1 ⟨rfl, hb1⟩; have HB1 : Hid (Below (w.heap.size + 2) ((w.alloc (.cells #[.slice ca n ccap, .slice qa m qcap] 25)).alloc (.cells #[.slice none 0 0, .slice none 0 0] 25)) w1) := hb1; obtain ⟨x0, x1, x2, x3, x4, x5, x6⟩ := box2r hb1; have x7 : w.heap.size < w1.heap.size := Nat.lt_of_succ_lt x6; clear hb1)
    | (go_at_call 20; refine (CA.out _ (HW.out HB1.out)).mono ?_; rintro e w2 ⟨pa, pk, pc, rfl, hb2⟩; have HB2 : Hid (Below (w.heap.size + 2) ((w.alloc (.cells #[.slice ca n ccap, .slice qa m qcap] 25)).alloc (.cells #[.slice none 0 0, .slice none 0 0] 25)) w2) := HB1.out.trans (hb2.mono (by omega)); clear x0 x1 x2 x3 x4 x5 x6 x7; obtain ⟨x0, x1, x2, x3, x4, x5, x6⟩ := box2r HB2.out; have x7 : w.heap.size < w2.heap.size := Nat.lt_of_succ_lt x6; clear hb2)
    | (go_at_call 21; refine (CL.out _ (HW.out HB2.out)).mono ?_; rintro e w3 ⟨rfl, hb3⟩; have HB3 : Hid (Below (w.heap.size + 2) ((w.alloc (.cells #[.slice ca n ccap, .slice qa m qcap] 25)).alloc (.cells #[.slice none 0 0, .slice none 0 0] 25)) w3) := HB2.out.trans (hb3.mono (by omega)); clear x0 x1 x2 x3 x4 x5 x6 x7; obtain ⟨x0, x1, x2, x3, x4, x5, x6⟩ := box2r HB3.out; have x7 : w.heap.size < w3.heap.size := Nat.lt_of_succ_lt x6; clear hb3))
  exact bodyPost_ret (v := .tuple #[.agg #[.slice none 0 0, .slice none 0 0], .int .i64 G]) (by simp [results, Tryd.results6, go_sem, x2, x3]) rfl ⟨rfl, ((HW.out HB3.out).setCell (by simp <;> omega) _).setCell (by simp <;> omega) _⟩
set_option maxHeartbeats 1600000 in
theorem ranked_cols (c q l : Value) (name part : ByteArray) (n m ko : Nat) (C O : Nat → ByteArray) (R : Nat → Row) (w : World) (hc : StrsIs w c n C) (hq : RowsIs w q m R) (hf : StrsFine n C) (hg : RowsFine m R) (hl : StrsIs w l ko O) (hfl : StrsFine ko O) (hT : Tabs w) (h0 : relF C n R m = 0) (hfo : foundB C n O ko = false) :
    Calls Tryd.prog 6 #[.agg #[c, q], .string name, l, .string part] w fun e w' => e = .returned (.tuple #[.agg #[.slice none 0 0, .slice none 0 0], .int .i64 9]) ∧ Below w.heap.size w w' := by
  have HW : Hid (∀ {W : World} {o o' : Obj}, Below (w.heap.size + 2) ((w.alloc o).alloc o') W → Below w.heap.size w W) := fun h => (below_two _ _).trans (h.mono (by omega))
  have C1 : Hid (∀ o o', Calls Tryd.prog 19 #[.agg #[c, q]] ((w.alloc o).alloc o') fun e w' => e = .returned (.int .i64 0) ∧ Below (w.heap.size + 2) ((w.alloc o).alloc o') w') := fun o o' => by
    have h := relFault_is c q n m C R _ (hc.below (below_two o o')) (hq.below (below_two o o')) hf hg (Utf8Tabs_below hT (below_two o o'))
    rw [h0] at h
    rwa [show ((w.alloc o).alloc o').heap.size = w.heap.size + 2 by simp] at h
  have hqs : ∃ a x, q = .slice a m x := by obtain ⟨a, x, e, _⟩ := hq; exact ⟨a, x, e⟩
  have CY : Hid ((∀ i, i < ko → colI C n (O i) = (prP C n O i : Int)) → ∀ W, Below w.heap.size w W → Calls Tryd.prog 20 #[.agg #[c, q], l] W fun e w' => ∃ v, e = .returned (.tuple #[v, .bool true]) ∧ IntsIs w' v ko (prP C n O) ∧ (∃ a' c', v = .slice a' ko c') ∧ Below W.heap.size W w') := fun hP W hW => colsAt_yes c q l n m ko C O (prP C n O) W (hc.below hW) hqs (hl.below hW) hP hfl.1
  have CN : Hid (∀ t, t < ko → (∀ i, i < t → colI C n (O i) = (prP C n O i : Int)) → colI C n (O t) = -1 → ∀ W, Below w.heap.size w W → Calls Tryd.prog 20 #[.agg #[c, q], l] W fun e w' => e = .returned (.tuple #[.slice none 0 0, .bool false]) ∧ Below W.heap.size W w') := fun t ht hP hN W hW => colsAt_no c q l n m ko C O (prP C n O) W (hc.below hW) hqs (hl.below hW) t ht hP hN hfl.1
  have CA : Hid (∀ W, Below w.heap.size w W → Calls Tryd.prog 20 #[.agg #[c, q], l] W fun e w' => ∃ a k x, e = .returned (.tuple #[.slice a k x, .bool (foundB C n O ko)]) ∧ Below W.heap.size W w') := fun W hW => by
    cases hfo : foundB C n O ko
    · obtain ⟨t, t1, t2, t3⟩ := found_no hfo
      exact (CN.out t t1 t3 t2 W hW).mono (fun e w' ⟨h3, h4⟩ => ⟨_, _, _, h3, h4⟩)
    · exact (CY.out (fun i hi => (found_yes hfo i hi).1) W hW).mono (fun e w' ⟨v, h3, _, ⟨a, x, h5⟩, h4⟩ => by subst h5; exact ⟨_, _, _, h3, h4⟩)
  have CL : Hid (∀ W, Below w.heap.size w W → Calls Tryd.prog 21 #[.agg #[c, q], .string part] W fun e w' => e = .returned (.int .i64 (colI C n part)) ∧ Below W.heap.size W w') := fun W hW => colAt_is c q n m C R part W (hc.below hW) hqs
  obtain ⟨qa, qcap, rfl, _⟩ := hq
  obtain ⟨ca, ccap, rfl, _⟩ := hc
  obtain ⟨la, lcap, rfl, _⟩ := hl
  rw [hfo] at CA
  clear hf hg hT hfl h0 hqs CY CN hfo
  generalize colI C n part = J at *
  go_enter Tryd.func6, Tryd.ntmps6
  go_wp2_with (first
    | (go_at_call 19; refine (C1.out _ _).mono ?_; rintro e w1 ⟨rfl, hb1⟩; have HB1 : Hid (Below (w.heap.size + 2) ((w.alloc (.cells #[.slice ca n ccap, .slice qa m qcap] 25)).alloc (.cells #[.slice none 0 0, .slice none 0 0] 25)) w1) := hb1; obtain ⟨x0, x1, x2, x3, x4, x5, x6⟩ := box2r hb1; have x7 : w.heap.size < w1.heap.size := Nat.lt_of_succ_lt x6; clear hb1)
    | (go_at_call 20; refine (CA.out _ (HW.out HB1.out)).mono ?_; rintro e w2 ⟨pa, pk, pc, rfl, hb2⟩; have HB2 : Hid (Below (w.heap.size + 2) ((w.alloc (.cells #[.slice ca n ccap, .slice qa m qcap] 25)).alloc (.cells #[.slice none 0 0, .slice none 0 0] 25)) w2) := HB1.out.trans (hb2.mono (by omega)); clear x0 x1 x2 x3 x4 x5 x6 x7; obtain ⟨x0, x1, x2, x3, x4, x5, x6⟩ := box2r HB2.out; have x7 : w.heap.size < w2.heap.size := Nat.lt_of_succ_lt x6; clear hb2)
    | (go_at_call 21; refine (CL.out _ (HW.out HB2.out)).mono ?_; rintro e w3 ⟨rfl, hb3⟩; have HB3 : Hid (Below (w.heap.size + 2) ((w.alloc (.cells #[.slice ca n ccap, .slice qa m qcap] 25)).alloc (.cells #[.slice none 0 0, .slice none 0 0] 25)) w3) := HB2.out.trans (hb3.mono (by omega)); clear x0 x1 x2 x3 x4 x5 x6 x7; obtain ⟨x0, x1, x2, x3, x4, x5, x6⟩ := box2r HB3.out; have x7 : w.heap.size < w3.heap.size := Nat.lt_of_succ_lt x6; clear hb3))
  exact bodyPost_ret (v := .tuple #[.agg #[.slice none 0 0, .slice none 0 0], .int .i64 9]) (by simp [results, Tryd.results6, go_sem, x2, x3]) rfl ⟨rfl, ((HW.out HB3.out).setCell (by simp <;> omega) _).setCell (by simp <;> omega) _⟩
set_option maxHeartbeats 1600000 in
theorem ranked_pcol (c q l : Value) (name part : ByteArray) (n m ko : Nat) (C O : Nat → ByteArray) (R : Nat → Row) (w : World) (hc : StrsIs w c n C) (hq : RowsIs w q m R) (hf : StrsFine n C) (hg : RowsFine m R) (hl : StrsIs w l ko O) (hfl : StrsFine ko O) (hT : Tabs w) (h0 : relF C n R m = 0) (hfo : foundB C n O ko = true) (hpe : part.toList.isEmpty = false) (hcol : colI C n part = -1) :
    Calls Tryd.prog 6 #[.agg #[c, q], .string name, l, .string part] w fun e w' => e = .returned (.tuple #[.agg #[.slice none 0 0, .slice none 0 0], .int .i64 9]) ∧ Below w.heap.size w w' := by
  have HW : Hid (∀ {W : World} {o o' : Obj}, Below (w.heap.size + 2) ((w.alloc o).alloc o') W → Below w.heap.size w W) := fun h => (below_two _ _).trans (h.mono (by omega))
  have C1 : Hid (∀ o o', Calls Tryd.prog 19 #[.agg #[c, q]] ((w.alloc o).alloc o') fun e w' => e = .returned (.int .i64 0) ∧ Below (w.heap.size + 2) ((w.alloc o).alloc o') w') := fun o o' => by
    have h := relFault_is c q n m C R _ (hc.below (below_two o o')) (hq.below (below_two o o')) hf hg (Utf8Tabs_below hT (below_two o o'))
    rw [h0] at h
    rwa [show ((w.alloc o).alloc o').heap.size = w.heap.size + 2 by simp] at h
  have hqs : ∃ a x, q = .slice a m x := by obtain ⟨a, x, e, _⟩ := hq; exact ⟨a, x, e⟩
  have CY : Hid ((∀ i, i < ko → colI C n (O i) = (prP C n O i : Int)) → ∀ W, Below w.heap.size w W → Calls Tryd.prog 20 #[.agg #[c, q], l] W fun e w' => ∃ v, e = .returned (.tuple #[v, .bool true]) ∧ IntsIs w' v ko (prP C n O) ∧ (∃ a' c', v = .slice a' ko c') ∧ Below W.heap.size W w') := fun hP W hW => colsAt_yes c q l n m ko C O (prP C n O) W (hc.below hW) hqs (hl.below hW) hP hfl.1
  have CN : Hid (∀ t, t < ko → (∀ i, i < t → colI C n (O i) = (prP C n O i : Int)) → colI C n (O t) = -1 → ∀ W, Below w.heap.size w W → Calls Tryd.prog 20 #[.agg #[c, q], l] W fun e w' => e = .returned (.tuple #[.slice none 0 0, .bool false]) ∧ Below W.heap.size W w') := fun t ht hP hN W hW => colsAt_no c q l n m ko C O (prP C n O) W (hc.below hW) hqs (hl.below hW) t ht hP hN hfl.1
  have CA : Hid (∀ W, Below w.heap.size w W → Calls Tryd.prog 20 #[.agg #[c, q], l] W fun e w' => ∃ a k x, e = .returned (.tuple #[.slice a k x, .bool (foundB C n O ko)]) ∧ Below W.heap.size W w') := fun W hW => by
    cases hfo : foundB C n O ko
    · obtain ⟨t, t1, t2, t3⟩ := found_no hfo
      exact (CN.out t t1 t3 t2 W hW).mono (fun e w' ⟨h3, h4⟩ => ⟨_, _, _, h3, h4⟩)
    · exact (CY.out (fun i hi => (found_yes hfo i hi).1) W hW).mono (fun e w' ⟨v, h3, _, ⟨a, x, h5⟩, h4⟩ => by subst h5; exact ⟨_, _, _, h3, h4⟩)
  have CL : Hid (∀ W, Below w.heap.size w W → Calls Tryd.prog 21 #[.agg #[c, q], .string part] W fun e w' => e = .returned (.int .i64 (colI C n part)) ∧ Below W.heap.size W w') := fun W hW => colAt_is c q n m C R part W (hc.below hW) hqs
  obtain ⟨qa, qcap, rfl, _⟩ := hq
  obtain ⟨ca, ccap, rfl, _⟩ := hc
  obtain ⟨la, lcap, rfl, _⟩ := hl
  rw [hfo] at CA
  rw [hcol] at CL
  clear hf hg hT hfl h0 hqs CY CN hfo hcol
  go_enter Tryd.func6, Tryd.ntmps6
  go_wp2_with (first
    | (go_at_call 19; refine (C1.out _ _).mono ?_; rintro e w1 ⟨rfl, hb1⟩; have HB1 : Hid (Below (w.heap.size + 2) ((w.alloc (.cells #[.slice ca n ccap, .slice qa m qcap] 25)).alloc (.cells #[.slice none 0 0, .slice none 0 0] 25)) w1) := hb1; obtain ⟨x0, x1, x2, x3, x4, x5, x6⟩ := box2r hb1; have x7 : w.heap.size < w1.heap.size := Nat.lt_of_succ_lt x6; clear hb1)
    | (go_at_call 20; refine (CA.out _ (HW.out HB1.out)).mono ?_; rintro e w2 ⟨pa, pk, pc, rfl, hb2⟩; have HB2 : Hid (Below (w.heap.size + 2) ((w.alloc (.cells #[.slice ca n ccap, .slice qa m qcap] 25)).alloc (.cells #[.slice none 0 0, .slice none 0 0] 25)) w2) := HB1.out.trans (hb2.mono (by omega)); clear x0 x1 x2 x3 x4 x5 x6 x7; obtain ⟨x0, x1, x2, x3, x4, x5, x6⟩ := box2r HB2.out; have x7 : w.heap.size < w2.heap.size := Nat.lt_of_succ_lt x6; clear hb2)
    | (go_at_call 21; refine (CL.out _ (HW.out HB2.out)).mono ?_; rintro e w3 ⟨rfl, hb3⟩; have HB3 : Hid (Below (w.heap.size + 2) ((w.alloc (.cells #[.slice ca n ccap, .slice qa m qcap] 25)).alloc (.cells #[.slice none 0 0, .slice none 0 0] 25)) w3) := HB2.out.trans (hb3.mono (by omega)); clear x0 x1 x2 x3 x4 x5 x6 x7; obtain ⟨x0, x1, x2, x3, x4, x5, x6⟩ := box2r HB3.out; have x7 : w.heap.size < w3.heap.size := Nat.lt_of_succ_lt x6; clear hb3))
  exact bodyPost_ret (v := .tuple #[.agg #[.slice none 0 0, .slice none 0 0], .int .i64 9]) (by simp [results, Tryd.results6, go_sem, x2, x3]) rfl ⟨rfl, ((HW.out HB3.out).setCell (by simp <;> omega) _).setCell (by simp <;> omega) _⟩
end Go.Proofs.YtlblomlblibbdaaDoor
