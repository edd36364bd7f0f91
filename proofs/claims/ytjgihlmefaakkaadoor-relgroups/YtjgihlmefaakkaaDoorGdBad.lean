/-
  CONTRACTS of the document's answer GroupedOf, where the relation, the aggregate or a column is refused.
-/
import Derived.Test.YtjgihlmefaakkaaDoorGdAgg
import Derived.Test.YtjgihlmefaakkaaDoorRlChain
import Derived.Test.YtjgihlmefaakkaaDoorRlOf
import Derived.Sort.AtCall
import Derived.Deep.Cut
set_option linter.unusedVariables false
namespace Go.Proofs.YtjgihlmefaakkaaDoor
set_option maxRecDepth 100000
open Go.RowKit Go.WideShapes

theorem isG_cases {which : ByteArray} (h : isG which) : ((which.toList == [99, 111, 117, 110, 116]) = true) ∨ ((which.toList == [99, 111, 117, 110, 116]) = false ∧ (which.toList == [115, 117, 109]) = true) ∨ ((which.toList == [99, 111, 117, 110, 116]) = false ∧ (which.toList == [115, 117, 109]) = false ∧ (which.toList == [109, 105, 110]) = true) ∨ ((which.toList == [99, 111, 117, 110, 116]) = false ∧ (which.toList == [115, 117, 109]) = false ∧ (which.toList == [109, 105, 110]) = false ∧ (which.toList == [109, 97, 120]) = true) := by
  rcases h with rfl | rfl | rfl | rfl
  · exact .inl (by unfold tCount; rw [ByteArray.toList_eq]; decide)
  · exact .inr (.inl (by unfold tSum; rw [ByteArray.toList_eq]; decide))
  · exact .inr (.inr (.inl (by unfold tMin; rw [ByteArray.toList_eq]; decide)))
  · exact .inr (.inr (.inr (by unfold tMax; rw [ByteArray.toList_eq]; decide)))
set_option maxHeartbeats 1600000 in
theorem grouped_bad (c q : Value) (name part which col : ByteArray) (n m : Nat) (C : Nat → ByteArray) (R : Nat → Row) (w : World) (hc : StrsIs w c n C) (hq : RowsIs w q m R) (hf : StrsFine n C) (hg : RowsFine m R) (hT : Tabs w) (h0 : ¬ relF C n R m = 0) :
    Calls Tryd.prog 6 #[.agg #[c, q], .string name, .string part, .string which, .string col] w fun e w' => e = .returned (.tuple #[.agg #[.slice none 0 0, .slice none 0 0], .int .i64 (relF C n R m)]) ∧ Below w.heap.size w w' := by
  have HW : Hid (∀ {W : World} {o o' : Obj}, Below (w.heap.size + 2) ((w.alloc o).alloc o') W → Below w.heap.size w W) := fun h => (below_two _ _).trans (h.mono (by omega))
  have C1 : Hid (∀ o o', Calls Tryd.prog 16 #[.agg #[c, q]] ((w.alloc o).alloc o') fun e w' => e = .returned (.int .i64 (relF C n R m)) ∧ Below (w.heap.size + 2) ((w.alloc o).alloc o') w') := fun o o' => by
    have h := relFault_is c q n m C R _ (hc.below (below_two o o')) (hq.below (below_two o o')) hf hg (Utf8Tabs_below hT (below_two o o'))
    rwa [show ((w.alloc o).alloc o').heap.size = w.heap.size + 2 by simp] at h
  have hqs : ∃ a x, q = .slice a m x := by obtain ⟨a, x, e, _⟩ := hq; exact ⟨a, x, e⟩
  have CP : Hid (∀ W, Below w.heap.size w W → Calls Tryd.prog 17 #[.agg #[c, q], .string part] W fun e w' => e = .returned (.int .i64 (colI C n part)) ∧ Below W.heap.size W w') := fun W hW => colAt_is c q n m C R part W (hc.below hW) hqs
  have CQ : Hid (∀ W, Below w.heap.size w W → Calls Tryd.prog 17 #[.agg #[c, q], .string col] W fun e w' => e = .returned (.int .i64 (colI C n col)) ∧ Below W.heap.size W w') := fun W hW => colAt_is c q n m C R col W (hc.below hW) hqs
  obtain ⟨qa, qcap, rfl, _⟩ := hq
  obtain ⟨ca, ccap, rfl, _⟩ := hc
  have h1 : (relF C n R m != 0) = true := by simpa using h0
  have h2 : (relF C n R m == 0) = false := by simpa using h0
  clear hf hg hT h0 hqs
  generalize relF C n R m = G at *
  generalize colI C n part = J1 at *
  generalize colI C n col = J2 at *
  go_enter Tryd.func6, Tryd.ntmps6
  go_wp2_with (first
    | (go_at_call 16; refine (C1.out _ _).mono ?_; rintro e w1 ⟨rfl, hb1⟩; have HB1 : Hid (Below (w.heap.size + 2) ((w.alloc (.cells #[.slice ca n ccap, .slice qa m qcap] 25)).alloc (.cells #[.slice none 0 0, .slice none 0 0] 25)) w1) := hb1; obtain ⟨x0, x1, x2, x3, x4, x5, x6⟩ := box2r hb1; have x7 : w.heap.size < w1.heap.size := Nat.lt_of_succ_lt x6; clear hb1)
    | (go_at_call 17; refine (CP.out _ (HW.out HB1.out)).mono ?_; rintro e w2 ⟨rfl, hb2⟩; have HB2 : Hid (Below (w.heap.size + 2) ((w.alloc (.cells #[.slice ca n ccap, .slice qa m qcap] 25)).alloc (.cells #[.slice none 0 0, .slice none 0 0] 25)) w2) := HB1.out.trans (hb2.mono (by omega)); clear x0 x1 x2 x3 x4 x5 x6 x7; obtain ⟨x0, x1, x2, x3, x4, x5, x6⟩ := box2r HB2.out; have x7 : w.heap.size < w2.heap.size := Nat.lt_of_succ_lt x6; clear hb2 CP)
    | (go_at_call 17; refine (CQ.out _ (HW.out HB2.out)).mono ?_; rintro e w3 ⟨rfl, hb3⟩; have HB3 : Hid (Below (w.heap.size + 2) ((w.alloc (.cells #[.slice ca n ccap, .slice qa m qcap] 25)).alloc (.cells #[.slice none 0 0, .slice none 0 0] 25)) w3) := HB2.out.trans (hb3.mono (by omega)); clear x0 x1 x2 x3 x4 x5 x6 x7; obtain ⟨x0, x1, x2, x3, x4, x5, x6⟩ := box2r HB3.out; have x7 : w.heap.size < w3.heap.size := Nat.lt_of_succ_lt x6; clear hb3 CQ))
  exact bodyPost_ret (v := .tuple #[.agg #[.slice none 0 0, .slice none 0 0], .int .i64 G]) (by simp [results, Tryd.results6, go_sem, x2, x3]) rfl ⟨rfl, ((HW.out HB3.out).setCell (by simp <;> omega) _).setCell (by simp <;> omega) _⟩
set_option maxHeartbeats 1600000 in
theorem grouped_none (c q : Value) (name part which col : ByteArray) (n m : Nat) (C : Nat → ByteArray) (R : Nat → Row) (w : World) (hc : StrsIs w c n C) (hq : RowsIs w q m R) (hf : StrsFine n C) (hg : RowsFine m R) (hT : Tabs w) (h0 : relF C n R m = 0) (hG : ¬ isG which) :
    Calls Tryd.prog 6 #[.agg #[c, q], .string name, .string part, .string which, .string col] w fun e w' => e = .returned (.tuple #[.agg #[.slice none 0 0, .slice none 0 0], .int .i64 6]) ∧ Below w.heap.size w w' := by
  have HW : Hid (∀ {W : World} {o o' : Obj}, Below (w.heap.size + 2) ((w.alloc o).alloc o') W → Below w.heap.size w W) := fun h => (below_two _ _).trans (h.mono (by omega))
  have C1 : Hid (∀ o o', Calls Tryd.prog 16 #[.agg #[c, q]] ((w.alloc o).alloc o') fun e w' => e = .returned (.int .i64 0) ∧ Below (w.heap.size + 2) ((w.alloc o).alloc o') w') := fun o o' => by
    have h := relFault_is c q n m C R _ (hc.below (below_two o o')) (hq.below (below_two o o')) hf hg (Utf8Tabs_below hT (below_two o o'))
    rw [h0] at h
    rwa [show ((w.alloc o).alloc o').heap.size = w.heap.size + 2 by simp] at h
  have hqs : ∃ a x, q = .slice a m x := by obtain ⟨a, x, e, _⟩ := hq; exact ⟨a, x, e⟩
  have CP : Hid (∀ W, Below w.heap.size w W → Calls Tryd.prog 17 #[.agg #[c, q], .string part] W fun e w' => e = .returned (.int .i64 (colI C n part)) ∧ Below W.heap.size W w') := fun W hW => colAt_is c q n m C R part W (hc.below hW) hqs
  have CQ : Hid (∀ W, Below w.heap.size w W → Calls Tryd.prog 17 #[.agg #[c, q], .string col] W fun e w' => e = .returned (.int .i64 (colI C n col)) ∧ Below W.heap.size W w') := fun W hW => colAt_is c q n m C R col W (hc.below hW) hqs
  obtain ⟨qa, qcap, rfl, _⟩ := hq
  obtain ⟨ca, ccap, rfl, _⟩ := hc
  have q1 : (which.toList == [99, 111, 117, 110, 116]) = false := lit_no (fun e => hG (.inl e))
  have q2 : (which.toList == [115, 117, 109]) = false := lit_no (fun e => hG (.inr (.inl e)))
  have q3 : (which.toList == [109, 105, 110]) = false := lit_no (fun e => hG (.inr (.inr (.inl e))))
  have q4 : (which.toList == [109, 97, 120]) = false := lit_no (fun e => hG (.inr (.inr (.inr e))))
  clear hf hg hT h0 hqs hG
  generalize colI C n part = J1 at *
  generalize colI C n col = J2 at *
  go_enter Tryd.func6, Tryd.ntmps6
  go_wp2_with (first
    | (go_at_call 16; refine (C1.out _ _).mono ?_; rintro e w1 ⟨rfl, hb1⟩; have HB1 : Hid (Below (w.heap.size + 2) ((w.alloc (.cells #[.slice ca n ccap, .slice qa m qcap] 25)).alloc (.cells #[.slice none 0 0, .slice none 0 0] 25)) w1) := hb1; obtain ⟨x0, x1, x2, x3, x4, x5, x6⟩ := box2r hb1; have x7 : w.heap.size < w1.heap.size := Nat.lt_of_succ_lt x6; clear hb1)
    | (go_at_call 17; refine (CP.out _ (HW.out HB1.out)).mono ?_; rintro e w2 ⟨rfl, hb2⟩; have HB2 : Hid (Below (w.heap.size + 2) ((w.alloc (.cells #[.slice ca n ccap, .slice qa m qcap] 25)).alloc (.cells #[.slice none 0 0, .slice none 0 0] 25)) w2) := HB1.out.trans (hb2.mono (by omega)); clear x0 x1 x2 x3 x4 x5 x6 x7; obtain ⟨x0, x1, x2, x3, x4, x5, x6⟩ := box2r HB2.out; have x7 : w.heap.size < w2.heap.size := Nat.lt_of_succ_lt x6; clear hb2 CP)
    | (go_at_call 17; refine (CQ.out _ (HW.out HB2.out)).mono ?_; rintro e w3 ⟨rfl, hb3⟩; have HB3 : Hid (Below (w.heap.size + 2) ((w.alloc (.cells #[.slice ca n ccap, .slice qa m qcap] 25)).alloc (.cells #[.slice none 0 0, .slice none 0 0] 25)) w3) := HB2.out.trans (hb3.mono (by omega)); clear x0 x1 x2 x3 x4 x5 x6 x7; obtain ⟨x0, x1, x2, x3, x4, x5, x6⟩ := box2r HB3.out; have x7 : w.heap.size < w3.heap.size := Nat.lt_of_succ_lt x6; clear hb3 CQ))
  exact bodyPost_ret (v := .tuple #[.agg #[.slice none 0 0, .slice none 0 0], .int .i64 6]) (by simp [results, Tryd.results6, go_sem, x2, x3]) rfl ⟨rfl, ((HW.out HB3.out).setCell (by simp <;> omega) _).setCell (by simp <;> omega) _⟩
set_option maxHeartbeats 1600000 in
theorem grouped_part (c q : Value) (name part which col : ByteArray) (n m : Nat) (C : Nat → ByteArray) (R : Nat → Row) (w : World) (hc : StrsIs w c n C) (hq : RowsIs w q m R) (hf : StrsFine n C) (hg : RowsFine m R) (hT : Tabs w) (h0 : relF C n R m = 0) (hG : isG which) (hP : colI C n part = -1) :
    Calls Tryd.prog 6 #[.agg #[c, q], .string name, .string part, .string which, .string col] w fun e w' => e = .returned (.tuple #[.agg #[.slice none 0 0, .slice none 0 0], .int .i64 9]) ∧ Below w.heap.size w w' := by
  have HW : Hid (∀ {W : World} {o o' : Obj}, Below (w.heap.size + 2) ((w.alloc o).alloc o') W → Below w.heap.size w W) := fun h => (below_two _ _).trans (h.mono (by omega))
  have C1 : Hid (∀ o o', Calls Tryd.prog 16 #[.agg #[c, q]] ((w.alloc o).alloc o') fun e w' => e = .returned (.int .i64 0) ∧ Below (w.heap.size + 2) ((w.alloc o).alloc o') w') := fun o o' => by
    have h := relFault_is c q n m C R _ (hc.below (below_two o o')) (hq.below (below_two o o')) hf hg (Utf8Tabs_below hT (below_two o o'))
    rw [h0] at h
    rwa [show ((w.alloc o).alloc o').heap.size = w.heap.size + 2 by simp] at h
  have hqs : ∃ a x, q = .slice a m x := by obtain ⟨a, x, e, _⟩ := hq; exact ⟨a, x, e⟩
  have CP : Hid (∀ W, Below w.heap.size w W → Calls Tryd.prog 17 #[.agg #[c, q], .string part] W fun e w' => e = .returned (.int .i64 (colI C n part)) ∧ Below W.heap.size W w') := fun W hW => colAt_is c q n m C R part W (hc.below hW) hqs
  have CQ : Hid (∀ W, Below w.heap.size w W → Calls Tryd.prog 17 #[.agg #[c, q], .string col] W fun e w' => e = .returned (.int .i64 (colI C n col)) ∧ Below W.heap.size W w') := fun W hW => colAt_is c q n m C R col W (hc.below hW) hqs
  obtain ⟨qa, qcap, rfl, _⟩ := hq
  obtain ⟨ca, ccap, rfl, _⟩ := hc
  rw [hP] at CP
  generalize colI C n col = J2 at *
  have hany := isG_cases hG
  clear hf hg hT h0 hqs hG
  go_enter Tryd.func6, Tryd.ntmps6
  go_upto_region 2 with (first | (go_at_call 16; refine (C1.out _ _).mono ?_; rintro e w1 ⟨rfl, hb1⟩; have HB1 : Hid (Below (w.heap.size + 2) ((w.alloc (.cells #[.slice ca n ccap, .slice qa m qcap] 25)).alloc (.cells #[.slice none 0 0, .slice none 0 0] 25)) w1) := hb1; obtain ⟨x0, x1, x2, x3, x4, x5, x6⟩ := box2r hb1; have x7 : w.heap.size < w1.heap.size := Nat.lt_of_succ_lt x6; clear hb1))
  go_cut [42] from 25 to 41 (fun s wx => s = .bool false ∧ wx = w1)
  case first =>
    rcases hany with h1 | ⟨h1, h2⟩ | ⟨h1, h2, h3⟩ | ⟨h1, h2, h3, h4⟩
    all_goals (go_wp2_with fail; go_meet; exact ⟨rfl, rfl⟩)
  case rest =>
    obtain ⟨rfl, hwc⟩ := hcut
    obtain rfl := hwc.symm
    clear hany hwc
    go_wp2_with (first
      | (go_at_call 17; refine (CP.out _ (HW.out HB1.out)).mono ?_; rintro e w2 ⟨rfl, hb2⟩; have HB2 : Hid (Below (w.heap.size + 2) ((w.alloc (.cells #[.slice ca n ccap, .slice qa m qcap] 25)).alloc (.cells #[.slice none 0 0, .slice none 0 0] 25)) w2) := HB1.out.trans (hb2.mono (by omega)); clear x0 x1 x2 x3 x4 x5 x6 x7; obtain ⟨x0, x1, x2, x3, x4, x5, x6⟩ := box2r HB2.out; have x7 : w.heap.size < w2.heap.size := Nat.lt_of_succ_lt x6; clear hb2 CP)
      | (go_at_call 17; refine (CQ.out _ (HW.out HB2.out)).mono ?_; rintro e w3 ⟨rfl, hb3⟩; have HB3 : Hid (Below (w.heap.size + 2) ((w.alloc (.cells #[.slice ca n ccap, .slice qa m qcap] 25)).alloc (.cells #[.slice none 0 0, .slice none 0 0] 25)) w3) := HB2.out.trans (hb3.mono (by omega)); clear x0 x1 x2 x3 x4 x5 x6 x7; obtain ⟨x0, x1, x2, x3, x4, x5, x6⟩ := box2r HB3.out; have x7 : w.heap.size < w3.heap.size := Nat.lt_of_succ_lt x6; clear hb3 CQ))
    exact bodyPost_ret (v := .tuple #[.agg #[.slice none 0 0, .slice none 0 0], .int .i64 9]) (by simp [results, Tryd.results6, go_sem, x2, x3]) rfl ⟨rfl, ((HW.out HB3.out).setCell (by simp <;> omega) _).setCell (by simp <;> omega) _⟩
set_option maxHeartbeats 1600000 in
theorem grouped_col (c q : Value) (name part which col : ByteArray) (n m : Nat) (C : Nat → ByteArray) (R : Nat → Row) (w : World) (hc : StrsIs w c n C) (hq : RowsIs w q m R) (hf : StrsFine n C) (hg : RowsFine m R) (hT : Tabs w) (h0 : relF C n R m = 0) (hG : isG which) (P : Nat) (hP : colI C n part = (P : Int)) (hQ : colI C n col = -1) :
    Calls Tryd.prog 6 #[.agg #[c, q], .string name, .string part, .string which, .string col] w fun e w' => e = .returned (.tuple #[.agg #[.slice none 0 0, .slice none 0 0], .int .i64 9]) ∧ Below w.heap.size w w' := by
  have HW : Hid (∀ {W : World} {o o' : Obj}, Below (w.heap.size + 2) ((w.alloc o).alloc o') W → Below w.heap.size w W) := fun h => (below_two _ _).trans (h.mono (by omega))
  have C1 : Hid (∀ o o', Calls Tryd.prog 16 #[.agg #[c, q]] ((w.alloc o).alloc o') fun e w' => e = .returned (.int .i64 0) ∧ Below (w.heap.size + 2) ((w.alloc o).alloc o') w') := fun o o' => by
    have h := relFault_is c q n m C R _ (hc.below (below_two o o')) (hq.below (below_two o o')) hf hg (Utf8Tabs_below hT (below_two o o'))
    rw [h0] at h
    rwa [show ((w.alloc o).alloc o').heap.size = w.heap.size + 2 by simp] at h
  have hqs : ∃ a x, q = .slice a m x := by obtain ⟨a, x, e, _⟩ := hq; exact ⟨a, x, e⟩
  have CP : Hid (∀ W, Below w.heap.size w W → Calls Tryd.prog 17 #[.agg #[c, q], .string part] W fun e w' => e = .returned (.int .i64 (colI C n part)) ∧ Below W.heap.size W w') := fun W hW => colAt_is c q n m C R part W (hc.below hW) hqs
  have CQ : Hid (∀ W, Below w.heap.size w W → Calls Tryd.prog 17 #[.agg #[c, q], .string col] W fun e w' => e = .returned (.int .i64 (colI C n col)) ∧ Below W.heap.size W w') := fun W hW => colAt_is c q n m C R col W (hc.below hW) hqs
  obtain ⟨qa, qcap, rfl, _⟩ := hq
  obtain ⟨ca, ccap, rfl, _⟩ := hc
  rw [hP] at CP
  rw [hQ] at CQ
  have hp0 : ¬ ((P : Int) < 0) := by omega
  have hany := isG_cases hG
  clear hf hg hT h0 hqs hG
  go_enter Tryd.func6, Tryd.ntmps6
  go_upto_region 2 with (first | (go_at_call 16; refine (C1.out _ _).mono ?_; rintro e w1 ⟨rfl, hb1⟩; have HB1 : Hid (Below (w.heap.size + 2) ((w.alloc (.cells #[.slice ca n ccap, .slice qa m qcap] 25)).alloc (.cells #[.slice none 0 0, .slice none 0 0] 25)) w1) := hb1; obtain ⟨x0, x1, x2, x3, x4, x5, x6⟩ := box2r hb1; have x7 : w.heap.size < w1.heap.size := Nat.lt_of_succ_lt x6; clear hb1))
  go_cut [42] from 25 to 41 (fun s wx => s = .bool false ∧ wx = w1)
  case first =>
    rcases hany with h1 | ⟨h1, h2⟩ | ⟨h1, h2, h3⟩ | ⟨h1, h2, h3, h4⟩
    all_goals (go_wp2_with fail; go_meet; exact ⟨rfl, rfl⟩)
  case rest =>
    obtain ⟨rfl, hwc⟩ := hcut
    obtain rfl := hwc.symm
    clear hany hwc
    go_wp2_with (first
      | (go_at_call 17; refine (CP.out _ (HW.out HB1.out)).mono ?_; rintro e w2 ⟨rfl, hb2⟩; have HB2 : Hid (Below (w.heap.size + 2) ((w.alloc (.cells #[.slice ca n ccap, .slice qa m qcap] 25)).alloc (.cells #[.slice none 0 0, .slice none 0 0] 25)) w2) := HB1.out.trans (hb2.mono (by omega)); clear x0 x1 x2 x3 x4 x5 x6 x7; obtain ⟨x0, x1, x2, x3, x4, x5, x6⟩ := box2r HB2.out; have x7 : w.heap.size < w2.heap.size := Nat.lt_of_succ_lt x6; clear hb2 CP)
      | (go_at_call 17; refine (CQ.out _ (HW.out HB2.out)).mono ?_; rintro e w3 ⟨rfl, hb3⟩; have HB3 : Hid (Below (w.heap.size + 2) ((w.alloc (.cells #[.slice ca n ccap, .slice qa m qcap] 25)).alloc (.cells #[.slice none 0 0, .slice none 0 0] 25)) w3) := HB2.out.trans (hb3.mono (by omega)); clear x0 x1 x2 x3 x4 x5 x6 x7; obtain ⟨x0, x1, x2, x3, x4, x5, x6⟩ := box2r HB3.out; have x7 : w.heap.size < w3.heap.size := Nat.lt_of_succ_lt x6; clear hb3 CQ))
    exact bodyPost_ret (v := .tuple #[.agg #[.slice none 0 0, .slice none 0 0], .int .i64 9]) (by simp [results, Tryd.results6, go_sem, x2, x3]) rfl ⟨rfl, ((HW.out HB3.out).setCell (by simp <;> omega) _).setCell (by simp <;> omega) _⟩
end Go.Proofs.YtjgihlmefaakkaaDoor
