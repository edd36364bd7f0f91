/-
  CONTRACTS of rel.Group, where the relation, the aggregate or a column is refused.
-/
import Derived.Test.YtjgihlmefaakkaaDoorGrSmall
import Derived.Test.YtjgihlmefaakkaaDoorRlCol
import Derived.Test.YtjgihlmefaakkaaDoorRlUnion
import Derived.Sort.AtCall
set_option linter.unusedVariables false
namespace Go.Proofs.YtjgihlmefaakkaaDoor
set_option maxRecDepth 100000
open Go.RowKit Go.WideShapes

set_option maxHeartbeats 1600000 in
theorem group_bad (c q : Value) (name part which col : ByteArray) (n m : Nat) (C : Nat → ByteArray) (R : Nat → Row) (w : World) (hc : StrsIs w c n C) (hq : RowsIs w q m R) (hf : StrsFine n C) (hg : RowsFine m R) (hT : Tabs w) (h0 : ¬ relF C n R m = 0) :
    Calls Tryd.prog 4 #[.agg #[c, q], .string name, .string part, .string which, .string col] w fun e w' => e = .returned (.tuple #[.agg #[.slice none 0 0, .slice none 0 0], .int .i64 (relF C n R m)]) ∧ Below w.heap.size w w' := by
  have HW : Hid (∀ {W : World} {o o' : Obj}, Below (w.heap.size + 2) ((w.alloc o).alloc o') W → Below w.heap.size w W) := fun h => (below_two _ _).trans (h.mono (by omega))
  have C1 : Hid (∀ o o', Calls Tryd.prog 8 #[.agg #[c, q]] ((w.alloc o).alloc o') fun e w' => e = .returned (.int .i64 (relF C n R m)) ∧ Below (w.heap.size + 2) ((w.alloc o).alloc o') w') := fun o o' => by
    have h := relCheck_is c q n m C R _ (hc.below (below_two o o')) (hq.below (below_two o o')) hf hg (Utf8Tabs_below hT (below_two o o'))
    rwa [show ((w.alloc o).alloc o').heap.size = w.heap.size + 2 by simp] at h
  obtain ⟨qa, qcap, rfl, _⟩ := hq
  obtain ⟨ca, ccap, rfl, _⟩ := hc
  have h1 : (relF C n R m != 0) = true := by simpa using h0
  clear hf hg hT h0
  generalize relF C n R m = G at *
  go_enter Tryd.func4, Tryd.ntmps4
  go_wp2_with (first | (go_at_call 8; refine (C1.out _ _).mono ?_; rintro e w1 ⟨rfl, hb1⟩; have HB1 : Hid (Below (w.heap.size + 2) _ w1) := hb1; obtain ⟨x0, x1, x2, x3, x4, x5, x6⟩ := box2r hb1; clear hb1))
  exact bodyPost_ret (v := .tuple #[.agg #[.slice none 0 0, .slice none 0 0], .int .i64 G]) (by simp [results, Tryd.results4, go_sem, x2, x3]) rfl ⟨rfl, ((HW.out HB1.out).setCell (by simp <;> omega) _).setCell (by simp <;> omega) _⟩
set_option maxHeartbeats 1600000 in
theorem group_none (c q : Value) (name part which col : ByteArray) (n m : Nat) (C : Nat → ByteArray) (R : Nat → Row) (w : World) (hc : StrsIs w c n C) (hq : RowsIs w q m R) (hf : StrsFine n C) (hg : RowsFine m R) (hT : Tabs w) (h0 : relF C n R m = 0) (hG : ¬ isG which) :
    Calls Tryd.prog 4 #[.agg #[c, q], .string name, .string part, .string which, .string col] w fun e w' => e = .returned (.tuple #[.agg #[.slice none 0 0, .slice none 0 0], .int .i64 6]) ∧ Below w.heap.size w w' := by
  have HW : Hid (∀ {W : World} {o o' : Obj}, Below (w.heap.size + 2) ((w.alloc o).alloc o') W → Below w.heap.size w W) := fun h => (below_two _ _).trans (h.mono (by omega))
  have C1 : Hid (∀ o o', Calls Tryd.prog 8 #[.agg #[c, q]] ((w.alloc o).alloc o') fun e w' => e = .returned (.int .i64 0) ∧ Below (w.heap.size + 2) ((w.alloc o).alloc o') w') := fun o o' => by
    have h := relCheck_is c q n m C R _ (hc.below (below_two o o')) (hq.below (below_two o o')) hf hg (Utf8Tabs_below hT (below_two o o'))
    rw [h0] at h
    rwa [show ((w.alloc o).alloc o').heap.size = w.heap.size + 2 by simp] at h
  have CA : Hid (∀ W, Calls Tryd.prog 9 #[.string which] W fun e w' => e = .returned (.bool false) ∧ w' = W) := fun W => aggregate_no which hG W
  obtain ⟨qa, qcap, rfl, _⟩ := hq
  obtain ⟨ca, ccap, rfl, _⟩ := hc
  clear hf hg hT h0 hG
  go_enter Tryd.func4, Tryd.ntmps4
  go_wp2_with (first
    | (go_at_call 8; refine (C1.out _ _).mono ?_; rintro e w1 ⟨rfl, hb1⟩; have HB1 : Hid (Below (w.heap.size + 2) _ w1) := hb1; obtain ⟨x0, x1, x2, x3, x4, x5, x6⟩ := box2r hb1; clear hb1)
    | (go_at_call 9; refine (CA.out _).mono ?_; rintro e w2 ⟨rfl, hw2⟩; obtain rfl := hw2.symm))
  exact bodyPost_ret (v := .tuple #[.agg #[.slice none 0 0, .slice none 0 0], .int .i64 6]) (by simp [results, Tryd.results4, go_sem, x2, x3]) rfl ⟨rfl, ((HW.out HB1.out).setCell (by simp <;> omega) _).setCell (by simp <;> omega) _⟩
set_option maxHeartbeats 1600000 in
theorem group_part (c q : Value) (name part which col : ByteArray) (n m : Nat) (C : Nat → ByteArray) (R : Nat → Row) (w : World) (hc : StrsIs w c n C) (hq : RowsIs w q m R) (hf : StrsFine n C) (hg : RowsFine m R) (hT : Tabs w) (h0 : relF C n R m = 0) (hG : isG which) (hP : colI C n part = -1) :
    Calls Tryd.prog 4 #[.agg #[c, q], .string name, .string part, .string which, .string col] w fun e w' => e = .returned (.tuple #[.agg #[.slice none 0 0, .slice none 0 0], .int .i64 9]) ∧ Below w.heap.size w w' := by
  have HW : Hid (∀ {W : World} {o o' : Obj}, Below (w.heap.size + 2) ((w.alloc o).alloc o') W → Below w.heap.size w W) := fun h => (below_two _ _).trans (h.mono (by omega))
  have C1 : Hid (∀ o o', Calls Tryd.prog 8 #[.agg #[c, q]] ((w.alloc o).alloc o') fun e w' => e = .returned (.int .i64 0) ∧ Below (w.heap.size + 2) ((w.alloc o).alloc o') w') := fun o o' => by
    have h := relCheck_is c q n m C R _ (hc.below (below_two o o')) (hq.below (below_two o o')) hf hg (Utf8Tabs_below hT (below_two o o'))
    rw [h0] at h
    rwa [show ((w.alloc o).alloc o').heap.size = w.heap.size + 2 by simp] at h
  have CA : Hid (∀ W, Calls Tryd.prog 9 #[.string which] W fun e w' => e = .returned (.bool true) ∧ w' = W) := fun W => aggregate_yes which hG W
  have CP : Hid (∀ W, Below w.heap.size w W → Calls Tryd.prog 10 #[c, .string part] W fun e w' => e = .returned (.tuple #[.int .i64 0, .int .i64 9]) ∧ w' = W) := fun W hW => by
    have h := column_is c n C part W (hc.below hW)
    unfold colV colF at h
    rwa [hP, if_pos (by decide), if_pos (by decide)] at h
  obtain ⟨qa, qcap, rfl, _⟩ := hq
  obtain ⟨ca, ccap, rfl, _⟩ := hc
  clear hf hg hT h0 hG hP
  go_enter Tryd.func4, Tryd.ntmps4
  go_wp2_with (first
    | (go_at_call 8; refine (C1.out _ _).mono ?_; rintro e w1 ⟨rfl, hb1⟩; have HB1 : Hid (Below (w.heap.size + 2) _ w1) := hb1; obtain ⟨x0, x1, x2, x3, x4, x5, x6⟩ := box2r hb1; clear hb1)
    | (go_at_call 9; refine (CA.out _).mono ?_; rintro e w2 ⟨rfl, hw2⟩; obtain rfl := hw2.symm)
    | (go_at_call 10; refine (CP.out _ (HW.out HB1.out)).mono ?_; rintro e w2 ⟨rfl, hw2⟩; obtain rfl := hw2.symm))
  exact bodyPost_ret (v := .tuple #[.agg #[.slice none 0 0, .slice none 0 0], .int .i64 9]) (by simp [results, Tryd.results4, go_sem, x2, x3]) rfl ⟨rfl, ((HW.out HB1.out).setCell (by simp <;> omega) _).setCell (by simp <;> omega) _⟩
set_option maxHeartbeats 1600000 in
theorem group_col (c q : Value) (name part which col : ByteArray) (n m P : Nat) (C : Nat → ByteArray) (R : Nat → Row) (w : World) (hc : StrsIs w c n C) (hq : RowsIs w q m R) (hf : StrsFine n C) (hg : RowsFine m R) (hT : Tabs w) (h0 : relF C n R m = 0) (hG : isG which) (hP : colI C n part = (P : Int)) (hQ : colI C n col = -1) :
    Calls Tryd.prog 4 #[.agg #[c, q], .string name, .string part, .string which, .string col] w fun e w' => e = .returned (.tuple #[.agg #[.slice none 0 0, .slice none 0 0], .int .i64 9]) ∧ Below w.heap.size w w' := by
  have HW : Hid (∀ {W : World} {o o' : Obj}, Below (w.heap.size + 2) ((w.alloc o).alloc o') W → Below w.heap.size w W) := fun h => (below_two _ _).trans (h.mono (by omega))
  have C1 : Hid (∀ o o', Calls Tryd.prog 8 #[.agg #[c, q]] ((w.alloc o).alloc o') fun e w' => e = .returned (.int .i64 0) ∧ Below (w.heap.size + 2) ((w.alloc o).alloc o') w') := fun o o' => by
    have h := relCheck_is c q n m C R _ (hc.below (below_two o o')) (hq.below (below_two o o')) hf hg (Utf8Tabs_below hT (below_two o o'))
    rw [h0] at h
    rwa [show ((w.alloc o).alloc o').heap.size = w.heap.size + 2 by simp] at h
  have CA : Hid (∀ W, Calls Tryd.prog 9 #[.string which] W fun e w' => e = .returned (.bool true) ∧ w' = W) := fun W => aggregate_yes which hG W
  have CP : Hid (∀ W, Below w.heap.size w W → Calls Tryd.prog 10 #[c, .string part] W fun e w' => e = .returned (.tuple #[.int .i64 (P : Int), .int .i64 0]) ∧ w' = W) := fun W hW => by
    have h := column_is c n C part W (hc.below hW)
    unfold colV colF at h
    rwa [hP, if_neg (by omega), if_neg (by omega)] at h
  have CQ : Hid (∀ W, Below w.heap.size w W → Calls Tryd.prog 10 #[c, .string col] W fun e w' => e = .returned (.tuple #[.int .i64 0, .int .i64 9]) ∧ w' = W) := fun W hW => by
    have h := column_is c n C col W (hc.below hW)
    unfold colV colF at h
    rwa [hQ, if_pos (by decide), if_pos (by decide)] at h
  obtain ⟨qa, qcap, rfl, _⟩ := hq
  obtain ⟨ca, ccap, rfl, _⟩ := hc
  clear hf hg hT h0 hG hP hQ
  go_enter Tryd.func4, Tryd.ntmps4
  go_wp2_with (first
    | (go_at_call 8; refine (C1.out _ _).mono ?_; rintro e w1 ⟨rfl, hb1⟩; have HB1 : Hid (Below (w.heap.size + 2) _ w1) := hb1; obtain ⟨x0, x1, x2, x3, x4, x5, x6⟩ := box2r hb1; have x7 : w.heap.size < w1.heap.size := Nat.lt_of_succ_lt x6; clear hb1)
    | (go_at_call 9; refine (CA.out _).mono ?_; rintro e w2 ⟨rfl, hw2⟩; obtain rfl := hw2.symm)
    | (go_at_call 10; refine (CP.out _ (HW.out HB1.out)).mono ?_; rintro e w2 ⟨rfl, hw2⟩; obtain rfl := hw2.symm; clear CP)
    | (go_at_call 10; refine (CQ.out _ (HW.out HB1.out)).mono ?_; rintro e w2 ⟨rfl, hw2⟩; obtain rfl := hw2.symm))
  exact bodyPost_ret (v := .tuple #[.agg #[.slice none 0 0, .slice none 0 0], .int .i64 9]) (by simp [results, Tryd.results4, go_sem, x2, x3]) rfl ⟨rfl, ((HW.out HB1.out).setCell (by simp <;> omega) _).setCell (by simp <;> omega) _⟩
end Go.Proofs.YtjgihlmefaakkaaDoor
