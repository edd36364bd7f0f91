import Derived.Test.YtbnlekhjgkojlaaGreatDoorPkPick
import Derived.Test.YtbnlekhjgkojlaaGreatDoorPkPick
set_option linter.unusedVariables false
namespace Go.Proofs.YtbnlekhjgkojlaaGreatDoor
set_option maxRecDepth 100000
open Go.RowKit
theorem HidOf {p : Prop} (h : p) : Hid p := h
theorem field_kind (k n : Int) (s : ByteArray) (W : World) : Sem.run Tryz.prog (Instr.field 41 (.agg #[.int .i64 k, .string s, .int .i64 n]) 0) W = .ok (.int .i64 k) W := by
 first
  | rfl
  | simp [Instr.field, run_underlying Tryz.underlying41, go_sem]
theorem toL_eq {x y : ByteArray} : (x.toList == y.toList) = decide (x = y) := by
 by_cases h : x = y
 · subst h; simp
 · rw [decide_eq_false h, beq_eq_false_iff_ne]
   intro h'
   rw [ByteArray.toList_eq, ByteArray.toList_eq] at h'
   apply h
   cases x; cases y
   congr 1
   exact Array.toList_inj.1 h'
def stepB (u : Tok) : Bool := u.kind == 1 || u.kind == 2 || u.kind == 3 || u.kind == 4 || (u.kind == 5 && (u.s.toList == [46, 46] || u.s.toList == [46] || u.s.toList == [64] || u.s.toList == [42] || u.s.toList == [40]))
theorem stepBegins_k1 {w : World} {pb b c : Nat} {T : List Tok} {st : Pst} (h : PaS w pb b c T st) (hT : T.length ≤ 200) (hat : st.at' ≤ 300) {us : ByteArray} {uk un : Int} (hu : seeM T st 0 = ⟨1, us, un⟩) :
 Calls Tryz.prog 67 #[.pointer (some ⟨pb, 0, none⟩)] w fun e w' => e = .returned (.bool true) ∧ Below w.heap.size w w' := by
 have CS : Hid (∀ W, Below w.heap.size w W → Calls Tryz.prog 65 #[.pointer (some ⟨pb, 0, none⟩), .int .i64 0] W fun e w' => e = .returned (.agg #[.int .i64 1, .string us, .int .i64 un]) ∧ Below w.heap.size w w') := fun W hW => (see_lit (h.below hW) 0 (by omega) hT hat hu).mono fun e w' ⟨k1, k2⟩ => ⟨k1, hW.trans (k2.mono hW.size)⟩
 have HB0 : Hid (Below w.heap.size w w) := Below.refl _ _
 clear h
 go_enter Tryz.func67, Tryz.ntmps67
 go_wp2_with (first
  | (go_at_call 65; have HNX := HB0; (refine (CS.out _ HB0.out).mono ?_); rintro e w1 ⟨rfl, hb⟩; have HB1 : Hid (Below w.heap.size w w1) := hb; clear hb HNX HB0))
 go_ret
 exact ⟨rfl, by first | exact HB1.out | exact HB1.out.alloc HB1.out.size _⟩
theorem stepBegins_k2 {w : World} {pb b c : Nat} {T : List Tok} {st : Pst} (h : PaS w pb b c T st) (hT : T.length ≤ 200) (hat : st.at' ≤ 300) {us : ByteArray} {uk un : Int} (hu : seeM T st 0 = ⟨2, us, un⟩) :
 Calls Tryz.prog 67 #[.pointer (some ⟨pb, 0, none⟩)] w fun e w' => e = .returned (.bool true) ∧ Below w.heap.size w w' := by
 have CS : Hid (∀ W, Below w.heap.size w W → Calls Tryz.prog 65 #[.pointer (some ⟨pb, 0, none⟩), .int .i64 0] W fun e w' => e = .returned (.agg #[.int .i64 2, .string us, .int .i64 un]) ∧ Below w.heap.size w w') := fun W hW => (see_lit (h.below hW) 0 (by omega) hT hat hu).mono fun e w' ⟨k1, k2⟩ => ⟨k1, hW.trans (k2.mono hW.size)⟩
 have HB0 : Hid (Below w.heap.size w w) := Below.refl _ _
 clear h
 go_enter Tryz.func67, Tryz.ntmps67
 go_wp2_with (first
  | (go_at_call 65; have HNX := HB0; (refine (CS.out _ HB0.out).mono ?_); rintro e w1 ⟨rfl, hb⟩; have HB1 : Hid (Below w.heap.size w w1) := hb; clear hb HNX HB0))
 go_ret
 exact ⟨rfl, by first | exact HB1.out | exact HB1.out.alloc HB1.out.size _⟩
theorem stepBegins_k3 {w : World} {pb b c : Nat} {T : List Tok} {st : Pst} (h : PaS w pb b c T st) (hT : T.length ≤ 200) (hat : st.at' ≤ 300) {us : ByteArray} {uk un : Int} (hu : seeM T st 0 = ⟨3, us, un⟩) :
 Calls Tryz.prog 67 #[.pointer (some ⟨pb, 0, none⟩)] w fun e w' => e = .returned (.bool true) ∧ Below w.heap.size w w' := by
 have CS : Hid (∀ W, Below w.heap.size w W → Calls Tryz.prog 65 #[.pointer (some ⟨pb, 0, none⟩), .int .i64 0] W fun e w' => e = .returned (.agg #[.int .i64 3, .string us, .int .i64 un]) ∧ Below w.heap.size w w') := fun W hW => (see_lit (h.below hW) 0 (by omega) hT hat hu).mono fun e w' ⟨k1, k2⟩ => ⟨k1, hW.trans (k2.mono hW.size)⟩
 have HB0 : Hid (Below w.heap.size w w) := Below.refl _ _
 clear h
 go_enter Tryz.func67, Tryz.ntmps67
 go_wp2_with (first
  | (go_at_call 65; have HNX := HB0; (refine (CS.out _ HB0.out).mono ?_); rintro e w1 ⟨rfl, hb⟩; have HB1 : Hid (Below w.heap.size w w1) := hb; clear hb HNX HB0))
 go_ret
 exact ⟨rfl, by first | exact HB1.out | exact HB1.out.alloc HB1.out.size _⟩
theorem stepBegins_k4 {w : World} {pb b c : Nat} {T : List Tok} {st : Pst} (h : PaS w pb b c T st) (hT : T.length ≤ 200) (hat : st.at' ≤ 300) {us : ByteArray} {uk un : Int} (hu : seeM T st 0 = ⟨4, us, un⟩) :
 Calls Tryz.prog 67 #[.pointer (some ⟨pb, 0, none⟩)] w fun e w' => e = .returned (.bool true) ∧ Below w.heap.size w w' := by
 have CS : Hid (∀ W, Below w.heap.size w W → Calls Tryz.prog 65 #[.pointer (some ⟨pb, 0, none⟩), .int .i64 0] W fun e w' => e = .returned (.agg #[.int .i64 4, .string us, .int .i64 un]) ∧ Below w.heap.size w w') := fun W hW => (see_lit (h.below hW) 0 (by omega) hT hat hu).mono fun e w' ⟨k1, k2⟩ => ⟨k1, hW.trans (k2.mono hW.size)⟩
 have HB0 : Hid (Below w.heap.size w w) := Below.refl _ _
 clear h
 go_enter Tryz.func67, Tryz.ntmps67
 go_wp2_with (first
  | (go_at_call 65; have HNX := HB0; (refine (CS.out _ HB0.out).mono ?_); rintro e w1 ⟨rfl, hb⟩; have HB1 : Hid (Below w.heap.size w w1) := hb; clear hb HNX HB0))
 go_ret
 exact ⟨rfl, by first | exact HB1.out | exact HB1.out.alloc HB1.out.size _⟩
theorem stepBegins_m0 {w : World} {pb b c : Nat} {T : List Tok} {st : Pst} (h : PaS w pb b c T st) (hT : T.length ≤ 200) (hat : st.at' ≤ 300) {us : ByteArray} {uk un : Int} (hu : seeM T st 0 = ⟨5, us, un⟩) (y : (us.toList == [46, 46]) = true) :
 Calls Tryz.prog 67 #[.pointer (some ⟨pb, 0, none⟩)] w fun e w' => e = .returned (.bool true) ∧ Below w.heap.size w w' := by
 have CS : Hid (∀ W, Below w.heap.size w W → Calls Tryz.prog 65 #[.pointer (some ⟨pb, 0, none⟩), .int .i64 0] W fun e w' => e = .returned (.agg #[.int .i64 5, .string us, .int .i64 un]) ∧ Below w.heap.size w w') := fun W hW => (see_lit (h.below hW) 0 (by omega) hT hat hu).mono fun e w' ⟨k1, k2⟩ => ⟨k1, hW.trans (k2.mono hW.size)⟩
 have HB0 : Hid (Below w.heap.size w w) := Below.refl _ _
 clear h
 go_enter Tryz.func67, Tryz.ntmps67
 go_wp2_with (first
  | (go_at_call 65; have HNX := HB0; (refine (CS.out _ HB0.out).mono ?_); rintro e w1 ⟨rfl, hb⟩; have HB1 : Hid (Below w.heap.size w w1) := hb; clear hb HNX HB0))
 go_ret
 exact ⟨rfl, by first | exact HB1.out | exact HB1.out.alloc HB1.out.size _⟩
theorem stepBegins_m1 {w : World} {pb b c : Nat} {T : List Tok} {st : Pst} (h : PaS w pb b c T st) (hT : T.length ≤ 200) (hat : st.at' ≤ 300) {us : ByteArray} {uk un : Int} (hu : seeM T st 0 = ⟨5, us, un⟩) (n0 : (us.toList == [46, 46]) = false) (y : (us.toList == [46]) = true) :
 Calls Tryz.prog 67 #[.pointer (some ⟨pb, 0, none⟩)] w fun e w' => e = .returned (.bool true) ∧ Below w.heap.size w w' := by
 have CS : Hid (∀ W, Below w.heap.size w W → Calls Tryz.prog 65 #[.pointer (some ⟨pb, 0, none⟩), .int .i64 0] W fun e w' => e = .returned (.agg #[.int .i64 5, .string us, .int .i64 un]) ∧ Below w.heap.size w w') := fun W hW => (see_lit (h.below hW) 0 (by omega) hT hat hu).mono fun e w' ⟨k1, k2⟩ => ⟨k1, hW.trans (k2.mono hW.size)⟩
 have HB0 : Hid (Below w.heap.size w w) := Below.refl _ _
 clear h
 go_enter Tryz.func67, Tryz.ntmps67
 go_wp2_with (first
  | (go_at_call 65; have HNX := HB0; (refine (CS.out _ HB0.out).mono ?_); rintro e w1 ⟨rfl, hb⟩; have HB1 : Hid (Below w.heap.size w w1) := hb; clear hb HNX HB0))
 go_ret
 exact ⟨rfl, by first | exact HB1.out | exact HB1.out.alloc HB1.out.size _⟩
theorem stepBegins_m2 {w : World} {pb b c : Nat} {T : List Tok} {st : Pst} (h : PaS w pb b c T st) (hT : T.length ≤ 200) (hat : st.at' ≤ 300) {us : ByteArray} {uk un : Int} (hu : seeM T st 0 = ⟨5, us, un⟩) (n0 : (us.toList == [46, 46]) = false) (n1 : (us.toList == [46]) = false) (y : (us.toList == [64]) = true) :
 Calls Tryz.prog 67 #[.pointer (some ⟨pb, 0, none⟩)] w fun e w' => e = .returned (.bool true) ∧ Below w.heap.size w w' := by
 have CS : Hid (∀ W, Below w.heap.size w W → Calls Tryz.prog 65 #[.pointer (some ⟨pb, 0, none⟩), .int .i64 0] W fun e w' => e = .returned (.agg #[.int .i64 5, .string us, .int .i64 un]) ∧ Below w.heap.size w w') := fun W hW => (see_lit (h.below hW) 0 (by omega) hT hat hu).mono fun e w' ⟨k1, k2⟩ => ⟨k1, hW.trans (k2.mono hW.size)⟩
 have HB0 : Hid (Below w.heap.size w w) := Below.refl _ _
 clear h
 go_enter Tryz.func67, Tryz.ntmps67
 go_wp2_with (first
  | (go_at_call 65; have HNX := HB0; (refine (CS.out _ HB0.out).mono ?_); rintro e w1 ⟨rfl, hb⟩; have HB1 : Hid (Below w.heap.size w w1) := hb; clear hb HNX HB0))
 go_ret
 exact ⟨rfl, by first | exact HB1.out | exact HB1.out.alloc HB1.out.size _⟩
theorem stepBegins_m3 {w : World} {pb b c : Nat} {T : List Tok} {st : Pst} (h : PaS w pb b c T st) (hT : T.length ≤ 200) (hat : st.at' ≤ 300) {us : ByteArray} {uk un : Int} (hu : seeM T st 0 = ⟨5, us, un⟩) (n0 : (us.toList == [46, 46]) = false) (n1 : (us.toList == [46]) = false) (n2 : (us.toList == [64]) = false) (y : (us.toList == [42]) = true) :
 Calls Tryz.prog 67 #[.pointer (some ⟨pb, 0, none⟩)] w fun e w' => e = .returned (.bool true) ∧ Below w.heap.size w w' := by
 have CS : Hid (∀ W, Below w.heap.size w W → Calls Tryz.prog 65 #[.pointer (some ⟨pb, 0, none⟩), .int .i64 0] W fun e w' => e = .returned (.agg #[.int .i64 5, .string us, .int .i64 un]) ∧ Below w.heap.size w w') := fun W hW => (see_lit (h.below hW) 0 (by omega) hT hat hu).mono fun e w' ⟨k1, k2⟩ => ⟨k1, hW.trans (k2.mono hW.size)⟩
 have HB0 : Hid (Below w.heap.size w w) := Below.refl _ _
 clear h
 go_enter Tryz.func67, Tryz.ntmps67
 go_wp2_with (first
  | (go_at_call 65; have HNX := HB0; (refine (CS.out _ HB0.out).mono ?_); rintro e w1 ⟨rfl, hb⟩; have HB1 : Hid (Below w.heap.size w w1) := hb; clear hb HNX HB0))
 go_ret
 exact ⟨rfl, by first | exact HB1.out | exact HB1.out.alloc HB1.out.size _⟩
theorem stepBegins_m4 {w : World} {pb b c : Nat} {T : List Tok} {st : Pst} (h : PaS w pb b c T st) (hT : T.length ≤ 200) (hat : st.at' ≤ 300) {us : ByteArray} {uk un : Int} (hu : seeM T st 0 = ⟨5, us, un⟩) (n0 : (us.toList == [46, 46]) = false) (n1 : (us.toList == [46]) = false) (n2 : (us.toList == [64]) = false) (n3 : (us.toList == [42]) = false) (y : (us.toList == [40]) = true) :
 Calls Tryz.prog 67 #[.pointer (some ⟨pb, 0, none⟩)] w fun e w' => e = .returned (.bool true) ∧ Below w.heap.size w w' := by
 have CS : Hid (∀ W, Below w.heap.size w W → Calls Tryz.prog 65 #[.pointer (some ⟨pb, 0, none⟩), .int .i64 0] W fun e w' => e = .returned (.agg #[.int .i64 5, .string us, .int .i64 un]) ∧ Below w.heap.size w w') := fun W hW => (see_lit (h.below hW) 0 (by omega) hT hat hu).mono fun e w' ⟨k1, k2⟩ => ⟨k1, hW.trans (k2.mono hW.size)⟩
 have HB0 : Hid (Below w.heap.size w w) := Below.refl _ _
 clear h
 go_enter Tryz.func67, Tryz.ntmps67
 go_wp2_with (first
  | (go_at_call 65; have HNX := HB0; (refine (CS.out _ HB0.out).mono ?_); rintro e w1 ⟨rfl, hb⟩; have HB1 : Hid (Below w.heap.size w w1) := hb; clear hb HNX HB0))
 go_ret
 exact ⟨rfl, by first | exact HB1.out | exact HB1.out.alloc HB1.out.size _⟩
theorem stepBegins_m5 {w : World} {pb b c : Nat} {T : List Tok} {st : Pst} (h : PaS w pb b c T st) (hT : T.length ≤ 200) (hat : st.at' ≤ 300) {us : ByteArray} {uk un : Int} (hu : seeM T st 0 = ⟨5, us, un⟩) (n0 : (us.toList == [46, 46]) = false) (n1 : (us.toList == [46]) = false) (n2 : (us.toList == [64]) = false) (n3 : (us.toList == [42]) = false) (n4 : (us.toList == [40]) = false) :
 Calls Tryz.prog 67 #[.pointer (some ⟨pb, 0, none⟩)] w fun e w' => e = .returned (.bool false) ∧ Below w.heap.size w w' := by
 have CS : Hid (∀ W, Below w.heap.size w W → Calls Tryz.prog 65 #[.pointer (some ⟨pb, 0, none⟩), .int .i64 0] W fun e w' => e = .returned (.agg #[.int .i64 5, .string us, .int .i64 un]) ∧ Below w.heap.size w w') := fun W hW => (see_lit (h.below hW) 0 (by omega) hT hat hu).mono fun e w' ⟨k1, k2⟩ => ⟨k1, hW.trans (k2.mono hW.size)⟩
 have HB0 : Hid (Below w.heap.size w w) := Below.refl _ _
 clear h
 go_enter Tryz.func67, Tryz.ntmps67
 go_wp2_with (first
  | (go_at_call 65; have HNX := HB0; (refine (CS.out _ HB0.out).mono ?_); rintro e w1 ⟨rfl, hb⟩; have HB1 : Hid (Below w.heap.size w w1) := hb; clear hb HNX HB0))
 go_ret
 exact ⟨rfl, by first | exact HB1.out | exact HB1.out.alloc HB1.out.size _⟩
theorem stepBegins_no {w : World} {pb b c : Nat} {T : List Tok} {st : Pst} (h : PaS w pb b c T st) (hT : T.length ≤ 200) (hat : st.at' ≤ 300) {us : ByteArray} {uk un : Int} (hu : seeM T st 0 = ⟨uk, us, un⟩) (q1 : (uk == 1) = false) (q2 : (uk == 2) = false) (q3 : (uk == 3) = false) (q4 : (uk == 4) = false) (q5 : (uk == 5) = false) :
 Calls Tryz.prog 67 #[.pointer (some ⟨pb, 0, none⟩)] w fun e w' => e = .returned (.bool false) ∧ Below w.heap.size w w' := by
 have CS : Hid (∀ W, Below w.heap.size w W → Calls Tryz.prog 65 #[.pointer (some ⟨pb, 0, none⟩), .int .i64 0] W fun e w' => e = .returned (.agg #[.int .i64 uk, .string us, .int .i64 un]) ∧ Below w.heap.size w w') := fun W hW => (see_lit (h.below hW) 0 (by omega) hT hat hu).mono fun e w' ⟨k1, k2⟩ => ⟨k1, hW.trans (k2.mono hW.size)⟩
 have HB0 : Hid (Below w.heap.size w w) := Below.refl _ _
 clear h
 go_enter Tryz.func67, Tryz.ntmps67
 go_wp2_with (first
  | (go_at_call 65; have HNX := HB0; (refine (CS.out _ HB0.out).mono ?_); rintro e w1 ⟨rfl, hb⟩; have HB1 : Hid (Below w.heap.size w w1) := hb; clear hb HNX HB0))
 go_ret
 exact ⟨rfl, by first | exact HB1.out | exact HB1.out.alloc HB1.out.size _⟩
theorem stepBegins_any {w : World} {pb b c : Nat} {T : List Tok} {st : Pst} (h : PaS w pb b c T st) (hT : T.length ≤ 200) (hat : st.at' ≤ 300) : Calls Tryz.prog 67 #[.pointer (some ⟨pb, 0, none⟩)] w fun e w' => e = .returned (.bool (stepB (seeM T st 0))) ∧ Below w.heap.size w w' := by
 obtain ⟨⟨uk, us, un⟩, hu⟩ : ∃ u, seeM T st 0 = u := ⟨_, rfl⟩
 rw [hu]
 by_cases e1 : uk = 1
 · subst e1; exact stepBegins_k1 (uk := 0) h hT hat hu
 by_cases e2 : uk = 2
 · subst e2; exact stepBegins_k2 (uk := 0) h hT hat hu
 by_cases e3 : uk = 3
 · subst e3; exact stepBegins_k3 (uk := 0) h hT hat hu
 by_cases e4 : uk = 4
 · subst e4; exact stepBegins_k4 (uk := 0) h hT hat hu
 by_cases e5 : uk = 5
 · subst e5
   by_cases y0 : (us.toList == [46, 46]) = true
   · have := stepBegins_m0 (uk := 0) h hT hat hu  y0
     rwa [show stepB ⟨5, us, un⟩ = true by simp only [stepB, y0]; simp]
   have n0 := Bool.eq_false_iff.2 y0
   by_cases y1 : (us.toList == [46]) = true
   · have := stepBegins_m1 (uk := 0) h hT hat hu n0 y1
     rwa [show stepB ⟨5, us, un⟩ = true by simp only [stepB, y1]; simp]
   have n1 := Bool.eq_false_iff.2 y1
   by_cases y2 : (us.toList == [64]) = true
   · have := stepBegins_m2 (uk := 0) h hT hat hu n0 n1 y2
     rwa [show stepB ⟨5, us, un⟩ = true by simp only [stepB, y2]; simp]
   have n2 := Bool.eq_false_iff.2 y2
   by_cases y3 : (us.toList == [42]) = true
   · have := stepBegins_m3 (uk := 0) h hT hat hu n0 n1 n2 y3
     rwa [show stepB ⟨5, us, un⟩ = true by simp only [stepB, y3]; simp]
   have n3 := Bool.eq_false_iff.2 y3
   by_cases y4 : (us.toList == [40]) = true
   · have := stepBegins_m4 (uk := 0) h hT hat hu n0 n1 n2 n3 y4
     rwa [show stepB ⟨5, us, un⟩ = true by simp only [stepB, y4]; simp]
   have n4 := Bool.eq_false_iff.2 y4
   have := stepBegins_m5 (uk := 0) h hT hat hu n0 n1 n2 n3 n4
   rwa [show stepB ⟨5, us, un⟩ = false by simp only [stepB, n0, n1, n2, n3, n4]; rfl]
 have q1 := beq_eq_false_iff_ne.2 e1
 have q2 := beq_eq_false_iff_ne.2 e2
 have q3 := beq_eq_false_iff_ne.2 e3
 have q4 := beq_eq_false_iff_ne.2 e4
 have q5 := beq_eq_false_iff_ne.2 e5
 have := stepBegins_no h hT hat hu q1 q2 q3 q4 q5
 rwa [show stepB ⟨uk, us, un⟩ = false by simp only [stepB, q1, q2, q3, q4, q5]; rfl]
end Go.Proofs.YtbnlekhjgkojlaaGreatDoor
