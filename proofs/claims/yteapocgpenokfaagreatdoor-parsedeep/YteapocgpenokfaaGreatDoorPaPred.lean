/-
  WHAT THE PARSER ASKS OF THE NEXT TOKENS, where only four are seen.
-/
import Derived.Test.YteapocgpenokfaaGreatDoorPaRun
set_option linter.unusedVariables false
namespace Go.Proofs.YteapocgpenokfaaGreatDoor
set_option maxRecDepth 100000
open Go.RowKit

/-- a step begins -/
def sbM (u : Tok) : Bool := eqT u lpT || eqT u oneT
set_option maxHeartbeats 1600000 in
theorem stepBegins_tok0 {w : World} {pb b c : Nat} {T : List Tok} {st : Pst} (h : PaS w pb b c T st) (hT : T.length ≤ 200) (hat : st.at' ≤ 300) (hu : seeM T st 0 = tok0) :
    Calls Tryz.prog 52 #[.pointer (some ⟨pb, 0, none⟩)] w fun e w' => e = .returned (.bool false) ∧ Below w.heap.size w w' := by
  have HS : Hid (∀ W, Below w.heap.size w W → PaS W pb b c T st) := fun W hW => h.below hW
  have CS : Hid (∀ W, Below w.heap.size w W → Calls Tryz.prog 50 #[.pointer (some ⟨pb, 0, none⟩), .int .i64 0] W fun e w' => e = .returned (.agg #[.int .i64 0, .string ⟨#[]⟩, .int .i64 0]) ∧ Below w.heap.size w w') := fun W hW => (see_lit (h.below hW) 0 (by omega) hT hat hu).mono fun e w' ⟨k1, k2⟩ => ⟨k1, hW.trans (k2.mono hW.size)⟩
  have HB0 : Hid (Below w.heap.size w w) := Below.refl _ _
  clear h
  go_enter Tryz.func52, Tryz.ntmps52
  go_wp2_with (first
    | (go_at_call 50; (first | refine (CS.out _ HB0.out).mono ?_ | refine (CS.out _ HB1.out).mono ?_ | refine (CS.out _ (HB1.out.alloc HB1.out.size _)).mono ?_); rintro e w1 ⟨rfl, hb⟩; have HB1 : Hid (Below w.heap.size w w1) := hb; clear hb HB0))
  go_ret
  exact ⟨rfl, by first | exact HB1.out | exact HB1.out.alloc HB1.out.size _⟩
set_option maxHeartbeats 1600000 in
theorem stepBegins_lpT {w : World} {pb b c : Nat} {T : List Tok} {st : Pst} (h : PaS w pb b c T st) (hT : T.length ≤ 200) (hat : st.at' ≤ 300) (hu : seeM T st 0 = lpT) :
    Calls Tryz.prog 52 #[.pointer (some ⟨pb, 0, none⟩)] w fun e w' => e = .returned (.bool true) ∧ Below w.heap.size w w' := by
  have HS : Hid (∀ W, Below w.heap.size w W → PaS W pb b c T st) := fun W hW => h.below hW
  have CS : Hid (∀ W, Below w.heap.size w W → Calls Tryz.prog 50 #[.pointer (some ⟨pb, 0, none⟩), .int .i64 0] W fun e w' => e = .returned (.agg #[.int .i64 5, .string ⟨#[40]⟩, .int .i64 0]) ∧ Below w.heap.size w w') := fun W hW => (see_lit (h.below hW) 0 (by omega) hT hat hu).mono fun e w' ⟨k1, k2⟩ => ⟨k1, hW.trans (k2.mono hW.size)⟩
  have HB0 : Hid (Below w.heap.size w w) := Below.refl _ _
  clear h
  go_enter Tryz.func52, Tryz.ntmps52
  go_wp2_with (first
    | (go_at_call 50; (first | refine (CS.out _ HB0.out).mono ?_ | refine (CS.out _ HB1.out).mono ?_ | refine (CS.out _ (HB1.out.alloc HB1.out.size _)).mono ?_); rintro e w1 ⟨rfl, hb⟩; have HB1 : Hid (Below w.heap.size w w1) := hb; clear hb HB0))
  go_ret
  exact ⟨rfl, by first | exact HB1.out | exact HB1.out.alloc HB1.out.size _⟩
set_option maxHeartbeats 1600000 in
theorem stepBegins_rpT {w : World} {pb b c : Nat} {T : List Tok} {st : Pst} (h : PaS w pb b c T st) (hT : T.length ≤ 200) (hat : st.at' ≤ 300) (hu : seeM T st 0 = rpT) :
    Calls Tryz.prog 52 #[.pointer (some ⟨pb, 0, none⟩)] w fun e w' => e = .returned (.bool false) ∧ Below w.heap.size w w' := by
  have HS : Hid (∀ W, Below w.heap.size w W → PaS W pb b c T st) := fun W hW => h.below hW
  have CS : Hid (∀ W, Below w.heap.size w W → Calls Tryz.prog 50 #[.pointer (some ⟨pb, 0, none⟩), .int .i64 0] W fun e w' => e = .returned (.agg #[.int .i64 5, .string ⟨#[41]⟩, .int .i64 0]) ∧ Below w.heap.size w w') := fun W hW => (see_lit (h.below hW) 0 (by omega) hT hat hu).mono fun e w' ⟨k1, k2⟩ => ⟨k1, hW.trans (k2.mono hW.size)⟩
  have HB0 : Hid (Below w.heap.size w w) := Below.refl _ _
  clear h
  go_enter Tryz.func52, Tryz.ntmps52
  go_wp2_with (first
    | (go_at_call 50; (first | refine (CS.out _ HB0.out).mono ?_ | refine (CS.out _ HB1.out).mono ?_ | refine (CS.out _ (HB1.out.alloc HB1.out.size _)).mono ?_); rintro e w1 ⟨rfl, hb⟩; have HB1 : Hid (Below w.heap.size w w1) := hb; clear hb HB0))
  go_ret
  exact ⟨rfl, by first | exact HB1.out | exact HB1.out.alloc HB1.out.size _⟩
set_option maxHeartbeats 1600000 in
theorem stepBegins_oneT {w : World} {pb b c : Nat} {T : List Tok} {st : Pst} (h : PaS w pb b c T st) (hT : T.length ≤ 200) (hat : st.at' ≤ 300) (hu : seeM T st 0 = oneT) :
    Calls Tryz.prog 52 #[.pointer (some ⟨pb, 0, none⟩)] w fun e w' => e = .returned (.bool true) ∧ Below w.heap.size w w' := by
  have HS : Hid (∀ W, Below w.heap.size w W → PaS W pb b c T st) := fun W hW => h.below hW
  have CS : Hid (∀ W, Below w.heap.size w W → Calls Tryz.prog 50 #[.pointer (some ⟨pb, 0, none⟩), .int .i64 0] W fun e w' => e = .returned (.agg #[.int .i64 2, .string ⟨#[]⟩, .int .i64 1]) ∧ Below w.heap.size w w') := fun W hW => (see_lit (h.below hW) 0 (by omega) hT hat hu).mono fun e w' ⟨k1, k2⟩ => ⟨k1, hW.trans (k2.mono hW.size)⟩
  have HB0 : Hid (Below w.heap.size w w) := Below.refl _ _
  clear h
  go_enter Tryz.func52, Tryz.ntmps52
  go_wp2_with (first
    | (go_at_call 50; (first | refine (CS.out _ HB0.out).mono ?_ | refine (CS.out _ HB1.out).mono ?_ | refine (CS.out _ (HB1.out.alloc HB1.out.size _)).mono ?_); rintro e w1 ⟨rfl, hb⟩; have HB1 : Hid (Below w.heap.size w w1) := hb; clear hb HB0))
  go_ret
  exact ⟨rfl, by first | exact HB1.out | exact HB1.out.alloc HB1.out.size _⟩
theorem stepBegins_is {w : World} {pb b c : Nat} {T : List Tok} {st : Pst} (h : PaS w pb b c T st) (hT : T.length ≤ 200) (hat : st.at' ≤ 300) (hc : Cls (seeM T st 0)) :
    Calls Tryz.prog 52 #[.pointer (some ⟨pb, 0, none⟩)] w fun e w' => e = .returned (.bool (sbM (seeM T st 0))) ∧ Below w.heap.size w w' := by
  rcases hc with hu | hu | hu | hu
  · rw [hu, show sbM tok0 = false by decide]; exact stepBegins_tok0 h hT hat hu
  · rw [hu, show sbM lpT = true by decide]; exact stepBegins_lpT h hT hat hu
  · rw [hu, show sbM rpT = false by decide]; exact stepBegins_rpT h hT hat hu
  · rw [hu, show sbM oneT = true by decide]; exact stepBegins_oneT h hT hat hu
set_option maxHeartbeats 1600000 in
theorem singleBegins_tok0 {w : World} {pb b c : Nat} {T : List Tok} {st : Pst} (h : PaS w pb b c T st) (hT : T.length ≤ 200) (hat : st.at' ≤ 300) (hu : seeM T st 0 = tok0) :
    Calls Tryz.prog 34 #[.pointer (some ⟨pb, 0, none⟩)] w fun e w' => e = .returned (.bool false) ∧ Below w.heap.size w w' := by
  have HS : Hid (∀ W, Below w.heap.size w W → PaS W pb b c T st) := fun W hW => h.below hW
  have CS : Hid (∀ W, Below w.heap.size w W → Calls Tryz.prog 50 #[.pointer (some ⟨pb, 0, none⟩), .int .i64 0] W fun e w' => e = .returned (.agg #[.int .i64 0, .string ⟨#[]⟩, .int .i64 0]) ∧ Below w.heap.size w w') := fun W hW => (see_lit (h.below hW) 0 (by omega) hT hat hu).mono fun e w' ⟨k1, k2⟩ => ⟨k1, hW.trans (k2.mono hW.size)⟩
  have HB0 : Hid (Below w.heap.size w w) := Below.refl _ _
  have CSB : Hid (∀ W, Below w.heap.size w W → Calls Tryz.prog 52 #[.pointer (some ⟨pb, 0, none⟩)] W fun e w' => e = .returned (.bool false) ∧ Below W.heap.size W w') := fun W hW => stepBegins_tok0 (h.below hW) hT hat hu
  clear h
  go_enter Tryz.func34, Tryz.ntmps34
  go_wp2_with (first
    | (go_at_call 50; (first | refine (CS.out _ HB0.out).mono ?_ | refine (CS.out _ HB1.out).mono ?_ | refine (CS.out _ (HB1.out.alloc HB1.out.size _)).mono ?_); rintro e w1 ⟨rfl, hb⟩; have HB1 : Hid (Below w.heap.size w w1) := hb; clear hb HB0)
    | (go_at_call 51; refine (mark_is _ _).mono ?_; rintro e w2 ⟨rfl, hb⟩; have HB2 : Hid (Below w.heap.size w w2) := (by first | exact HB1.out.trans (hb.mono HB1.out.size) | exact (HB1.out.alloc HB1.out.size _).trans (hb.mono (by have := HB1.out.size; simp; omega))); clear hb)
    | (go_at_call 51; refine (mark_is _ _).mono ?_; rintro e w3 ⟨rfl, hb⟩; have HB3 : Hid (Below w.heap.size w w3) := (by first | exact HB2.out.trans (hb.mono HB2.out.size) | exact (HB2.out.alloc HB2.out.size _).trans (hb.mono (by have := HB2.out.size; simp; omega))); clear hb)
    | (go_at_call 51; refine (mark_is _ _).mono ?_; rintro e w4 ⟨rfl, hb⟩; have HB4 : Hid (Below w.heap.size w w4) := (by first | exact HB3.out.trans (hb.mono HB3.out.size) | exact (HB3.out.alloc HB3.out.size _).trans (hb.mono (by have := HB3.out.size; simp; omega))); clear hb)
    | (go_at_call 52; refine (CSB.out _ HB4.out).mono ?_; rintro e w5 ⟨rfl, hb⟩; have HB5 : Hid (Below w.heap.size w w5) := (by first | exact HB4.out.trans (hb.mono HB4.out.size) | exact (HB4.out.alloc HB4.out.size _).trans (hb.mono (by have := HB4.out.size; simp; omega))); clear hb))
  go_ret
  exact ⟨rfl, by first | exact HB5.out | exact HB5.out.alloc HB5.out.size _⟩
set_option maxHeartbeats 1600000 in
theorem singleBegins_lpT {w : World} {pb b c : Nat} {T : List Tok} {st : Pst} (h : PaS w pb b c T st) (hT : T.length ≤ 200) (hat : st.at' ≤ 300) (hu : seeM T st 0 = lpT) :
    Calls Tryz.prog 34 #[.pointer (some ⟨pb, 0, none⟩)] w fun e w' => e = .returned (.bool true) ∧ Below w.heap.size w w' := by
  have HS : Hid (∀ W, Below w.heap.size w W → PaS W pb b c T st) := fun W hW => h.below hW
  have CS : Hid (∀ W, Below w.heap.size w W → Calls Tryz.prog 50 #[.pointer (some ⟨pb, 0, none⟩), .int .i64 0] W fun e w' => e = .returned (.agg #[.int .i64 5, .string ⟨#[40]⟩, .int .i64 0]) ∧ Below w.heap.size w w') := fun W hW => (see_lit (h.below hW) 0 (by omega) hT hat hu).mono fun e w' ⟨k1, k2⟩ => ⟨k1, hW.trans (k2.mono hW.size)⟩
  have HB0 : Hid (Below w.heap.size w w) := Below.refl _ _
  have CSB : Hid (∀ W, Below w.heap.size w W → Calls Tryz.prog 52 #[.pointer (some ⟨pb, 0, none⟩)] W fun e w' => e = .returned (.bool true) ∧ Below W.heap.size W w') := fun W hW => stepBegins_lpT (h.below hW) hT hat hu
  clear h
  go_enter Tryz.func34, Tryz.ntmps34
  go_wp2_with (first
    | (go_at_call 50; (first | refine (CS.out _ HB0.out).mono ?_ | refine (CS.out _ HB1.out).mono ?_ | refine (CS.out _ (HB1.out.alloc HB1.out.size _)).mono ?_); rintro e w1 ⟨rfl, hb⟩; have HB1 : Hid (Below w.heap.size w w1) := hb; clear hb HB0)
    | (go_at_call 51; refine (mark_is _ _).mono ?_; rintro e w2 ⟨rfl, hb⟩; have HB2 : Hid (Below w.heap.size w w2) := (by first | exact HB1.out.trans (hb.mono HB1.out.size) | exact (HB1.out.alloc HB1.out.size _).trans (hb.mono (by have := HB1.out.size; simp; omega))); clear hb)
    | (go_at_call 51; refine (mark_is _ _).mono ?_; rintro e w3 ⟨rfl, hb⟩; have HB3 : Hid (Below w.heap.size w w3) := (by first | exact HB2.out.trans (hb.mono HB2.out.size) | exact (HB2.out.alloc HB2.out.size _).trans (hb.mono (by have := HB2.out.size; simp; omega))); clear hb)
    | (go_at_call 51; refine (mark_is _ _).mono ?_; rintro e w4 ⟨rfl, hb⟩; have HB4 : Hid (Below w.heap.size w w4) := (by first | exact HB3.out.trans (hb.mono HB3.out.size) | exact (HB3.out.alloc HB3.out.size _).trans (hb.mono (by have := HB3.out.size; simp; omega))); clear hb)
    | (go_at_call 52; refine (CSB.out _ HB4.out).mono ?_; rintro e w5 ⟨rfl, hb⟩; have HB5 : Hid (Below w.heap.size w w5) := (by first | exact HB4.out.trans (hb.mono HB4.out.size) | exact (HB4.out.alloc HB4.out.size _).trans (hb.mono (by have := HB4.out.size; simp; omega))); clear hb))
  go_ret
  exact ⟨rfl, by first | exact HB5.out | exact HB5.out.alloc HB5.out.size _⟩
set_option maxHeartbeats 1600000 in
theorem singleBegins_rpT {w : World} {pb b c : Nat} {T : List Tok} {st : Pst} (h : PaS w pb b c T st) (hT : T.length ≤ 200) (hat : st.at' ≤ 300) (hu : seeM T st 0 = rpT) :
    Calls Tryz.prog 34 #[.pointer (some ⟨pb, 0, none⟩)] w fun e w' => e = .returned (.bool false) ∧ Below w.heap.size w w' := by
  have HS : Hid (∀ W, Below w.heap.size w W → PaS W pb b c T st) := fun W hW => h.below hW
  have CS : Hid (∀ W, Below w.heap.size w W → Calls Tryz.prog 50 #[.pointer (some ⟨pb, 0, none⟩), .int .i64 0] W fun e w' => e = .returned (.agg #[.int .i64 5, .string ⟨#[41]⟩, .int .i64 0]) ∧ Below w.heap.size w w') := fun W hW => (see_lit (h.below hW) 0 (by omega) hT hat hu).mono fun e w' ⟨k1, k2⟩ => ⟨k1, hW.trans (k2.mono hW.size)⟩
  have HB0 : Hid (Below w.heap.size w w) := Below.refl _ _
  have CSB : Hid (∀ W, Below w.heap.size w W → Calls Tryz.prog 52 #[.pointer (some ⟨pb, 0, none⟩)] W fun e w' => e = .returned (.bool false) ∧ Below W.heap.size W w') := fun W hW => stepBegins_rpT (h.below hW) hT hat hu
  clear h
  go_enter Tryz.func34, Tryz.ntmps34
  go_wp2_with (first
    | (go_at_call 50; (first | refine (CS.out _ HB0.out).mono ?_ | refine (CS.out _ HB1.out).mono ?_ | refine (CS.out _ (HB1.out.alloc HB1.out.size _)).mono ?_); rintro e w1 ⟨rfl, hb⟩; have HB1 : Hid (Below w.heap.size w w1) := hb; clear hb HB0)
    | (go_at_call 51; refine (mark_is _ _).mono ?_; rintro e w2 ⟨rfl, hb⟩; have HB2 : Hid (Below w.heap.size w w2) := (by first | exact HB1.out.trans (hb.mono HB1.out.size) | exact (HB1.out.alloc HB1.out.size _).trans (hb.mono (by have := HB1.out.size; simp; omega))); clear hb)
    | (go_at_call 51; refine (mark_is _ _).mono ?_; rintro e w3 ⟨rfl, hb⟩; have HB3 : Hid (Below w.heap.size w w3) := (by first | exact HB2.out.trans (hb.mono HB2.out.size) | exact (HB2.out.alloc HB2.out.size _).trans (hb.mono (by have := HB2.out.size; simp; omega))); clear hb)
    | (go_at_call 51; refine (mark_is _ _).mono ?_; rintro e w4 ⟨rfl, hb⟩; have HB4 : Hid (Below w.heap.size w w4) := (by first | exact HB3.out.trans (hb.mono HB3.out.size) | exact (HB3.out.alloc HB3.out.size _).trans (hb.mono (by have := HB3.out.size; simp; omega))); clear hb)
    | (go_at_call 52; refine (CSB.out _ HB4.out).mono ?_; rintro e w5 ⟨rfl, hb⟩; have HB5 : Hid (Below w.heap.size w w5) := (by first | exact HB4.out.trans (hb.mono HB4.out.size) | exact (HB4.out.alloc HB4.out.size _).trans (hb.mono (by have := HB4.out.size; simp; omega))); clear hb))
  go_ret
  exact ⟨rfl, by first | exact HB5.out | exact HB5.out.alloc HB5.out.size _⟩
set_option maxHeartbeats 1600000 in
theorem singleBegins_oneT {w : World} {pb b c : Nat} {T : List Tok} {st : Pst} (h : PaS w pb b c T st) (hT : T.length ≤ 200) (hat : st.at' ≤ 300) (hu : seeM T st 0 = oneT) :
    Calls Tryz.prog 34 #[.pointer (some ⟨pb, 0, none⟩)] w fun e w' => e = .returned (.bool true) ∧ Below w.heap.size w w' := by
  have HS : Hid (∀ W, Below w.heap.size w W → PaS W pb b c T st) := fun W hW => h.below hW
  have CS : Hid (∀ W, Below w.heap.size w W → Calls Tryz.prog 50 #[.pointer (some ⟨pb, 0, none⟩), .int .i64 0] W fun e w' => e = .returned (.agg #[.int .i64 2, .string ⟨#[]⟩, .int .i64 1]) ∧ Below w.heap.size w w') := fun W hW => (see_lit (h.below hW) 0 (by omega) hT hat hu).mono fun e w' ⟨k1, k2⟩ => ⟨k1, hW.trans (k2.mono hW.size)⟩
  have HB0 : Hid (Below w.heap.size w w) := Below.refl _ _
  have CSB : Hid (∀ W, Below w.heap.size w W → Calls Tryz.prog 52 #[.pointer (some ⟨pb, 0, none⟩)] W fun e w' => e = .returned (.bool true) ∧ Below W.heap.size W w') := fun W hW => stepBegins_oneT (h.below hW) hT hat hu
  clear h
  go_enter Tryz.func34, Tryz.ntmps34
  go_wp2_with (first
    | (go_at_call 50; (first | refine (CS.out _ HB0.out).mono ?_ | refine (CS.out _ HB1.out).mono ?_ | refine (CS.out _ (HB1.out.alloc HB1.out.size _)).mono ?_); rintro e w1 ⟨rfl, hb⟩; have HB1 : Hid (Below w.heap.size w w1) := hb; clear hb HB0)
    | (go_at_call 51; refine (mark_is _ _).mono ?_; rintro e w2 ⟨rfl, hb⟩; have HB2 : Hid (Below w.heap.size w w2) := (by first | exact HB1.out.trans (hb.mono HB1.out.size) | exact (HB1.out.alloc HB1.out.size _).trans (hb.mono (by have := HB1.out.size; simp; omega))); clear hb)
    | (go_at_call 51; refine (mark_is _ _).mono ?_; rintro e w3 ⟨rfl, hb⟩; have HB3 : Hid (Below w.heap.size w w3) := (by first | exact HB2.out.trans (hb.mono HB2.out.size) | exact (HB2.out.alloc HB2.out.size _).trans (hb.mono (by have := HB2.out.size; simp; omega))); clear hb)
    | (go_at_call 51; refine (mark_is _ _).mono ?_; rintro e w4 ⟨rfl, hb⟩; have HB4 : Hid (Below w.heap.size w w4) := (by first | exact HB3.out.trans (hb.mono HB3.out.size) | exact (HB3.out.alloc HB3.out.size _).trans (hb.mono (by have := HB3.out.size; simp; omega))); clear hb)
    | (go_at_call 52; refine (CSB.out _ HB4.out).mono ?_; rintro e w5 ⟨rfl, hb⟩; have HB5 : Hid (Below w.heap.size w w5) := (by first | exact HB4.out.trans (hb.mono HB4.out.size) | exact (HB4.out.alloc HB4.out.size _).trans (hb.mono (by have := HB4.out.size; simp; omega))); clear hb))
  go_ret
  exact ⟨rfl, by first | exact HB5.out | exact HB5.out.alloc HB5.out.size _⟩
theorem singleBegins_is {w : World} {pb b c : Nat} {T : List Tok} {st : Pst} (h : PaS w pb b c T st) (hT : T.length ≤ 200) (hat : st.at' ≤ 300) (hc : Cls (seeM T st 0)) :
    Calls Tryz.prog 34 #[.pointer (some ⟨pb, 0, none⟩)] w fun e w' => e = .returned (.bool (sbM (seeM T st 0))) ∧ Below w.heap.size w w' := by
  rcases hc with hu | hu | hu | hu
  · rw [hu, show sbM tok0 = false by decide]; exact singleBegins_tok0 h hT hat hu
  · rw [hu, show sbM lpT = true by decide]; exact singleBegins_lpT h hT hat hu
  · rw [hu, show sbM rpT = false by decide]; exact singleBegins_rpT h hT hat hu
  · rw [hu, show sbM oneT = true by decide]; exact singleBegins_oneT h hT hat hu
set_option maxHeartbeats 1600000 in
theorem makeBegins_tok0 {w : World} {pb b c : Nat} {T : List Tok} {st : Pst} (h : PaS w pb b c T st) (hT : T.length ≤ 200) (hat : st.at' ≤ 300) (hu : seeM T st 0 = tok0) :
    Calls Tryz.prog 100 #[.pointer (some ⟨pb, 0, none⟩)] w fun e w' => e = .returned (.bool false) ∧ Below w.heap.size w w' := by
  have HS : Hid (∀ W, Below w.heap.size w W → PaS W pb b c T st) := fun W hW => h.below hW
  have CS : Hid (∀ W, Below w.heap.size w W → Calls Tryz.prog 50 #[.pointer (some ⟨pb, 0, none⟩), .int .i64 0] W fun e w' => e = .returned (.agg #[.int .i64 0, .string ⟨#[]⟩, .int .i64 0]) ∧ Below w.heap.size w w') := fun W hW => (see_lit (h.below hW) 0 (by omega) hT hat hu).mono fun e w' ⟨k1, k2⟩ => ⟨k1, hW.trans (k2.mono hW.size)⟩
  have HB0 : Hid (Below w.heap.size w w) := Below.refl _ _
  clear h
  go_enter Tryz.func100, Tryz.ntmps100
  go_wp2_with (first
    | (go_at_call 50; (first | refine (CS.out _ HB0.out).mono ?_ | refine (CS.out _ HB1.out).mono ?_ | refine (CS.out _ (HB1.out.alloc HB1.out.size _)).mono ?_); rintro e w1 ⟨rfl, hb⟩; have HB1 : Hid (Below w.heap.size w w1) := hb; clear hb HB0)
    | (go_at_call 63; refine (word_is _ _).mono ?_; rintro e w2 ⟨rfl, hb⟩; have HB2 : Hid (Below w.heap.size w w2) := (by first | exact HB1.out.trans (hb.mono HB1.out.size) | exact (HB1.out.alloc HB1.out.size _).trans (hb.mono (by have := HB1.out.size; simp; omega))); clear hb)
    | (go_at_call 63; refine (word_is _ _).mono ?_; rintro e w3 ⟨rfl, hb⟩; have HB3 : Hid (Below w.heap.size w w3) := (by first | exact HB2.out.trans (hb.mono HB2.out.size) | exact (HB2.out.alloc HB2.out.size _).trans (hb.mono (by have := HB2.out.size; simp; omega))); clear hb)
    | (go_at_call 63; refine (word_is _ _).mono ?_; rintro e w4 ⟨rfl, hb⟩; have HB4 : Hid (Below w.heap.size w w4) := (by first | exact HB3.out.trans (hb.mono HB3.out.size) | exact (HB3.out.alloc HB3.out.size _).trans (hb.mono (by have := HB3.out.size; simp; omega))); clear hb))
  go_ret
  exact ⟨rfl, by first | exact HB4.out | exact HB4.out.alloc HB4.out.size _⟩
set_option maxHeartbeats 1600000 in
theorem makeBegins_lpT {w : World} {pb b c : Nat} {T : List Tok} {st : Pst} (h : PaS w pb b c T st) (hT : T.length ≤ 200) (hat : st.at' ≤ 300) (hu : seeM T st 0 = lpT) :
    Calls Tryz.prog 100 #[.pointer (some ⟨pb, 0, none⟩)] w fun e w' => e = .returned (.bool false) ∧ Below w.heap.size w w' := by
  have HS : Hid (∀ W, Below w.heap.size w W → PaS W pb b c T st) := fun W hW => h.below hW
  have CS : Hid (∀ W, Below w.heap.size w W → Calls Tryz.prog 50 #[.pointer (some ⟨pb, 0, none⟩), .int .i64 0] W fun e w' => e = .returned (.agg #[.int .i64 5, .string ⟨#[40]⟩, .int .i64 0]) ∧ Below w.heap.size w w') := fun W hW => (see_lit (h.below hW) 0 (by omega) hT hat hu).mono fun e w' ⟨k1, k2⟩ => ⟨k1, hW.trans (k2.mono hW.size)⟩
  have HB0 : Hid (Below w.heap.size w w) := Below.refl _ _
  clear h
  go_enter Tryz.func100, Tryz.ntmps100
  go_wp2_with (first
    | (go_at_call 50; (first | refine (CS.out _ HB0.out).mono ?_ | refine (CS.out _ HB1.out).mono ?_ | refine (CS.out _ (HB1.out.alloc HB1.out.size _)).mono ?_); rintro e w1 ⟨rfl, hb⟩; have HB1 : Hid (Below w.heap.size w w1) := hb; clear hb HB0)
    | (go_at_call 63; refine (word_is _ _).mono ?_; rintro e w2 ⟨rfl, hb⟩; have HB2 : Hid (Below w.heap.size w w2) := (by first | exact HB1.out.trans (hb.mono HB1.out.size) | exact (HB1.out.alloc HB1.out.size _).trans (hb.mono (by have := HB1.out.size; simp; omega))); clear hb)
    | (go_at_call 63; refine (word_is _ _).mono ?_; rintro e w3 ⟨rfl, hb⟩; have HB3 : Hid (Below w.heap.size w w3) := (by first | exact HB2.out.trans (hb.mono HB2.out.size) | exact (HB2.out.alloc HB2.out.size _).trans (hb.mono (by have := HB2.out.size; simp; omega))); clear hb)
    | (go_at_call 63; refine (word_is _ _).mono ?_; rintro e w4 ⟨rfl, hb⟩; have HB4 : Hid (Below w.heap.size w w4) := (by first | exact HB3.out.trans (hb.mono HB3.out.size) | exact (HB3.out.alloc HB3.out.size _).trans (hb.mono (by have := HB3.out.size; simp; omega))); clear hb))
  go_ret
  exact ⟨rfl, by first | exact HB4.out | exact HB4.out.alloc HB4.out.size _⟩
set_option maxHeartbeats 1600000 in
theorem makeBegins_rpT {w : World} {pb b c : Nat} {T : List Tok} {st : Pst} (h : PaS w pb b c T st) (hT : T.length ≤ 200) (hat : st.at' ≤ 300) (hu : seeM T st 0 = rpT) :
    Calls Tryz.prog 100 #[.pointer (some ⟨pb, 0, none⟩)] w fun e w' => e = .returned (.bool false) ∧ Below w.heap.size w w' := by
  have HS : Hid (∀ W, Below w.heap.size w W → PaS W pb b c T st) := fun W hW => h.below hW
  have CS : Hid (∀ W, Below w.heap.size w W → Calls Tryz.prog 50 #[.pointer (some ⟨pb, 0, none⟩), .int .i64 0] W fun e w' => e = .returned (.agg #[.int .i64 5, .string ⟨#[41]⟩, .int .i64 0]) ∧ Below w.heap.size w w') := fun W hW => (see_lit (h.below hW) 0 (by omega) hT hat hu).mono fun e w' ⟨k1, k2⟩ => ⟨k1, hW.trans (k2.mono hW.size)⟩
  have HB0 : Hid (Below w.heap.size w w) := Below.refl _ _
  clear h
  go_enter Tryz.func100, Tryz.ntmps100
  go_wp2_with (first
    | (go_at_call 50; (first | refine (CS.out _ HB0.out).mono ?_ | refine (CS.out _ HB1.out).mono ?_ | refine (CS.out _ (HB1.out.alloc HB1.out.size _)).mono ?_); rintro e w1 ⟨rfl, hb⟩; have HB1 : Hid (Below w.heap.size w w1) := hb; clear hb HB0)
    | (go_at_call 63; refine (word_is _ _).mono ?_; rintro e w2 ⟨rfl, hb⟩; have HB2 : Hid (Below w.heap.size w w2) := (by first | exact HB1.out.trans (hb.mono HB1.out.size) | exact (HB1.out.alloc HB1.out.size _).trans (hb.mono (by have := HB1.out.size; simp; omega))); clear hb)
    | (go_at_call 63; refine (word_is _ _).mono ?_; rintro e w3 ⟨rfl, hb⟩; have HB3 : Hid (Below w.heap.size w w3) := (by first | exact HB2.out.trans (hb.mono HB2.out.size) | exact (HB2.out.alloc HB2.out.size _).trans (hb.mono (by have := HB2.out.size; simp; omega))); clear hb)
    | (go_at_call 63; refine (word_is _ _).mono ?_; rintro e w4 ⟨rfl, hb⟩; have HB4 : Hid (Below w.heap.size w w4) := (by first | exact HB3.out.trans (hb.mono HB3.out.size) | exact (HB3.out.alloc HB3.out.size _).trans (hb.mono (by have := HB3.out.size; simp; omega))); clear hb))
  go_ret
  exact ⟨rfl, by first | exact HB4.out | exact HB4.out.alloc HB4.out.size _⟩
set_option maxHeartbeats 1600000 in
theorem makeBegins_oneT {w : World} {pb b c : Nat} {T : List Tok} {st : Pst} (h : PaS w pb b c T st) (hT : T.length ≤ 200) (hat : st.at' ≤ 300) (hu : seeM T st 0 = oneT) :
    Calls Tryz.prog 100 #[.pointer (some ⟨pb, 0, none⟩)] w fun e w' => e = .returned (.bool false) ∧ Below w.heap.size w w' := by
  have HS : Hid (∀ W, Below w.heap.size w W → PaS W pb b c T st) := fun W hW => h.below hW
  have CS : Hid (∀ W, Below w.heap.size w W → Calls Tryz.prog 50 #[.pointer (some ⟨pb, 0, none⟩), .int .i64 0] W fun e w' => e = .returned (.agg #[.int .i64 2, .string ⟨#[]⟩, .int .i64 1]) ∧ Below w.heap.size w w') := fun W hW => (see_lit (h.below hW) 0 (by omega) hT hat hu).mono fun e w' ⟨k1, k2⟩ => ⟨k1, hW.trans (k2.mono hW.size)⟩
  have HB0 : Hid (Below w.heap.size w w) := Below.refl _ _
  clear h
  go_enter Tryz.func100, Tryz.ntmps100
  go_wp2_with (first
    | (go_at_call 50; (first | refine (CS.out _ HB0.out).mono ?_ | refine (CS.out _ HB1.out).mono ?_ | refine (CS.out _ (HB1.out.alloc HB1.out.size _)).mono ?_); rintro e w1 ⟨rfl, hb⟩; have HB1 : Hid (Below w.heap.size w w1) := hb; clear hb HB0)
    | (go_at_call 63; refine (word_is _ _).mono ?_; rintro e w2 ⟨rfl, hb⟩; have HB2 : Hid (Below w.heap.size w w2) := (by first | exact HB1.out.trans (hb.mono HB1.out.size) | exact (HB1.out.alloc HB1.out.size _).trans (hb.mono (by have := HB1.out.size; simp; omega))); clear hb)
    | (go_at_call 63; refine (word_is _ _).mono ?_; rintro e w3 ⟨rfl, hb⟩; have HB3 : Hid (Below w.heap.size w w3) := (by first | exact HB2.out.trans (hb.mono HB2.out.size) | exact (HB2.out.alloc HB2.out.size _).trans (hb.mono (by have := HB2.out.size; simp; omega))); clear hb)
    | (go_at_call 63; refine (word_is _ _).mono ?_; rintro e w4 ⟨rfl, hb⟩; have HB4 : Hid (Below w.heap.size w w4) := (by first | exact HB3.out.trans (hb.mono HB3.out.size) | exact (HB3.out.alloc HB3.out.size _).trans (hb.mono (by have := HB3.out.size; simp; omega))); clear hb))
  go_ret
  exact ⟨rfl, by first | exact HB4.out | exact HB4.out.alloc HB4.out.size _⟩
theorem makeBegins_is {w : World} {pb b c : Nat} {T : List Tok} {st : Pst} (h : PaS w pb b c T st) (hT : T.length ≤ 200) (hat : st.at' ≤ 300) (hc : Cls (seeM T st 0)) :
    Calls Tryz.prog 100 #[.pointer (some ⟨pb, 0, none⟩)] w fun e w' => e = .returned (.bool false) ∧ Below w.heap.size w w' := by
  rcases hc with hu | hu | hu | hu
  · exact makeBegins_tok0 h hT hat hu
  · exact makeBegins_lpT h hT hat hu
  · exact makeBegins_rpT h hT hat hu
  · exact makeBegins_oneT h hT hat hu
set_option maxHeartbeats 1600000 in
theorem childBegins_tok0 {w : World} {pb b c : Nat} {T : List Tok} {st : Pst} (h : PaS w pb b c T st) (hT : T.length ≤ 200) (hat : st.at' ≤ 300) (hu : seeM T st 0 = tok0) :
    Calls Tryz.prog 96 #[.pointer (some ⟨pb, 0, none⟩)] w fun e w' => e = .returned (.bool false) ∧ Below w.heap.size w w' := by
  have HS : Hid (∀ W, Below w.heap.size w W → PaS W pb b c T st) := fun W hW => h.below hW
  have CS : Hid (∀ W, Below w.heap.size w W → Calls Tryz.prog 50 #[.pointer (some ⟨pb, 0, none⟩), .int .i64 0] W fun e w' => e = .returned (.agg #[.int .i64 0, .string ⟨#[]⟩, .int .i64 0]) ∧ Below w.heap.size w w') := fun W hW => (see_lit (h.below hW) 0 (by omega) hT hat hu).mono fun e w' ⟨k1, k2⟩ => ⟨k1, hW.trans (k2.mono hW.size)⟩
  have HB0 : Hid (Below w.heap.size w w) := Below.refl _ _
  clear h
  go_enter Tryz.func96, Tryz.ntmps96
  go_upto_region 2 with (first | (go_at_call 50; (first | refine (CS.out _ HB0.out).mono ?_ | refine (CS.out _ HB1.out).mono ?_ | refine (CS.out _ (HB1.out.alloc HB1.out.size _)).mono ?_); rintro e w1 ⟨rfl, hb⟩; have HB1 : Hid (Below w.heap.size w w1) := hb; clear hb HB0))
  obtain ⟨W2, hW2⟩ : ∃ W, W = w1.alloc (.cells #[.int .i64 0, .string ⟨#[]⟩, .int .i64 0] 41) := ⟨_, rfl⟩
  have HB2 : Hid (Below w.heap.size w W2) := by rw [hW2]; exact HB1.out.alloc HB1.out.size _
  have x0 : W2.cell? ⟨w1.heap.size, 0, none⟩ = some (.int .i64 0) := by rw [hW2]; simp
  have x1 : W2.cell? ⟨w1.heap.size, 1, none⟩ = some (.string ⟨#[]⟩) := by rw [hW2]; simp
  have x2 : W2.cell? ⟨w1.heap.size, 2, none⟩ = some (.int .i64 0) := by rw [hW2]; simp
  have hxl : w1.heap.size < W2.heap.size := by rw [hW2]; simp
  have HSS : Hid (∀ W, Below W2.heap.size W2 W → W.cell? ⟨w1.heap.size, 0, none⟩ = some (.int .i64 0) ∧ W.cell? ⟨w1.heap.size, 1, none⟩ = some (.string ⟨#[]⟩) ∧ W.cell? ⟨w1.heap.size, 2, none⟩ = some (.int .i64 0)) := fun W hb => ⟨(hb.cell (p := ⟨w1.heap.size, 0, none⟩) hxl).trans x0, (hb.cell (p := ⟨w1.heap.size, 1, none⟩) hxl).trans x1, (hb.cell (p := ⟨w1.heap.size, 2, none⟩) hxl).trans x2⟩
  have CM : Hid (∀ W, Below W2.heap.size W2 W → Calls Tryz.prog 51 #[.string ⟨#[42]⟩] W fun e w' => e = .returned (.agg #[.int .i64 5, .string ⟨#[42]⟩, .int .i64 0]) ∧ Below W2.heap.size W2 w') := fun W hW => (mark_is _ W).mono fun e w' ⟨k1, k2⟩ => ⟨k1, hW.trans (k2.mono hW.size)⟩
  rw [← hW2]
  clear hW2 x0 x1 x2 hxl
  go_region_held3 (fun W => W.cell? ⟨w1.heap.size, 0, none⟩ = some (.int .i64 0) ∧ W.cell? ⟨w1.heap.size, 1, none⟩ = some (.string ⟨#[]⟩) ∧ W.cell? ⟨w1.heap.size, 2, none⟩ = some (.int .i64 0))
    ((refine HSS.out _ ?_; repeat (first | exact Hid.out (by assumption) | exact Below.refl _ _ | refine Below.drew ?_)))
    (first
      | (go_at_call 51; refine (CM.out _ ?_).mono ?_; (focus (repeat (first | exact Hid.out (by assumption) | exact Below.refl _ _ | refine Below.drew ?_))); rintro e w3 ⟨rfl, hb3⟩; have HB3 : Hid (Below W2.heap.size W2 w3) := hb3; clear hb3))
  obtain ⟨y0, y1, y2⟩ := HSS.out _ HB3.out
  go_wp2
  go_ret
  exact ⟨rfl, HB2.out.trans (HB3.out.mono HB2.out.size)⟩
set_option maxHeartbeats 1600000 in
theorem childBegins_lpT {w : World} {pb b c : Nat} {T : List Tok} {st : Pst} (h : PaS w pb b c T st) (hT : T.length ≤ 200) (hat : st.at' ≤ 300) (hu : seeM T st 0 = lpT) :
    Calls Tryz.prog 96 #[.pointer (some ⟨pb, 0, none⟩)] w fun e w' => e = .returned (.bool false) ∧ Below w.heap.size w w' := by
  have HS : Hid (∀ W, Below w.heap.size w W → PaS W pb b c T st) := fun W hW => h.below hW
  have CS : Hid (∀ W, Below w.heap.size w W → Calls Tryz.prog 50 #[.pointer (some ⟨pb, 0, none⟩), .int .i64 0] W fun e w' => e = .returned (.agg #[.int .i64 5, .string ⟨#[40]⟩, .int .i64 0]) ∧ Below w.heap.size w w') := fun W hW => (see_lit (h.below hW) 0 (by omega) hT hat hu).mono fun e w' ⟨k1, k2⟩ => ⟨k1, hW.trans (k2.mono hW.size)⟩
  have HB0 : Hid (Below w.heap.size w w) := Below.refl _ _
  clear h
  go_enter Tryz.func96, Tryz.ntmps96
  go_upto_region 2 with (first | (go_at_call 50; (first | refine (CS.out _ HB0.out).mono ?_ | refine (CS.out _ HB1.out).mono ?_ | refine (CS.out _ (HB1.out.alloc HB1.out.size _)).mono ?_); rintro e w1 ⟨rfl, hb⟩; have HB1 : Hid (Below w.heap.size w w1) := hb; clear hb HB0))
  obtain ⟨W2, hW2⟩ : ∃ W, W = w1.alloc (.cells #[.int .i64 5, .string ⟨#[40]⟩, .int .i64 0] 41) := ⟨_, rfl⟩
  have HB2 : Hid (Below w.heap.size w W2) := by rw [hW2]; exact HB1.out.alloc HB1.out.size _
  have x0 : W2.cell? ⟨w1.heap.size, 0, none⟩ = some (.int .i64 5) := by rw [hW2]; simp
  have x1 : W2.cell? ⟨w1.heap.size, 1, none⟩ = some (.string ⟨#[40]⟩) := by rw [hW2]; simp
  have x2 : W2.cell? ⟨w1.heap.size, 2, none⟩ = some (.int .i64 0) := by rw [hW2]; simp
  have hxl : w1.heap.size < W2.heap.size := by rw [hW2]; simp
  have HSS : Hid (∀ W, Below W2.heap.size W2 W → W.cell? ⟨w1.heap.size, 0, none⟩ = some (.int .i64 5) ∧ W.cell? ⟨w1.heap.size, 1, none⟩ = some (.string ⟨#[40]⟩) ∧ W.cell? ⟨w1.heap.size, 2, none⟩ = some (.int .i64 0)) := fun W hb => ⟨(hb.cell (p := ⟨w1.heap.size, 0, none⟩) hxl).trans x0, (hb.cell (p := ⟨w1.heap.size, 1, none⟩) hxl).trans x1, (hb.cell (p := ⟨w1.heap.size, 2, none⟩) hxl).trans x2⟩
  have CM : Hid (∀ W, Below W2.heap.size W2 W → Calls Tryz.prog 51 #[.string ⟨#[42]⟩] W fun e w' => e = .returned (.agg #[.int .i64 5, .string ⟨#[42]⟩, .int .i64 0]) ∧ Below W2.heap.size W2 w') := fun W hW => (mark_is _ W).mono fun e w' ⟨k1, k2⟩ => ⟨k1, hW.trans (k2.mono hW.size)⟩
  rw [← hW2]
  clear hW2 x0 x1 x2 hxl
  go_region_held3 (fun W => W.cell? ⟨w1.heap.size, 0, none⟩ = some (.int .i64 5) ∧ W.cell? ⟨w1.heap.size, 1, none⟩ = some (.string ⟨#[40]⟩) ∧ W.cell? ⟨w1.heap.size, 2, none⟩ = some (.int .i64 0))
    ((refine HSS.out _ ?_; repeat (first | exact Hid.out (by assumption) | exact Below.refl _ _ | refine Below.drew ?_)))
    (first
      | (go_at_call 51; refine (CM.out _ ?_).mono ?_; (focus (repeat (first | exact Hid.out (by assumption) | exact Below.refl _ _ | refine Below.drew ?_))); rintro e w3 ⟨rfl, hb3⟩; have HB3 : Hid (Below W2.heap.size W2 w3) := hb3; clear hb3))
  obtain ⟨y0, y1, y2⟩ := HSS.out _ HB3.out
  go_wp2
  go_ret
  exact ⟨rfl, HB2.out.trans (HB3.out.mono HB2.out.size)⟩
set_option maxHeartbeats 1600000 in
theorem childBegins_rpT {w : World} {pb b c : Nat} {T : List Tok} {st : Pst} (h : PaS w pb b c T st) (hT : T.length ≤ 200) (hat : st.at' ≤ 300) (hu : seeM T st 0 = rpT) :
    Calls Tryz.prog 96 #[.pointer (some ⟨pb, 0, none⟩)] w fun e w' => e = .returned (.bool false) ∧ Below w.heap.size w w' := by
  have HS : Hid (∀ W, Below w.heap.size w W → PaS W pb b c T st) := fun W hW => h.below hW
  have CS : Hid (∀ W, Below w.heap.size w W → Calls Tryz.prog 50 #[.pointer (some ⟨pb, 0, none⟩), .int .i64 0] W fun e w' => e = .returned (.agg #[.int .i64 5, .string ⟨#[41]⟩, .int .i64 0]) ∧ Below w.heap.size w w') := fun W hW => (see_lit (h.below hW) 0 (by omega) hT hat hu).mono fun e w' ⟨k1, k2⟩ => ⟨k1, hW.trans (k2.mono hW.size)⟩
  have HB0 : Hid (Below w.heap.size w w) := Below.refl _ _
  clear h
  go_enter Tryz.func96, Tryz.ntmps96
  go_upto_region 2 with (first | (go_at_call 50; (first | refine (CS.out _ HB0.out).mono ?_ | refine (CS.out _ HB1.out).mono ?_ | refine (CS.out _ (HB1.out.alloc HB1.out.size _)).mono ?_); rintro e w1 ⟨rfl, hb⟩; have HB1 : Hid (Below w.heap.size w w1) := hb; clear hb HB0))
  obtain ⟨W2, hW2⟩ : ∃ W, W = w1.alloc (.cells #[.int .i64 5, .string ⟨#[41]⟩, .int .i64 0] 41) := ⟨_, rfl⟩
  have HB2 : Hid (Below w.heap.size w W2) := by rw [hW2]; exact HB1.out.alloc HB1.out.size _
  have x0 : W2.cell? ⟨w1.heap.size, 0, none⟩ = some (.int .i64 5) := by rw [hW2]; simp
  have x1 : W2.cell? ⟨w1.heap.size, 1, none⟩ = some (.string ⟨#[41]⟩) := by rw [hW2]; simp
  have x2 : W2.cell? ⟨w1.heap.size, 2, none⟩ = some (.int .i64 0) := by rw [hW2]; simp
  have hxl : w1.heap.size < W2.heap.size := by rw [hW2]; simp
  have HSS : Hid (∀ W, Below W2.heap.size W2 W → W.cell? ⟨w1.heap.size, 0, none⟩ = some (.int .i64 5) ∧ W.cell? ⟨w1.heap.size, 1, none⟩ = some (.string ⟨#[41]⟩) ∧ W.cell? ⟨w1.heap.size, 2, none⟩ = some (.int .i64 0)) := fun W hb => ⟨(hb.cell (p := ⟨w1.heap.size, 0, none⟩) hxl).trans x0, (hb.cell (p := ⟨w1.heap.size, 1, none⟩) hxl).trans x1, (hb.cell (p := ⟨w1.heap.size, 2, none⟩) hxl).trans x2⟩
  have CM : Hid (∀ W, Below W2.heap.size W2 W → Calls Tryz.prog 51 #[.string ⟨#[42]⟩] W fun e w' => e = .returned (.agg #[.int .i64 5, .string ⟨#[42]⟩, .int .i64 0]) ∧ Below W2.heap.size W2 w') := fun W hW => (mark_is _ W).mono fun e w' ⟨k1, k2⟩ => ⟨k1, hW.trans (k2.mono hW.size)⟩
  rw [← hW2]
  clear hW2 x0 x1 x2 hxl
  go_region_held3 (fun W => W.cell? ⟨w1.heap.size, 0, none⟩ = some (.int .i64 5) ∧ W.cell? ⟨w1.heap.size, 1, none⟩ = some (.string ⟨#[41]⟩) ∧ W.cell? ⟨w1.heap.size, 2, none⟩ = some (.int .i64 0))
    ((refine HSS.out _ ?_; repeat (first | exact Hid.out (by assumption) | exact Below.refl _ _ | refine Below.drew ?_)))
    (first
      | (go_at_call 51; refine (CM.out _ ?_).mono ?_; (focus (repeat (first | exact Hid.out (by assumption) | exact Below.refl _ _ | refine Below.drew ?_))); rintro e w3 ⟨rfl, hb3⟩; have HB3 : Hid (Below W2.heap.size W2 w3) := hb3; clear hb3))
  obtain ⟨y0, y1, y2⟩ := HSS.out _ HB3.out
  go_wp2
  go_ret
  exact ⟨rfl, HB2.out.trans (HB3.out.mono HB2.out.size)⟩
set_option maxHeartbeats 1600000 in
theorem childBegins_oneT {w : World} {pb b c : Nat} {T : List Tok} {st : Pst} (h : PaS w pb b c T st) (hT : T.length ≤ 200) (hat : st.at' ≤ 300) (hu : seeM T st 0 = oneT) :
    Calls Tryz.prog 96 #[.pointer (some ⟨pb, 0, none⟩)] w fun e w' => e = .returned (.bool false) ∧ Below w.heap.size w w' := by
  have HS : Hid (∀ W, Below w.heap.size w W → PaS W pb b c T st) := fun W hW => h.below hW
  have CS : Hid (∀ W, Below w.heap.size w W → Calls Tryz.prog 50 #[.pointer (some ⟨pb, 0, none⟩), .int .i64 0] W fun e w' => e = .returned (.agg #[.int .i64 2, .string ⟨#[]⟩, .int .i64 1]) ∧ Below w.heap.size w w') := fun W hW => (see_lit (h.below hW) 0 (by omega) hT hat hu).mono fun e w' ⟨k1, k2⟩ => ⟨k1, hW.trans (k2.mono hW.size)⟩
  have HB0 : Hid (Below w.heap.size w w) := Below.refl _ _
  clear h
  go_enter Tryz.func96, Tryz.ntmps96
  go_upto_region 2 with (first | (go_at_call 50; (first | refine (CS.out _ HB0.out).mono ?_ | refine (CS.out _ HB1.out).mono ?_ | refine (CS.out _ (HB1.out.alloc HB1.out.size _)).mono ?_); rintro e w1 ⟨rfl, hb⟩; have HB1 : Hid (Below w.heap.size w w1) := hb; clear hb HB0))
  obtain ⟨W2, hW2⟩ : ∃ W, W = w1.alloc (.cells #[.int .i64 2, .string ⟨#[]⟩, .int .i64 1] 41) := ⟨_, rfl⟩
  have HB2 : Hid (Below w.heap.size w W2) := by rw [hW2]; exact HB1.out.alloc HB1.out.size _
  have x0 : W2.cell? ⟨w1.heap.size, 0, none⟩ = some (.int .i64 2) := by rw [hW2]; simp
  have x1 : W2.cell? ⟨w1.heap.size, 1, none⟩ = some (.string ⟨#[]⟩) := by rw [hW2]; simp
  have x2 : W2.cell? ⟨w1.heap.size, 2, none⟩ = some (.int .i64 1) := by rw [hW2]; simp
  have hxl : w1.heap.size < W2.heap.size := by rw [hW2]; simp
  have HSS : Hid (∀ W, Below W2.heap.size W2 W → W.cell? ⟨w1.heap.size, 0, none⟩ = some (.int .i64 2) ∧ W.cell? ⟨w1.heap.size, 1, none⟩ = some (.string ⟨#[]⟩) ∧ W.cell? ⟨w1.heap.size, 2, none⟩ = some (.int .i64 1)) := fun W hb => ⟨(hb.cell (p := ⟨w1.heap.size, 0, none⟩) hxl).trans x0, (hb.cell (p := ⟨w1.heap.size, 1, none⟩) hxl).trans x1, (hb.cell (p := ⟨w1.heap.size, 2, none⟩) hxl).trans x2⟩
  have CM : Hid (∀ W, Below W2.heap.size W2 W → Calls Tryz.prog 51 #[.string ⟨#[42]⟩] W fun e w' => e = .returned (.agg #[.int .i64 5, .string ⟨#[42]⟩, .int .i64 0]) ∧ Below W2.heap.size W2 w') := fun W hW => (mark_is _ W).mono fun e w' ⟨k1, k2⟩ => ⟨k1, hW.trans (k2.mono hW.size)⟩
  rw [← hW2]
  clear hW2 x0 x1 x2 hxl
  go_region_held3 (fun W => W.cell? ⟨w1.heap.size, 0, none⟩ = some (.int .i64 2) ∧ W.cell? ⟨w1.heap.size, 1, none⟩ = some (.string ⟨#[]⟩) ∧ W.cell? ⟨w1.heap.size, 2, none⟩ = some (.int .i64 1))
    ((refine HSS.out _ ?_; repeat (first | exact Hid.out (by assumption) | exact Below.refl _ _ | refine Below.drew ?_)))
    (first
      | (go_at_call 51; refine (CM.out _ ?_).mono ?_; (focus (repeat (first | exact Hid.out (by assumption) | exact Below.refl _ _ | refine Below.drew ?_))); rintro e w3 ⟨rfl, hb3⟩; have HB3 : Hid (Below W2.heap.size W2 w3) := hb3; clear hb3))
  obtain ⟨y0, y1, y2⟩ := HSS.out _ HB3.out
  go_wp2
  go_ret
  exact ⟨rfl, HB2.out.trans (HB3.out.mono HB2.out.size)⟩
theorem childBegins_is {w : World} {pb b c : Nat} {T : List Tok} {st : Pst} (h : PaS w pb b c T st) (hT : T.length ≤ 200) (hat : st.at' ≤ 300) (hc : Cls (seeM T st 0)) :
    Calls Tryz.prog 96 #[.pointer (some ⟨pb, 0, none⟩)] w fun e w' => e = .returned (.bool false) ∧ Below w.heap.size w w' := by
  rcases hc with hu | hu | hu | hu
  · exact childBegins_tok0 h hT hat hu
  · exact childBegins_lpT h hT hat hu
  · exact childBegins_rpT h hT hat hu
  · exact childBegins_oneT h hT hat hu
/-- the table of operators -/
def opCells : Array Value := #[.string ⟨#[111, 114]⟩, .int .i64 0, .string ⟨#[97, 110, 100]⟩, .int .i64 1, .string ⟨#[61]⟩, .int .i64 2, .string ⟨#[33, 61]⟩, .int .i64 2, .string ⟨#[60]⟩, .int .i64 2, .string ⟨#[60, 61]⟩, .int .i64 2, .string ⟨#[62]⟩, .int .i64 2, .string ⟨#[62, 61]⟩, .int .i64 2, .string ⟨#[105, 115]⟩, .int .i64 2, .string ⟨#[60, 60]⟩, .int .i64 2, .string ⟨#[62, 62]⟩, .int .i64 2, .string ⟨#[116, 111]⟩, .int .i64 3, .string ⟨#[43]⟩, .int .i64 4, .string ⟨#[45]⟩, .int .i64 4, .string ⟨#[42]⟩, .int .i64 5, .string ⟨#[100, 105, 118]⟩, .int .i64 5, .string ⟨#[109, 111, 100]⟩, .int .i64 5, .string ⟨#[124]⟩, .int .i64 6, .string ⟨#[117, 110, 105, 111, 110]⟩, .int .i64 6, .string ⟨#[105, 110, 116, 101, 114, 115, 101, 99, 116]⟩, .int .i64 7, .string ⟨#[101, 120, 99, 101, 112, 116]⟩, .int .i64 7]
def opNames : List ByteArray := [⟨#[111, 114]⟩, ⟨#[97, 110, 100]⟩, ⟨#[61]⟩, ⟨#[33, 61]⟩, ⟨#[60]⟩, ⟨#[60, 61]⟩, ⟨#[62]⟩, ⟨#[62, 61]⟩, ⟨#[105, 115]⟩, ⟨#[60, 60]⟩, ⟨#[62, 62]⟩, ⟨#[116, 111]⟩, ⟨#[43]⟩, ⟨#[45]⟩, ⟨#[42]⟩, ⟨#[100, 105, 118]⟩, ⟨#[109, 111, 100]⟩, ⟨#[124]⟩, ⟨#[117, 110, 105, 111, 110]⟩, ⟨#[105, 110, 116, 101, 114, 115, 101, 99, 116]⟩, ⟨#[101, 120, 99, 101, 112, 116]⟩]
def opBinds : List Int := [0, 1, 2, 2, 2, 2, 2, 2, 2, 2, 2, 3, 4, 4, 5, 5, 5, 6, 6, 7, 7]
def opN (k : Nat) : ByteArray := opNames.getD k ⟨#[]⟩
def opB (k : Nat) : Int := opBinds.getD k 0
def OpTab (w : World) : Prop := ∃ t fr, w.heap[4]? = some (.cells opCells t fr)
theorem OpTab.below {w w' : World} (h : OpTab w) (hb : Below w.heap.size w w') : OpTab w' := by
  obtain ⟨t, fr, h⟩ := h
  exact ⟨t, fr, (hb.block _ (Array.getElem?_eq_some_iff.1 h).1).trans h⟩
theorem OpTab.grow {w w' : World} {pb : Nat} (h : OpTab w) (hg : GrowA pb w w') (hp : 4 ≠ pb) : OpTab w' := by
  obtain ⟨t, fr, h⟩ := h
  exact ⟨t, fr, (hg.2.2.2.2 _ (Array.getElem?_eq_some_iff.1 h).1 hp).trans h⟩
theorem op_index : ∀ (k : Nat), k < 21 → ∀ w, (Instr.index 120 (.agg opCells) (.int .i64 (k : Int))).run Tryz.prog w = .ok (.agg #[.string (opN k), .int .i64 (opB k)]) w := by
  intro k hk
  have : k = 0 ∨ k = 1 ∨ k = 2 ∨ k = 3 ∨ k = 4 ∨ k = 5 ∨ k = 6 ∨ k = 7 ∨ k = 8 ∨ k = 9 ∨ k = 10 ∨ k = 11 ∨ k = 12 ∨ k = 13 ∨ k = 14 ∨ k = 15 ∨ k = 16 ∨ k = 17 ∨ k = 18 ∨ k = 19 ∨ k = 20 := by omega
  rcases this with rfl | rfl | rfl | rfl | rfl | rfl | rfl | rfl | rfl | rfl | rfl | rfl | rfl | rfl | rfl | rfl | rfl | rfl | rfl | rfl | rfl <;> exact fun _ => by kernel_rfl
theorem op_no (k : Nat) (hk : k < 21) : ((opN k).toList == [40]) = false ∧ ((opN k).toList == [41]) = false := by
  have : ∀ k : Fin 21, ((opN k).data.toList == [40]) = false ∧ ((opN k).data.toList == [41]) = false := by decide
  rw [ByteArray.toList_eq]
  exact this ⟨k, hk⟩
set_option maxHeartbeats 1600000 in
theorem operatorNext_tok0 {w : World} {pb b c : Nat} {T : List Tok} {st : Pst} (h : PaS w pb b c T st) (hT : T.length ≤ 200) (hat : st.at' ≤ 300) (hu : seeM T st 0 = tok0) (bd : Int) (ho : OpTab w) :
    Calls Tryz.prog 77 #[.pointer (some ⟨pb, 0, none⟩), .int .i64 bd] w fun e w' => e = .returned (.bool false) ∧ Below w.heap.size w w' := by
  have HS : Hid (∀ W, Below w.heap.size w W → PaS W pb b c T st) := fun W hW => h.below hW
  have CS : Hid (∀ W, Below w.heap.size w W → Calls Tryz.prog 50 #[.pointer (some ⟨pb, 0, none⟩), .int .i64 0] W fun e w' => e = .returned (.agg #[.int .i64 0, .string ⟨#[]⟩, .int .i64 0]) ∧ Below w.heap.size w w') := fun W hW => (see_lit (h.below hW) 0 (by omega) hT hat hu).mono fun e w' ⟨k1, k2⟩ => ⟨k1, hW.trans (k2.mono hW.size)⟩
  have HB0 : Hid (Below w.heap.size w w) := Below.refl _ _
  have HO : Hid (∀ W, Below w.heap.size w W → OpTab W) := fun W hW => ho.below hW
  clear h
  go_enter Tryz.func77, Tryz.ntmps77
  go_wp2_with (first
    | (go_at_call 50; (first | refine (CS.out _ HB0.out).mono ?_ | refine (CS.out _ HB1.out).mono ?_ | refine (CS.out _ (HB1.out.alloc HB1.out.size _)).mono ?_); rintro e w1 ⟨rfl, hb⟩; have HB1 : Hid (Below w.heap.size w w1) := hb; clear hb HB0))
  go_ret
  exact ⟨rfl, by first | exact HB1.out | exact HB1.out.alloc HB1.out.size _⟩
set_option maxHeartbeats 1600000 in
theorem operatorNext_lpT {w : World} {pb b c : Nat} {T : List Tok} {st : Pst} (h : PaS w pb b c T st) (hT : T.length ≤ 200) (hat : st.at' ≤ 300) (hu : seeM T st 0 = lpT) (bd : Int) (ho : OpTab w) :
    Calls Tryz.prog 77 #[.pointer (some ⟨pb, 0, none⟩), .int .i64 bd] w fun e w' => e = .returned (.bool false) ∧ Below w.heap.size w w' := by
  have HS : Hid (∀ W, Below w.heap.size w W → PaS W pb b c T st) := fun W hW => h.below hW
  have CS : Hid (∀ W, Below w.heap.size w W → Calls Tryz.prog 50 #[.pointer (some ⟨pb, 0, none⟩), .int .i64 0] W fun e w' => e = .returned (.agg #[.int .i64 5, .string ⟨#[40]⟩, .int .i64 0]) ∧ Below w.heap.size w w') := fun W hW => (see_lit (h.below hW) 0 (by omega) hT hat hu).mono fun e w' ⟨k1, k2⟩ => ⟨k1, hW.trans (k2.mono hW.size)⟩
  have HB0 : Hid (Below w.heap.size w w) := Below.refl _ _
  have HO : Hid (∀ W, Below w.heap.size w W → OpTab W) := fun W hW => ho.below hW
  clear h
  go_enter Tryz.func77, Tryz.ntmps77
  go_upto_region 4 with (first | (go_at_call 50; (first | refine (CS.out _ HB0.out).mono ?_ | refine (CS.out _ HB1.out).mono ?_ | refine (CS.out _ (HB1.out.alloc HB1.out.size _)).mono ?_); rintro e w1 ⟨rfl, hb⟩; have HB1 : Hid (Below w.heap.size w w1) := hb; clear hb HB0))
  obtain ⟨W2, hW2⟩ : ∃ W, W = w1.alloc (.cells #[.int .i64 5, .string ⟨#[40]⟩, .int .i64 0] 41) := ⟨_, rfl⟩
  have HB2 : Hid (Below w.heap.size w W2) := by rw [hW2]; exact HB1.out.alloc HB1.out.size _
  have x1 : W2.cell? ⟨w1.heap.size, 1, none⟩ = some (.string ⟨#[40]⟩) := by rw [hW2]; simp
  have hxl : w1.heap.size < W2.heap.size := by rw [hW2]; simp
  have HSS : Hid (∀ W, Below W2.heap.size W2 W → W.cell? ⟨w1.heap.size, 1, none⟩ = some (.string ⟨#[40]⟩) ∧ w1.heap.size < W.heap.size) := fun W hb => ⟨(hb.cell (p := ⟨w1.heap.size, 1, none⟩) hxl).trans x1, Nat.lt_of_lt_of_le hxl hb.size⟩
  obtain ⟨tt, fr, hgt⟩ := HO.out W2 HB2.out
  have HGT : Hid (W2.heap[4]? = some (.cells opCells tt fr)) := hgt
  rw [← hW2]
  clear hW2 hgt x1 hxl
  go_wp2_with (refine wpList_load_row rfl 120 _ rfl 4 rfl tt _ fr _ HGT.out Tryz.underlying120 rfl (by kernel_rfl) ?_)
  go_loopw [19] (fun i wr => ∃ k : Nat, k ≤ 21 ∧ i = .int .i64 k ∧ Below W2.heap.size W2 wr) (fun i _ => 21 - (intOf i).toNat)
  case atStart => exact ⟨0, by omega, rfl, Below.refl _ _⟩
  case round =>
    obtain ⟨k, hk, rfl, hbw⟩ := hrel
    have HBW : Hid (Below W2.heap.size W2 wr) := hbw
    obtain ⟨y1, yl⟩ := HSS.out _ hbw
    clear hbw
    by_cases hlt : k < 21
    · have hI := op_index k hlt
      have hno := (op_no k hlt).1
      have hki : (k : Int) < 21 := by omega
      generalize opN k = on at hI hno
      generalize opB k = ob at hI
      go_wp2
      go_roundw
      case rel => exact ⟨k + 1, by omega, by go_num, HBW.out.alloc HBW.out.size _⟩
      case measure => simp [intOf]; omega
    · have hki : ¬ ((k : Int) < 21) := by omega
      go_wp2
      go_ret
      exact ⟨rfl, HB2.out.trans (HBW.out.mono HB2.out.size)⟩
set_option maxHeartbeats 1600000 in
theorem operatorNext_rpT {w : World} {pb b c : Nat} {T : List Tok} {st : Pst} (h : PaS w pb b c T st) (hT : T.length ≤ 200) (hat : st.at' ≤ 300) (hu : seeM T st 0 = rpT) (bd : Int) (ho : OpTab w) :
    Calls Tryz.prog 77 #[.pointer (some ⟨pb, 0, none⟩), .int .i64 bd] w fun e w' => e = .returned (.bool false) ∧ Below w.heap.size w w' := by
  have HS : Hid (∀ W, Below w.heap.size w W → PaS W pb b c T st) := fun W hW => h.below hW
  have CS : Hid (∀ W, Below w.heap.size w W → Calls Tryz.prog 50 #[.pointer (some ⟨pb, 0, none⟩), .int .i64 0] W fun e w' => e = .returned (.agg #[.int .i64 5, .string ⟨#[41]⟩, .int .i64 0]) ∧ Below w.heap.size w w') := fun W hW => (see_lit (h.below hW) 0 (by omega) hT hat hu).mono fun e w' ⟨k1, k2⟩ => ⟨k1, hW.trans (k2.mono hW.size)⟩
  have HB0 : Hid (Below w.heap.size w w) := Below.refl _ _
  have HO : Hid (∀ W, Below w.heap.size w W → OpTab W) := fun W hW => ho.below hW
  clear h
  go_enter Tryz.func77, Tryz.ntmps77
  go_upto_region 4 with (first | (go_at_call 50; (first | refine (CS.out _ HB0.out).mono ?_ | refine (CS.out _ HB1.out).mono ?_ | refine (CS.out _ (HB1.out.alloc HB1.out.size _)).mono ?_); rintro e w1 ⟨rfl, hb⟩; have HB1 : Hid (Below w.heap.size w w1) := hb; clear hb HB0))
  obtain ⟨W2, hW2⟩ : ∃ W, W = w1.alloc (.cells #[.int .i64 5, .string ⟨#[41]⟩, .int .i64 0] 41) := ⟨_, rfl⟩
  have HB2 : Hid (Below w.heap.size w W2) := by rw [hW2]; exact HB1.out.alloc HB1.out.size _
  have x1 : W2.cell? ⟨w1.heap.size, 1, none⟩ = some (.string ⟨#[41]⟩) := by rw [hW2]; simp
  have hxl : w1.heap.size < W2.heap.size := by rw [hW2]; simp
  have HSS : Hid (∀ W, Below W2.heap.size W2 W → W.cell? ⟨w1.heap.size, 1, none⟩ = some (.string ⟨#[41]⟩) ∧ w1.heap.size < W.heap.size) := fun W hb => ⟨(hb.cell (p := ⟨w1.heap.size, 1, none⟩) hxl).trans x1, Nat.lt_of_lt_of_le hxl hb.size⟩
  obtain ⟨tt, fr, hgt⟩ := HO.out W2 HB2.out
  have HGT : Hid (W2.heap[4]? = some (.cells opCells tt fr)) := hgt
  rw [← hW2]
  clear hW2 hgt x1 hxl
  go_wp2_with (refine wpList_load_row rfl 120 _ rfl 4 rfl tt _ fr _ HGT.out Tryz.underlying120 rfl (by kernel_rfl) ?_)
  go_loopw [19] (fun i wr => ∃ k : Nat, k ≤ 21 ∧ i = .int .i64 k ∧ Below W2.heap.size W2 wr) (fun i _ => 21 - (intOf i).toNat)
  case atStart => exact ⟨0, by omega, rfl, Below.refl _ _⟩
  case round =>
    obtain ⟨k, hk, rfl, hbw⟩ := hrel
    have HBW : Hid (Below W2.heap.size W2 wr) := hbw
    obtain ⟨y1, yl⟩ := HSS.out _ hbw
    clear hbw
    by_cases hlt : k < 21
    · have hI := op_index k hlt
      have hno := (op_no k hlt).2
      have hki : (k : Int) < 21 := by omega
      generalize opN k = on at hI hno
      generalize opB k = ob at hI
      go_wp2
      go_roundw
      case rel => exact ⟨k + 1, by omega, by go_num, HBW.out.alloc HBW.out.size _⟩
      case measure => simp [intOf]; omega
    · have hki : ¬ ((k : Int) < 21) := by omega
      go_wp2
      go_ret
      exact ⟨rfl, HB2.out.trans (HBW.out.mono HB2.out.size)⟩
set_option maxHeartbeats 1600000 in
theorem operatorNext_oneT {w : World} {pb b c : Nat} {T : List Tok} {st : Pst} (h : PaS w pb b c T st) (hT : T.length ≤ 200) (hat : st.at' ≤ 300) (hu : seeM T st 0 = oneT) (bd : Int) (ho : OpTab w) :
    Calls Tryz.prog 77 #[.pointer (some ⟨pb, 0, none⟩), .int .i64 bd] w fun e w' => e = .returned (.bool false) ∧ Below w.heap.size w w' := by
  have HS : Hid (∀ W, Below w.heap.size w W → PaS W pb b c T st) := fun W hW => h.below hW
  have CS : Hid (∀ W, Below w.heap.size w W → Calls Tryz.prog 50 #[.pointer (some ⟨pb, 0, none⟩), .int .i64 0] W fun e w' => e = .returned (.agg #[.int .i64 2, .string ⟨#[]⟩, .int .i64 1]) ∧ Below w.heap.size w w') := fun W hW => (see_lit (h.below hW) 0 (by omega) hT hat hu).mono fun e w' ⟨k1, k2⟩ => ⟨k1, hW.trans (k2.mono hW.size)⟩
  have HB0 : Hid (Below w.heap.size w w) := Below.refl _ _
  have HO : Hid (∀ W, Below w.heap.size w W → OpTab W) := fun W hW => ho.below hW
  clear h
  go_enter Tryz.func77, Tryz.ntmps77
  go_wp2_with (first
    | (go_at_call 50; (first | refine (CS.out _ HB0.out).mono ?_ | refine (CS.out _ HB1.out).mono ?_ | refine (CS.out _ (HB1.out.alloc HB1.out.size _)).mono ?_); rintro e w1 ⟨rfl, hb⟩; have HB1 : Hid (Below w.heap.size w w1) := hb; clear hb HB0))
  go_ret
  exact ⟨rfl, by first | exact HB1.out | exact HB1.out.alloc HB1.out.size _⟩
theorem operatorNext_is {w : World} {pb b c : Nat} {T : List Tok} {st : Pst} (h : PaS w pb b c T st) (hT : T.length ≤ 200) (hat : st.at' ≤ 300) (hc : Cls (seeM T st 0)) (bd : Int) (ho : OpTab w) :
    Calls Tryz.prog 77 #[.pointer (some ⟨pb, 0, none⟩), .int .i64 bd] w fun e w' => e = .returned (.bool false) ∧ Below w.heap.size w w' := by
  rcases hc with hu | hu | hu | hu
  · exact operatorNext_tok0 h hT hat hu bd ho
  · exact operatorNext_lpT h hT hat hu bd ho
  · exact operatorNext_rpT h hT hat hu bd ho
  · exact operatorNext_oneT h hT hat hu bd ho
end Go.Proofs.YteapocgpenokfaaGreatDoor
