import Derived.Test.YtbnlekhjgkojlaaGreatDoorLaidQ
set_option linter.unusedVariables false
namespace Go.Proofs.YtbnlekhjgkojlaaGreatDoor
set_option maxRecDepth 100000
open Go.RowKit
def mkBeg (u0 u1 u2 : Tok) : Bool := if (eqT u0 ⟨1, ⟨#[101, 108, 101, 109, 101, 110, 116]⟩, 0⟩ || eqT u0 ⟨1, ⟨#[97, 116, 116, 114, 105, 98, 117, 116, 101]⟩, 0⟩) = true then (u1.kind == 1) && eqT u2 ⟨5, ⟨#[123]⟩, 0⟩ else if eqT u0 ⟨1, ⟨#[116, 101, 120, 116]⟩, 0⟩ = true then eqT u1 ⟨5, ⟨#[123]⟩, 0⟩ else false
set_option maxHeartbeats 800000 in
theorem makeBegins_ey {w : World} {pb b c : Nat} {T : List Tok} {st : Pst} (h : PaS w pb b c T st) (hT : T.length ≤ 200) (hat : st.at' ≤ 300) {us : ByteArray} {uk un : Int} {u1s : ByteArray} {u1k u1n : Int} {u2s : ByteArray} {u2k u2n : Int} {v2 : Bool} (hu : seeM T st 0 = ⟨uk, us, un⟩) (hu1 : seeM T st 1 = ⟨u1k, u1s, u1n⟩) (hu2 : seeM T st 2 = ⟨u2k, u2s, u2n⟩) (k1 : (u1k == 1) = true) (z : eqT ⟨u2k, u2s, u2n⟩ ⟨5, ⟨#[123]⟩, 0⟩ = v2) (c0 : eqT ⟨uk, us, un⟩ ⟨1, ⟨#[101, 108, 101, 109, 101, 110, 116]⟩, 0⟩ = true) :
 Calls Tryz.prog 129 #[.pointer (some ⟨pb, 0, none⟩)] w fun e w' => e = .returned (.bool v2) ∧ Below w.heap.size w w' := by
 have CS0 : Hid (∀ W, Below w.heap.size w W → Calls Tryz.prog 65 #[.pointer (some ⟨pb, 0, none⟩), .int .i64 0] W fun e w' => e = .returned (.agg #[.int .i64 uk, .string us, .int .i64 un]) ∧ Below w.heap.size w w') := fun W hW => (see_lit (h.below hW) 0 (by omega) hT hat hu).mono fun e w' ⟨k1, k2⟩ => ⟨k1, hW.trans (k2.mono hW.size)⟩
 have E0 := eqT_run (k := uk) (s := us) (n := un) (k' := 1) (s' := ⟨#[101, 108, 101, 109, 101, 110, 116]⟩) (n' := 0) c0
 have CS1 : Hid (∀ W, Below w.heap.size w W → Calls Tryz.prog 65 #[.pointer (some ⟨pb, 0, none⟩), .int .i64 1] W fun e w' => e = .returned (.agg #[.int .i64 u1k, .string u1s, .int .i64 u1n]) ∧ Below w.heap.size w w') := fun W hW => (see_lit (h.below hW) 1 (by omega) hT hat hu1).mono fun e w' ⟨k1, k2⟩ => ⟨k1, hW.trans (k2.mono hW.size)⟩
 have EF := field_kind u1k u1n u1s
 have CS2 : Hid (∀ W, Below w.heap.size w W → Calls Tryz.prog 65 #[.pointer (some ⟨pb, 0, none⟩), .int .i64 2] W fun e w' => e = .returned (.agg #[.int .i64 u2k, .string u2s, .int .i64 u2n]) ∧ Below w.heap.size w w') := fun W hW => (see_lit (h.below hW) 2 (by omega) hT hat hu2).mono fun e w' ⟨k1, k2⟩ => ⟨k1, hW.trans (k2.mono hW.size)⟩
 have EZ := eqT_run z
 have HB0 : Hid (Below w.heap.size w w) := Below.refl _ _
 clear h
 go_enter Tryz.func129, Tryz.ntmps129
 go_wp2_with (first
  | (go_at_call 65; have HNX := HB0; (refine (CS0.out _ HB0.out).mono ?_); rintro e w1 ⟨rfl, hb⟩; have HB1 : Hid (Below w.heap.size w w1) := hb; clear hb HNX HB0)
  | (go_at_call 81; have HNX := HB1; refine (word_is _ _).mono ?_; rintro e w2 ⟨rfl, hb⟩; have HB2 : Hid (Below w.heap.size w w2) := (HB1.out.trans (hb.mono HB1.out.size)); clear hb HNX HB1)
  | (go_at_call 65; have HNX := HB2; (refine (CS1.out _ HB2.out).mono ?_); rintro e w3 ⟨rfl, hb⟩; have HB3 : Hid (Below w.heap.size w w3) := hb; clear hb HNX HB2)
  | (go_at_call 65; have HNX := HB3; (refine (CS2.out _ HB3.out).mono ?_); rintro e w4 ⟨rfl, hb⟩; have HB4 : Hid (Below w.heap.size w w4) := hb; clear hb HNX HB3)
  | (go_at_call 66; have HNX := HB4; refine (mark_is _ _).mono ?_; rintro e w5 ⟨rfl, hb⟩; have HB5 : Hid (Below w.heap.size w w5) := (HB4.out.trans (hb.mono HB4.out.size)); clear hb HNX HB4))
 go_ret
 exact ⟨rfl, by first | exact HB5.out | exact HB5.out.alloc HB5.out.size _⟩
set_option maxHeartbeats 800000 in
theorem makeBegins_en {w : World} {pb b c : Nat} {T : List Tok} {st : Pst} (h : PaS w pb b c T st) (hT : T.length ≤ 200) (hat : st.at' ≤ 300) {us : ByteArray} {uk un : Int} {u1s : ByteArray} {u1k u1n : Int} (hu : seeM T st 0 = ⟨uk, us, un⟩) (hu1 : seeM T st 1 = ⟨u1k, u1s, u1n⟩) (k1 : (u1k == 1) = false) (c0 : eqT ⟨uk, us, un⟩ ⟨1, ⟨#[101, 108, 101, 109, 101, 110, 116]⟩, 0⟩ = true) :
 Calls Tryz.prog 129 #[.pointer (some ⟨pb, 0, none⟩)] w fun e w' => e = .returned (.bool false) ∧ Below w.heap.size w w' := by
 have CS0 : Hid (∀ W, Below w.heap.size w W → Calls Tryz.prog 65 #[.pointer (some ⟨pb, 0, none⟩), .int .i64 0] W fun e w' => e = .returned (.agg #[.int .i64 uk, .string us, .int .i64 un]) ∧ Below w.heap.size w w') := fun W hW => (see_lit (h.below hW) 0 (by omega) hT hat hu).mono fun e w' ⟨k1, k2⟩ => ⟨k1, hW.trans (k2.mono hW.size)⟩
 have E0 := eqT_run (k := uk) (s := us) (n := un) (k' := 1) (s' := ⟨#[101, 108, 101, 109, 101, 110, 116]⟩) (n' := 0) c0
 have CS1 : Hid (∀ W, Below w.heap.size w W → Calls Tryz.prog 65 #[.pointer (some ⟨pb, 0, none⟩), .int .i64 1] W fun e w' => e = .returned (.agg #[.int .i64 u1k, .string u1s, .int .i64 u1n]) ∧ Below w.heap.size w w') := fun W hW => (see_lit (h.below hW) 1 (by omega) hT hat hu1).mono fun e w' ⟨k1, k2⟩ => ⟨k1, hW.trans (k2.mono hW.size)⟩
 have EF := field_kind u1k u1n u1s
 have HB0 : Hid (Below w.heap.size w w) := Below.refl _ _
 clear h
 go_enter Tryz.func129, Tryz.ntmps129
 go_wp2_with (first
  | (go_at_call 65; have HNX := HB0; (refine (CS0.out _ HB0.out).mono ?_); rintro e w1 ⟨rfl, hb⟩; have HB1 : Hid (Below w.heap.size w w1) := hb; clear hb HNX HB0)
  | (go_at_call 81; have HNX := HB1; refine (word_is _ _).mono ?_; rintro e w2 ⟨rfl, hb⟩; have HB2 : Hid (Below w.heap.size w w2) := (HB1.out.trans (hb.mono HB1.out.size)); clear hb HNX HB1)
  | (go_at_call 65; have HNX := HB2; (refine (CS1.out _ HB2.out).mono ?_); rintro e w3 ⟨rfl, hb⟩; have HB3 : Hid (Below w.heap.size w w3) := hb; clear hb HNX HB2))
 go_ret
 exact ⟨rfl, by first | exact HB3.out | exact HB3.out.alloc HB3.out.size _⟩
set_option maxHeartbeats 800000 in
theorem makeBegins_ay {w : World} {pb b c : Nat} {T : List Tok} {st : Pst} (h : PaS w pb b c T st) (hT : T.length ≤ 200) (hat : st.at' ≤ 300) {us : ByteArray} {uk un : Int} {u1s : ByteArray} {u1k u1n : Int} {u2s : ByteArray} {u2k u2n : Int} {v2 : Bool} (hu : seeM T st 0 = ⟨uk, us, un⟩) (hu1 : seeM T st 1 = ⟨u1k, u1s, u1n⟩) (hu2 : seeM T st 2 = ⟨u2k, u2s, u2n⟩) (k1 : (u1k == 1) = true) (z : eqT ⟨u2k, u2s, u2n⟩ ⟨5, ⟨#[123]⟩, 0⟩ = v2) (c0 : eqT ⟨uk, us, un⟩ ⟨1, ⟨#[101, 108, 101, 109, 101, 110, 116]⟩, 0⟩ = false) (c1 : eqT ⟨uk, us, un⟩ ⟨1, ⟨#[97, 116, 116, 114, 105, 98, 117, 116, 101]⟩, 0⟩ = true) :
 Calls Tryz.prog 129 #[.pointer (some ⟨pb, 0, none⟩)] w fun e w' => e = .returned (.bool v2) ∧ Below w.heap.size w w' := by
 have CS0 : Hid (∀ W, Below w.heap.size w W → Calls Tryz.prog 65 #[.pointer (some ⟨pb, 0, none⟩), .int .i64 0] W fun e w' => e = .returned (.agg #[.int .i64 uk, .string us, .int .i64 un]) ∧ Below w.heap.size w w') := fun W hW => (see_lit (h.below hW) 0 (by omega) hT hat hu).mono fun e w' ⟨k1, k2⟩ => ⟨k1, hW.trans (k2.mono hW.size)⟩
 have E0 := eqT_run (k := uk) (s := us) (n := un) (k' := 1) (s' := ⟨#[101, 108, 101, 109, 101, 110, 116]⟩) (n' := 0) c0
 have E1 := eqT_run (k := uk) (s := us) (n := un) (k' := 1) (s' := ⟨#[97, 116, 116, 114, 105, 98, 117, 116, 101]⟩) (n' := 0) c1
 have CS1 : Hid (∀ W, Below w.heap.size w W → Calls Tryz.prog 65 #[.pointer (some ⟨pb, 0, none⟩), .int .i64 1] W fun e w' => e = .returned (.agg #[.int .i64 u1k, .string u1s, .int .i64 u1n]) ∧ Below w.heap.size w w') := fun W hW => (see_lit (h.below hW) 1 (by omega) hT hat hu1).mono fun e w' ⟨k1, k2⟩ => ⟨k1, hW.trans (k2.mono hW.size)⟩
 have EF := field_kind u1k u1n u1s
 have CS2 : Hid (∀ W, Below w.heap.size w W → Calls Tryz.prog 65 #[.pointer (some ⟨pb, 0, none⟩), .int .i64 2] W fun e w' => e = .returned (.agg #[.int .i64 u2k, .string u2s, .int .i64 u2n]) ∧ Below w.heap.size w w') := fun W hW => (see_lit (h.below hW) 2 (by omega) hT hat hu2).mono fun e w' ⟨k1, k2⟩ => ⟨k1, hW.trans (k2.mono hW.size)⟩
 have EZ := eqT_run z
 have HB0 : Hid (Below w.heap.size w w) := Below.refl _ _
 clear h
 go_enter Tryz.func129, Tryz.ntmps129
 go_wp2_with (first
  | (go_at_call 65; have HNX := HB0; (refine (CS0.out _ HB0.out).mono ?_); rintro e w1 ⟨rfl, hb⟩; have HB1 : Hid (Below w.heap.size w w1) := hb; clear hb HNX HB0)
  | (go_at_call 81; have HNX := HB1; refine (word_is _ _).mono ?_; rintro e w2 ⟨rfl, hb⟩; have HB2 : Hid (Below w.heap.size w w2) := (HB1.out.trans (hb.mono HB1.out.size)); clear hb HNX HB1)
  | (go_at_call 81; have HNX := HB2; refine (word_is _ _).mono ?_; rintro e w3 ⟨rfl, hb⟩; have HB3 : Hid (Below w.heap.size w w3) := (HB2.out.trans (hb.mono HB2.out.size)); clear hb HNX HB2)
  | (go_at_call 65; have HNX := HB3; (refine (CS1.out _ HB3.out).mono ?_); rintro e w4 ⟨rfl, hb⟩; have HB4 : Hid (Below w.heap.size w w4) := hb; clear hb HNX HB3)
  | (go_at_call 65; have HNX := HB4; (refine (CS2.out _ HB4.out).mono ?_); rintro e w5 ⟨rfl, hb⟩; have HB5 : Hid (Below w.heap.size w w5) := hb; clear hb HNX HB4)
  | (go_at_call 66; have HNX := HB5; refine (mark_is _ _).mono ?_; rintro e w6 ⟨rfl, hb⟩; have HB6 : Hid (Below w.heap.size w w6) := (HB5.out.trans (hb.mono HB5.out.size)); clear hb HNX HB5))
 go_ret
 exact ⟨rfl, by first | exact HB6.out | exact HB6.out.alloc HB6.out.size _⟩
set_option maxHeartbeats 800000 in
theorem makeBegins_an {w : World} {pb b c : Nat} {T : List Tok} {st : Pst} (h : PaS w pb b c T st) (hT : T.length ≤ 200) (hat : st.at' ≤ 300) {us : ByteArray} {uk un : Int} {u1s : ByteArray} {u1k u1n : Int} (hu : seeM T st 0 = ⟨uk, us, un⟩) (hu1 : seeM T st 1 = ⟨u1k, u1s, u1n⟩) (k1 : (u1k == 1) = false) (c0 : eqT ⟨uk, us, un⟩ ⟨1, ⟨#[101, 108, 101, 109, 101, 110, 116]⟩, 0⟩ = false) (c1 : eqT ⟨uk, us, un⟩ ⟨1, ⟨#[97, 116, 116, 114, 105, 98, 117, 116, 101]⟩, 0⟩ = true) :
 Calls Tryz.prog 129 #[.pointer (some ⟨pb, 0, none⟩)] w fun e w' => e = .returned (.bool false) ∧ Below w.heap.size w w' := by
 have CS0 : Hid (∀ W, Below w.heap.size w W → Calls Tryz.prog 65 #[.pointer (some ⟨pb, 0, none⟩), .int .i64 0] W fun e w' => e = .returned (.agg #[.int .i64 uk, .string us, .int .i64 un]) ∧ Below w.heap.size w w') := fun W hW => (see_lit (h.below hW) 0 (by omega) hT hat hu).mono fun e w' ⟨k1, k2⟩ => ⟨k1, hW.trans (k2.mono hW.size)⟩
 have E0 := eqT_run (k := uk) (s := us) (n := un) (k' := 1) (s' := ⟨#[101, 108, 101, 109, 101, 110, 116]⟩) (n' := 0) c0
 have E1 := eqT_run (k := uk) (s := us) (n := un) (k' := 1) (s' := ⟨#[97, 116, 116, 114, 105, 98, 117, 116, 101]⟩) (n' := 0) c1
 have CS1 : Hid (∀ W, Below w.heap.size w W → Calls Tryz.prog 65 #[.pointer (some ⟨pb, 0, none⟩), .int .i64 1] W fun e w' => e = .returned (.agg #[.int .i64 u1k, .string u1s, .int .i64 u1n]) ∧ Below w.heap.size w w') := fun W hW => (see_lit (h.below hW) 1 (by omega) hT hat hu1).mono fun e w' ⟨k1, k2⟩ => ⟨k1, hW.trans (k2.mono hW.size)⟩
 have EF := field_kind u1k u1n u1s
 have HB0 : Hid (Below w.heap.size w w) := Below.refl _ _
 clear h
 go_enter Tryz.func129, Tryz.ntmps129
 go_wp2_with (first
  | (go_at_call 65; have HNX := HB0; (refine (CS0.out _ HB0.out).mono ?_); rintro e w1 ⟨rfl, hb⟩; have HB1 : Hid (Below w.heap.size w w1) := hb; clear hb HNX HB0)
  | (go_at_call 81; have HNX := HB1; refine (word_is _ _).mono ?_; rintro e w2 ⟨rfl, hb⟩; have HB2 : Hid (Below w.heap.size w w2) := (HB1.out.trans (hb.mono HB1.out.size)); clear hb HNX HB1)
  | (go_at_call 81; have HNX := HB2; refine (word_is _ _).mono ?_; rintro e w3 ⟨rfl, hb⟩; have HB3 : Hid (Below w.heap.size w w3) := (HB2.out.trans (hb.mono HB2.out.size)); clear hb HNX HB2)
  | (go_at_call 65; have HNX := HB3; (refine (CS1.out _ HB3.out).mono ?_); rintro e w4 ⟨rfl, hb⟩; have HB4 : Hid (Below w.heap.size w w4) := hb; clear hb HNX HB3))
 go_ret
 exact ⟨rfl, by first | exact HB4.out | exact HB4.out.alloc HB4.out.size _⟩
set_option maxHeartbeats 800000 in
theorem makeBegins_t {w : World} {pb b c : Nat} {T : List Tok} {st : Pst} (h : PaS w pb b c T st) (hT : T.length ≤ 200) (hat : st.at' ≤ 300) {us : ByteArray} {uk un : Int} {u1s : ByteArray} {u1k u1n : Int} {v2 : Bool} (hu : seeM T st 0 = ⟨uk, us, un⟩) (hu1 : seeM T st 1 = ⟨u1k, u1s, u1n⟩) (z : eqT ⟨u1k, u1s, u1n⟩ ⟨5, ⟨#[123]⟩, 0⟩ = v2) (c0 : eqT ⟨uk, us, un⟩ ⟨1, ⟨#[101, 108, 101, 109, 101, 110, 116]⟩, 0⟩ = false) (c1 : eqT ⟨uk, us, un⟩ ⟨1, ⟨#[97, 116, 116, 114, 105, 98, 117, 116, 101]⟩, 0⟩ = false) (c2 : eqT ⟨uk, us, un⟩ ⟨1, ⟨#[116, 101, 120, 116]⟩, 0⟩ = true) :
 Calls Tryz.prog 129 #[.pointer (some ⟨pb, 0, none⟩)] w fun e w' => e = .returned (.bool v2) ∧ Below w.heap.size w w' := by
 have CS0 : Hid (∀ W, Below w.heap.size w W → Calls Tryz.prog 65 #[.pointer (some ⟨pb, 0, none⟩), .int .i64 0] W fun e w' => e = .returned (.agg #[.int .i64 uk, .string us, .int .i64 un]) ∧ Below w.heap.size w w') := fun W hW => (see_lit (h.below hW) 0 (by omega) hT hat hu).mono fun e w' ⟨k1, k2⟩ => ⟨k1, hW.trans (k2.mono hW.size)⟩
 have E0 := eqT_run (k := uk) (s := us) (n := un) (k' := 1) (s' := ⟨#[101, 108, 101, 109, 101, 110, 116]⟩) (n' := 0) c0
 have E1 := eqT_run (k := uk) (s := us) (n := un) (k' := 1) (s' := ⟨#[97, 116, 116, 114, 105, 98, 117, 116, 101]⟩) (n' := 0) c1
 have E2 := eqT_run (k := uk) (s := us) (n := un) (k' := 1) (s' := ⟨#[116, 101, 120, 116]⟩) (n' := 0) c2
 have CS1 : Hid (∀ W, Below w.heap.size w W → Calls Tryz.prog 65 #[.pointer (some ⟨pb, 0, none⟩), .int .i64 1] W fun e w' => e = .returned (.agg #[.int .i64 u1k, .string u1s, .int .i64 u1n]) ∧ Below w.heap.size w w') := fun W hW => (see_lit (h.below hW) 1 (by omega) hT hat hu1).mono fun e w' ⟨k1, k2⟩ => ⟨k1, hW.trans (k2.mono hW.size)⟩
 have EZ := eqT_run z
 have HB0 : Hid (Below w.heap.size w w) := Below.refl _ _
 clear h
 go_enter Tryz.func129, Tryz.ntmps129
 go_wp2_with (first
  | (go_at_call 65; have HNX := HB0; (refine (CS0.out _ HB0.out).mono ?_); rintro e w1 ⟨rfl, hb⟩; have HB1 : Hid (Below w.heap.size w w1) := hb; clear hb HNX HB0)
  | (go_at_call 81; have HNX := HB1; refine (word_is _ _).mono ?_; rintro e w2 ⟨rfl, hb⟩; have HB2 : Hid (Below w.heap.size w w2) := (HB1.out.trans (hb.mono HB1.out.size)); clear hb HNX HB1)
  | (go_at_call 81; have HNX := HB2; refine (word_is _ _).mono ?_; rintro e w3 ⟨rfl, hb⟩; have HB3 : Hid (Below w.heap.size w w3) := (HB2.out.trans (hb.mono HB2.out.size)); clear hb HNX HB2)
  | (go_at_call 81; have HNX := HB3; refine (word_is _ _).mono ?_; rintro e w4 ⟨rfl, hb⟩; have HB4 : Hid (Below w.heap.size w w4) := (HB3.out.trans (hb.mono HB3.out.size)); clear hb HNX HB3)
  | (go_at_call 65; have HNX := HB4; (refine (CS1.out _ HB4.out).mono ?_); rintro e w5 ⟨rfl, hb⟩; have HB5 : Hid (Below w.heap.size w w5) := hb; clear hb HNX HB4)
  | (go_at_call 66; have HNX := HB5; refine (mark_is _ _).mono ?_; rintro e w6 ⟨rfl, hb⟩; have HB6 : Hid (Below w.heap.size w w6) := (HB5.out.trans (hb.mono HB5.out.size)); clear hb HNX HB5))
 go_ret
 exact ⟨rfl, by first | exact HB6.out | exact HB6.out.alloc HB6.out.size _⟩
set_option maxHeartbeats 800000 in
theorem makeBegins_no {w : World} {pb b c : Nat} {T : List Tok} {st : Pst} (h : PaS w pb b c T st) (hT : T.length ≤ 200) (hat : st.at' ≤ 300) {us : ByteArray} {uk un : Int} (hu : seeM T st 0 = ⟨uk, us, un⟩) (c0 : eqT ⟨uk, us, un⟩ ⟨1, ⟨#[101, 108, 101, 109, 101, 110, 116]⟩, 0⟩ = false) (c1 : eqT ⟨uk, us, un⟩ ⟨1, ⟨#[97, 116, 116, 114, 105, 98, 117, 116, 101]⟩, 0⟩ = false) (c2 : eqT ⟨uk, us, un⟩ ⟨1, ⟨#[116, 101, 120, 116]⟩, 0⟩ = false) :
 Calls Tryz.prog 129 #[.pointer (some ⟨pb, 0, none⟩)] w fun e w' => e = .returned (.bool false) ∧ Below w.heap.size w w' := by
 have CS0 : Hid (∀ W, Below w.heap.size w W → Calls Tryz.prog 65 #[.pointer (some ⟨pb, 0, none⟩), .int .i64 0] W fun e w' => e = .returned (.agg #[.int .i64 uk, .string us, .int .i64 un]) ∧ Below w.heap.size w w') := fun W hW => (see_lit (h.below hW) 0 (by omega) hT hat hu).mono fun e w' ⟨k1, k2⟩ => ⟨k1, hW.trans (k2.mono hW.size)⟩
 have E0 := eqT_run (k := uk) (s := us) (n := un) (k' := 1) (s' := ⟨#[101, 108, 101, 109, 101, 110, 116]⟩) (n' := 0) c0
 have E1 := eqT_run (k := uk) (s := us) (n := un) (k' := 1) (s' := ⟨#[97, 116, 116, 114, 105, 98, 117, 116, 101]⟩) (n' := 0) c1
 have E2 := eqT_run (k := uk) (s := us) (n := un) (k' := 1) (s' := ⟨#[116, 101, 120, 116]⟩) (n' := 0) c2
 have HB0 : Hid (Below w.heap.size w w) := Below.refl _ _
 clear h
 go_enter Tryz.func129, Tryz.ntmps129
 go_wp2_with (first
  | (go_at_call 65; have HNX := HB0; (refine (CS0.out _ HB0.out).mono ?_); rintro e w1 ⟨rfl, hb⟩; have HB1 : Hid (Below w.heap.size w w1) := hb; clear hb HNX HB0)
  | (go_at_call 81; have HNX := HB1; refine (word_is _ _).mono ?_; rintro e w2 ⟨rfl, hb⟩; have HB2 : Hid (Below w.heap.size w w2) := (HB1.out.trans (hb.mono HB1.out.size)); clear hb HNX HB1)
  | (go_at_call 81; have HNX := HB2; refine (word_is _ _).mono ?_; rintro e w3 ⟨rfl, hb⟩; have HB3 : Hid (Below w.heap.size w w3) := (HB2.out.trans (hb.mono HB2.out.size)); clear hb HNX HB2)
  | (go_at_call 81; have HNX := HB3; refine (word_is _ _).mono ?_; rintro e w4 ⟨rfl, hb⟩; have HB4 : Hid (Below w.heap.size w w4) := (HB3.out.trans (hb.mono HB3.out.size)); clear hb HNX HB3))
 go_ret
 exact ⟨rfl, by first | exact HB4.out | exact HB4.out.alloc HB4.out.size _⟩
theorem makeBegins_any {w : World} {pb b c : Nat} {T : List Tok} {st : Pst} (h : PaS w pb b c T st) (hT : T.length ≤ 200) (hat : st.at' ≤ 300) : Calls Tryz.prog 129 #[.pointer (some ⟨pb, 0, none⟩)] w fun e w' => e = .returned (.bool (mkBeg (seeM T st 0) (seeM T st 1) (seeM T st 2))) ∧ Below w.heap.size w w' := by
 obtain ⟨⟨uk, us, un⟩, hu⟩ : ∃ u, seeM T st 0 = u := ⟨_, rfl⟩
 obtain ⟨⟨u1k, u1s, u1n⟩, hu1⟩ : ∃ u, seeM T st 1 = u := ⟨_, rfl⟩
 obtain ⟨⟨u2k, u2s, u2n⟩, hu2⟩ : ∃ u, seeM T st 2 = u := ⟨_, rfl⟩
 rw [hu, hu1, hu2]
 unfold mkBeg
 cases c0 : eqT ⟨uk, us, un⟩ ⟨1, ⟨#[101, 108, 101, 109, 101, 110, 116]⟩, 0⟩
 case true =>
  cases k1 : (u1k == 1)
  · simpa [k1] using makeBegins_en h hT hat hu hu1 k1 c0
  · simpa [k1] using makeBegins_ey h hT hat hu hu1 hu2 k1 rfl c0
 cases c1 : eqT ⟨uk, us, un⟩ ⟨1, ⟨#[97, 116, 116, 114, 105, 98, 117, 116, 101]⟩, 0⟩
 case true =>
  cases k1 : (u1k == 1)
  · simpa [k1] using makeBegins_an h hT hat hu hu1 k1 c0 c1
  · simpa [k1] using makeBegins_ay h hT hat hu hu1 hu2 k1 rfl c0 c1
 cases c2 : eqT ⟨uk, us, un⟩ ⟨1, ⟨#[116, 101, 120, 116]⟩, 0⟩
 case true => simpa using makeBegins_t h hT hat hu hu1 rfl c0 c1 c2
 simpa using makeBegins_no h hT hat hu c0 c1 c2
end Go.Proofs.YtbnlekhjgkojlaaGreatDoor
