import Derived.Test.YtbnlekhjgkojlaaGreatDoorPrMin
set_option linter.unusedVariables false
namespace Go.Proofs.YtbnlekhjgkojlaaGreatDoor
set_option maxRecDepth 100000
open Go.RowKit
def opForA : Oper := { dst := some 22, op := Op.load 41 (Operand.tmp 4), type := 41, pos := "parse.go:136", after := #[{ on := 5, ground := Ground.guard }], guard := some (5, false) }
theorem opForA_eq : opForA = { dst := some 22, op := Op.load 41 (Operand.tmp 4), type := 41, pos := "parse.go:136", after := #[{ on := 5, ground := Ground.guard }], guard := some (5, false) } := rfl
def opForB : Oper := { dst := some 24, op := Op.binOp BinOp.eql 41 (Operand.tmp 22) (Operand.tmp 23) 41, type := 4, pos := "parse.go:136", after := #[{ on := 6, ground := Ground.data }, { on := 7, ground := Ground.data }, { on := 5, ground := Ground.guard }], guard := some (5, false) }
theorem opForB_eq : opForB = { dst := some 24, op := Op.binOp BinOp.eql 41 (Operand.tmp 22) (Operand.tmp 23) 41, type := 4, pos := "parse.go:136", after := #[{ on := 6, ground := Ground.data }, { on := 7, ground := Ground.data }, { on := 5, ground := Ground.guard }], guard := some (5, false) } := rfl
set_option maxHeartbeats 3200000 in
theorem single_for {pb b c : Nat} {T : List Tok} {st : Pst} {s0 s1 : Pst} {p : Ph} {us vs : ByteArray} {uk un vk vn : Int} (hT : T.length ≤ 200) (hat : st.at' ≤ 300) (hat0 : s0.at' ≤ 300) (ho : st.opn ≤ 100) (hop : 1 ≤ s1.opn ∧ s1.opn ≤ 200) (he : enterM T st (singleB (seeM T st 0)) = s0) (hu : seeM T s0 0 = ⟨uk, us, un⟩) (hu1 : seeM T s0 1 = ⟨vk, vs, vn⟩) (k4 : (vk == 4) = true) (y1 : eqT ⟨uk, us, un⟩ ⟨1, ⟨#[102, 111, 114]⟩, 0⟩ = true) (hlu : RunT pb b c T 82 #[.pointer (some ⟨pb, 0, none⟩)] s0 s1 p) : RunT pb b c T 68 #[.pointer (some ⟨pb, 0, none⟩)] st { s1 with opn := s1.opn - 1 } p := by
 intro w h htb
 have HTB : Hid (RTab w pb) := htb
 clear htb
 have HLU : Hid (RunT pb b c T 82 #[.pointer (some ⟨pb, 0, none⟩)] s0 s1 p) := hlu
 clear hlu
 have y1E := eqT_run y1
 obtain ⟨beg, hbeg⟩ : ∃ x, x = singleB (seeM T st 0) := ⟨_, rfl⟩
 have SB : Hid (∀ W, PaS W pb b c T st → Calls Tryz.prog 43 #[.pointer (some ⟨pb, 0, none⟩)] W fun e w' => e = .returned (.bool beg) ∧ Below W.heap.size W w') := fun W h => by rw [hbeg]; exact singleBegins_any h hT hat
 rw [← hbeg] at he
 clear hbeg
 have EF := field_kind vk vn vs
 have hpl := h.pl
 have hbl := h.bl
 have HPW : Hid (pb < w.heap.size) := hpl
 go_enter_defers Tryz.func68, Tryz.ntmps68
 go_upto_region 1 with fail
 obtain ⟨W1, hW1⟩ : ∃ W, W = w.alloc (.cells #[.int .i64 0, .int .i64 0, .int .i64 0, .string ⟨#[]⟩, .string ⟨#[]⟩, .int .i64 0, .int .i64 0, .int .i64 0, .string ⟨#[]⟩, .slice none 0 0, .slice none 0 0] 36) := ⟨_, rfl⟩
 have HG1 : Hid (GrowA pb w W1) := by rw [hW1]; exact (GrowA.refl _ _).alloc _
 have HP1 : Hid (PaS W1 pb b c T st) := by rw [hW1]; exact h.allocI _
 have HR1 : Hid (PhZ W1 w.heap.size) := by rw [hW1]; exact PhB.new w _
 rw [← hW1]
 obtain ⟨r, hr⟩ : ∃ r, r = w.heap.size := ⟨_, rfl⟩
 have HRW : Hid (w.heap.size ≤ r) := Nat.le_of_eq hr.symm
 have hrp : r ≠ pb := by omega
 have hrb : r ≠ b := by omega
 rw [← hr] at HR1 ⊢
 clear hW1 hr h hpl hbl
 go_upto_region 4 with (first
  | (go_at_call 43; (refine (SB.out _ HP1.out).mono ?_); rintro e w2 ⟨rfl, hb⟩; have HG2 : Hid (GrowA pb w w2) := (HG1.out.below hb); have HP2 : Hid (PaS w2 pb b c T st) := (HP1.out.below hb); have HR2 : Hid (PhZ w2 r) := (HR1.out.below hb); clear hb HP1 HG1 HR1)
  | (go_at_call 42; (refine (penter_is HP2.out _ ho).mono ?_); rintro e w3 ⟨q, rfl, hl, hp, hg, hq⟩; have HG3 : Hid (GrowA pb w w3) := (HG2.out.trans hg); have HP3 : Hid (PaS w3 pb b c T s0) := (by rw [← he]; exact hp); have HR3 : Hid (PhZ w3 r) := (HR2.out.grow hg hrp); have HL3 : Hid (Leave w3 pb q) := hl; have hrq : r ≠ q := (by have k1 := HR2.out.lt; first | omega | (simp at hq; omega)); clear hl hp hg hq HP2 HG2 HR2)
  | (go_at_call 65; (refine (see_lit HP3.out 1 (by omega) hT hat0 hu1).mono ?_); rintro e w4 ⟨rfl, hb⟩; have HG4 : Hid (GrowA pb w w4) := (HG3.out.below hb); have HP4 : Hid (PaS w4 pb b c T s0) := (HP3.out.below hb); have HR4 : Hid (PhZ w4 r) := (HR3.out.below hb); have HL4 : Hid (Leave w4 pb q) := (HL3.out.below hb); clear hb HP3 HG3 HR3 HL3)
  | (go_at_call 65; (refine (see_lit HP4.out 0 (by omega) hT hat0 hu).mono ?_); rintro e w5 ⟨rfl, hb⟩; have HG5 : Hid (GrowA pb w w5) := (HG4.out.below hb); have HP5 : Hid (PaS w5 pb b c T s0) := (HP4.out.below hb); have HR5 : Hid (PhZ w5 r) := (HR4.out.below hb); have HL5 : Hid (Leave w5 pb q) := (HL4.out.below hb); clear hb HP4 HG4 HR4 HL4))
 obtain ⟨w6, hw6⟩ : ∃ W, W = w5.alloc (.cells #[.int .i64 uk, .string us, .int .i64 un] 41) := ⟨_, rfl⟩
 obtain ⟨x, hx⟩ : ∃ x, x = w5.heap.size := ⟨_, rfl⟩
 have HG6 : Hid (GrowA pb w w6) := by rw [hw6]; exact HG5.out.alloc _
 have HP6 : Hid (PaS w6 pb b c T s0) := by rw [hw6]; exact HP5.out.allocI _
 have HR6 : Hid (PhZ w6 r) := by rw [hw6]; exact HR5.out.allocI _
 have HL6 : Hid (Leave w6 pb q) := by rw [hw6]; exact HL5.out.allocI _
 have HX6 : Hid (TkB w6 x #[.int .i64 uk, .string us, .int .i64 un]) := by rw [hw6, hx]; exact TkB.new w5 _
 obtain ⟨c0, c1, c2⟩ := HX6.out.cells
 rw [← hw6, ← hx]
 clear hw6 hx HG5 HP5 HR5 HL5
 have CW0 : Hid (∀ W, Below w6.heap.size w6 W → Calls Tryz.prog 81 #[.string ⟨#[102, 111, 114]⟩] W fun e w' => e = .returned (.agg #[.int .i64 1, .string ⟨#[102, 111, 114]⟩, .int .i64 0]) ∧ Below w6.heap.size w6 w') := fun W hW => (word_is _ W).mono fun e w' ⟨k1, k2⟩ => ⟨k1, hW.trans (k2.mono hW.size)⟩
 have HSS : Hid (∀ W, Below w6.heap.size w6 W → W.cell? ⟨x, 0, none⟩ = some (.int .i64 uk) ∧ W.cell? ⟨x, 1, none⟩ = some (.string us) ∧ W.cell? ⟨x, 2, none⟩ = some (.int .i64 un)) := fun W hb => (HX6.out.below hb).cells
 rw [← opForA_eq, ← opForB_eq]
 have hopForA := opForA_eq
 have hopForB := opForB_eq
 go_region_held3 (fun W => W.cell? ⟨x, 0, none⟩ = some (.int .i64 uk) ∧ W.cell? ⟨x, 1, none⟩ = some (.string us) ∧ W.cell? ⟨x, 2, none⟩ = some (.int .i64 un))
  ((refine HSS.out _ ?_; repeat (first | exact Hid.out (by assumption) | exact Below.refl _ _ | refine Below.drew ?_)))
  (first
   | (go_at_call 81; refine (CW0.out _ ?_).mono ?_; (focus (repeat (first | exact Below.refl _ _ | refine Below.drew ?_))); rintro e w7 ⟨rfl, hb⟩; have HB7 : Hid (Below w6.heap.size w6 w7) := hb; clear hb CW0))
 all_goals
  have HG7 : Hid (GrowA pb w w7) := HG6.out.below HB7.out
  have HP7 : Hid (PaS w7 pb b c T s0) := HP6.out.below HB7.out
  have HR7 : Hid (PhZ w7 r) := HR6.out.below HB7.out
  have HL7 : Hid (Leave w7 pb q) := HL6.out.below HB7.out
  have HX7 : Hid (TkB w7 x #[.int .i64 uk, .string us, .int .i64 un]) := HX6.out.below HB7.out
  clear hopForA hopForB c0 c1 c2 HSS HG6 HP6 HR6 HL6 HX6 HB7
  go_wp2_with (first
   | (go_at_call 82; (first | refine (HLU.out.use HTB.out HP7.out HG7.out (show r < _ from by have k := HR7.out.lt; first | exact k | (simp; omega))).mono ?_ | refine (HLU.out.use HTB.out (HP7.out.allocI _) (HG7.out.alloc _) (show r < _ from by have k := HR7.out.lt; first | exact k | (simp; omega))).mono ?_ | refine (HLU.out.use HTB.out ((HP7.out.allocI _).allocI _) ((HG7.out.alloc _).alloc _) (show r < _ from by have k := HR7.out.lt; first | exact k | (simp; omega))).mono ?_); rintro e w8 ⟨lo1, v, hlo, hv, rfl, hp, hg⟩; obtain ⟨k0_1, k1_1, k2_1, k5_1, k6_1, k7_1, s3_1, s4_1, s8_1, a9_1, a10_1, l9_1, c9_1, l10_1, c10_1, rfl⟩ := hv.form; have hlo1 := hlo.1; have hlp1 := hlo.2.1; have hlz1 := hlo.2.2; have HG8 : Hid (GrowA pb w w8) := (HG7.out.trans hg); have HP8 : Hid (PaS w8 pb b c T s1) := hp; have HR8 : Hid (PhZ w8 r) := (HR7.out.grow hg hrp); have HL8 : Hid (Leave w8 pb q) := (HL7.out.grow hg); have HV1_8 : Hid (Tre w8 lo1 p [.int .i64 k0_1, .int .i64 k1_1, .int .i64 k2_1, .string s3_1, .string s4_1, .int .i64 k5_1, .int .i64 k6_1, .int .i64 k7_1, .string s8_1, .slice a9_1 l9_1 c9_1, .slice a10_1 l10_1 c10_1]) := hv; obtain ⟨⟨y0, y1, y2, y3, y4, y5, y6, y7, y8, y9, y10⟩, z0, z1, z2, z3, z4, z5, z6, z7, z8, z9, z10⟩ := HR8.out.cells; clear hv hlo hp hg HP7 HG7 HR7 HL7))
  obtain ⟨Wd, hWd⟩ : ∃ W, W = (((((((((((w8.setCell ⟨r, 0, none⟩ (.int .i64 k0_1)).setCell ⟨r, 1, none⟩ (.int .i64 k1_1)).setCell ⟨r, 2, none⟩ (.int .i64 k2_1)).setCell ⟨r, 3, none⟩ (.string s3_1)).setCell ⟨r, 4, none⟩ (.string s4_1)).setCell ⟨r, 5, none⟩ (.int .i64 k5_1)).setCell ⟨r, 6, none⟩ (.int .i64 k6_1)).setCell ⟨r, 7, none⟩ (.int .i64 k7_1)).setCell ⟨r, 8, none⟩ (.string s8_1)).setCell ⟨r, 9, none⟩ (.slice a9_1 l9_1 c9_1)).setCell ⟨r, 10, none⟩ (.slice a10_1 l10_1 c10_1)) := ⟨_, rfl⟩
  have HD : Hid (PaS Wd pb b c T s1) := by
   refine HidOf ?_
   rw [hWd]
   (repeat (first | with_reducible refine PaS.setR ?_ hrp hrb _ _ | with_reducible refine PaS.allocI ?_ _ | exact HP8.out))
  have HE : Hid (GrowA pb w Wd) := by
   refine HidOf ?_
   rw [hWd]
   (repeat (first | with_reducible refine GrowA.setR ?_ HRW.out _ _ | with_reducible refine GrowA.alloc ?_ _ | exact HG8.out))
  have HQ : Hid (Leave Wd pb q) := by
   refine HidOf ?_
   rw [hWd]
   (repeat (first | with_reducible refine Leave.setR ?_ hrq _ _ | with_reducible refine Leave.allocI ?_ _ | exact HL8.out))
  have HZ : Hid (PhB Wd r #[.int .i64 k0_1, .int .i64 k1_1, .int .i64 k2_1, .string s3_1, .string s4_1, .int .i64 k5_1, .int .i64 k6_1, .int .i64 k7_1, .string s8_1, .slice a9_1 l9_1 c9_1, .slice a10_1 l10_1 c10_1]) := by rw [hWd]; exact PhB.put HR8.out
  have HT : Hid (Tre Wd w.heap.size p [.int .i64 k0_1, .int .i64 k1_1, .int .i64 k2_1, .string s3_1, .string s4_1, .int .i64 k5_1, .int .i64 k6_1, .int .i64 k7_1, .string s8_1, .slice a9_1 l9_1 c9_1, .slice a10_1 l10_1 c10_1]) := by
   refine HidOf ?_
   rw [hWd]
   (refine Tre.mono (lo := lo1) ?_ (by have := HRW.out; omega); (repeat (first | with_reducible refine Tre.setR ?_ hlo1 _ _ | with_reducible refine Tre.allocI ?_ _ | with_reducible exact HV1_8.out)))
  rw [← hWd]
  clear hWd
  refine leaves_cons (f := 64) (args := #[.pointer (some ⟨q, 0, none⟩)]) (by simp) (by simp [go_sem]) ?_
  refine (pleave_is HD.out HQ.out hop .returning).mono ?_
  rintro e u' w99 ⟨rfl, rfl, hp, hg⟩
  obtain ⟨⟨u0, u1, u2, u3, u4, u5, u6, u7, u8, u9, u10⟩, _⟩ := (HZ.out.grow hg hrp).cells
  exact ⟨.agg #[.int .i64 k0_1, .int .i64 k1_1, .int .i64 k2_1, .string s3_1, .string s4_1, .int .i64 k5_1, .int .i64 k6_1, .int .i64 k7_1, .string s8_1, .slice a9_1 l9_1 c9_1, .slice a10_1 l10_1 c10_1], by simp [results, Tryz.results68, go_sem, u0, u1, u2, u3, u4, u5, u6, u7, u8, u9, u10], ⟨_, HT.out.grow hg HPW.out, rfl, hp, HE.out.trans hg⟩⟩
set_option maxHeartbeats 3200000 in
theorem single_let {pb b c : Nat} {T : List Tok} {st : Pst} {s0 s1 : Pst} {p : Ph} {us vs : ByteArray} {uk un vk vn : Int} (hT : T.length ≤ 200) (hat : st.at' ≤ 300) (hat0 : s0.at' ≤ 300) (ho : st.opn ≤ 100) (hop : 1 ≤ s1.opn ∧ s1.opn ≤ 200) (he : enterM T st (singleB (seeM T st 0)) = s0) (hu : seeM T s0 0 = ⟨uk, us, un⟩) (hu1 : seeM T s0 1 = ⟨vk, vs, vn⟩) (k4 : (vk == 4) = true) (n1 : eqT ⟨uk, us, un⟩ ⟨1, ⟨#[102, 111, 114]⟩, 0⟩ = false) (y2 : eqT ⟨uk, us, un⟩ ⟨1, ⟨#[108, 101, 116]⟩, 0⟩ = true) (hlu : RunT pb b c T 82 #[.pointer (some ⟨pb, 0, none⟩)] s0 s1 p) : RunT pb b c T 68 #[.pointer (some ⟨pb, 0, none⟩)] st { s1 with opn := s1.opn - 1 } p := by
 intro w h htb
 have HTB : Hid (RTab w pb) := htb
 clear htb
 have HLU : Hid (RunT pb b c T 82 #[.pointer (some ⟨pb, 0, none⟩)] s0 s1 p) := hlu
 clear hlu
 have n1E := eqT_run n1
 have y2E := eqT_run y2
 obtain ⟨beg, hbeg⟩ : ∃ x, x = singleB (seeM T st 0) := ⟨_, rfl⟩
 have SB : Hid (∀ W, PaS W pb b c T st → Calls Tryz.prog 43 #[.pointer (some ⟨pb, 0, none⟩)] W fun e w' => e = .returned (.bool beg) ∧ Below W.heap.size W w') := fun W h => by rw [hbeg]; exact singleBegins_any h hT hat
 rw [← hbeg] at he
 clear hbeg
 have EF := field_kind vk vn vs
 have hpl := h.pl
 have hbl := h.bl
 have HPW : Hid (pb < w.heap.size) := hpl
 go_enter_defers Tryz.func68, Tryz.ntmps68
 go_upto_region 1 with fail
 obtain ⟨W1, hW1⟩ : ∃ W, W = w.alloc (.cells #[.int .i64 0, .int .i64 0, .int .i64 0, .string ⟨#[]⟩, .string ⟨#[]⟩, .int .i64 0, .int .i64 0, .int .i64 0, .string ⟨#[]⟩, .slice none 0 0, .slice none 0 0] 36) := ⟨_, rfl⟩
 have HG1 : Hid (GrowA pb w W1) := by rw [hW1]; exact (GrowA.refl _ _).alloc _
 have HP1 : Hid (PaS W1 pb b c T st) := by rw [hW1]; exact h.allocI _
 have HR1 : Hid (PhZ W1 w.heap.size) := by rw [hW1]; exact PhB.new w _
 rw [← hW1]
 obtain ⟨r, hr⟩ : ∃ r, r = w.heap.size := ⟨_, rfl⟩
 have HRW : Hid (w.heap.size ≤ r) := Nat.le_of_eq hr.symm
 have hrp : r ≠ pb := by omega
 have hrb : r ≠ b := by omega
 rw [← hr] at HR1 ⊢
 clear hW1 hr h hpl hbl
 go_upto_region 4 with (first
  | (go_at_call 43; (refine (SB.out _ HP1.out).mono ?_); rintro e w2 ⟨rfl, hb⟩; have HG2 : Hid (GrowA pb w w2) := (HG1.out.below hb); have HP2 : Hid (PaS w2 pb b c T st) := (HP1.out.below hb); have HR2 : Hid (PhZ w2 r) := (HR1.out.below hb); clear hb HP1 HG1 HR1)
  | (go_at_call 42; (refine (penter_is HP2.out _ ho).mono ?_); rintro e w3 ⟨q, rfl, hl, hp, hg, hq⟩; have HG3 : Hid (GrowA pb w w3) := (HG2.out.trans hg); have HP3 : Hid (PaS w3 pb b c T s0) := (by rw [← he]; exact hp); have HR3 : Hid (PhZ w3 r) := (HR2.out.grow hg hrp); have HL3 : Hid (Leave w3 pb q) := hl; have hrq : r ≠ q := (by have k1 := HR2.out.lt; first | omega | (simp at hq; omega)); clear hl hp hg hq HP2 HG2 HR2)
  | (go_at_call 65; (refine (see_lit HP3.out 1 (by omega) hT hat0 hu1).mono ?_); rintro e w4 ⟨rfl, hb⟩; have HG4 : Hid (GrowA pb w w4) := (HG3.out.below hb); have HP4 : Hid (PaS w4 pb b c T s0) := (HP3.out.below hb); have HR4 : Hid (PhZ w4 r) := (HR3.out.below hb); have HL4 : Hid (Leave w4 pb q) := (HL3.out.below hb); clear hb HP3 HG3 HR3 HL3)
  | (go_at_call 65; (refine (see_lit HP4.out 0 (by omega) hT hat0 hu).mono ?_); rintro e w5 ⟨rfl, hb⟩; have HG5 : Hid (GrowA pb w w5) := (HG4.out.below hb); have HP5 : Hid (PaS w5 pb b c T s0) := (HP4.out.below hb); have HR5 : Hid (PhZ w5 r) := (HR4.out.below hb); have HL5 : Hid (Leave w5 pb q) := (HL4.out.below hb); clear hb HP4 HG4 HR4 HL4))
 obtain ⟨w6, hw6⟩ : ∃ W, W = w5.alloc (.cells #[.int .i64 uk, .string us, .int .i64 un] 41) := ⟨_, rfl⟩
 obtain ⟨x, hx⟩ : ∃ x, x = w5.heap.size := ⟨_, rfl⟩
 have HG6 : Hid (GrowA pb w w6) := by rw [hw6]; exact HG5.out.alloc _
 have HP6 : Hid (PaS w6 pb b c T s0) := by rw [hw6]; exact HP5.out.allocI _
 have HR6 : Hid (PhZ w6 r) := by rw [hw6]; exact HR5.out.allocI _
 have HL6 : Hid (Leave w6 pb q) := by rw [hw6]; exact HL5.out.allocI _
 have HX6 : Hid (TkB w6 x #[.int .i64 uk, .string us, .int .i64 un]) := by rw [hw6, hx]; exact TkB.new w5 _
 obtain ⟨c0, c1, c2⟩ := HX6.out.cells
 rw [← hw6, ← hx]
 clear hw6 hx HG5 HP5 HR5 HL5
 have CW0 : Hid (∀ W, Below w6.heap.size w6 W → Calls Tryz.prog 81 #[.string ⟨#[102, 111, 114]⟩] W fun e w' => e = .returned (.agg #[.int .i64 1, .string ⟨#[102, 111, 114]⟩, .int .i64 0]) ∧ Below w6.heap.size w6 w') := fun W hW => (word_is _ W).mono fun e w' ⟨k1, k2⟩ => ⟨k1, hW.trans (k2.mono hW.size)⟩
 have CW1 : Hid (∀ W, Below w6.heap.size w6 W → Calls Tryz.prog 81 #[.string ⟨#[108, 101, 116]⟩] W fun e w' => e = .returned (.agg #[.int .i64 1, .string ⟨#[108, 101, 116]⟩, .int .i64 0]) ∧ Below w6.heap.size w6 w') := fun W hW => (word_is _ W).mono fun e w' ⟨k1, k2⟩ => ⟨k1, hW.trans (k2.mono hW.size)⟩
 have HSS : Hid (∀ W, Below w6.heap.size w6 W → W.cell? ⟨x, 0, none⟩ = some (.int .i64 uk) ∧ W.cell? ⟨x, 1, none⟩ = some (.string us) ∧ W.cell? ⟨x, 2, none⟩ = some (.int .i64 un)) := fun W hb => (HX6.out.below hb).cells
 go_region_held3 (fun W => W.cell? ⟨x, 0, none⟩ = some (.int .i64 uk) ∧ W.cell? ⟨x, 1, none⟩ = some (.string us) ∧ W.cell? ⟨x, 2, none⟩ = some (.int .i64 un))
  ((refine HSS.out _ ?_; repeat (first | exact Hid.out (by assumption) | exact Below.refl _ _ | refine Below.drew ?_)))
  (first
   | (go_at_call 81; refine (CW0.out _ ?_).mono ?_; (focus (repeat (first | exact Below.refl _ _ | refine Below.drew ?_))); rintro e w7 ⟨rfl, hb⟩; have HB7 : Hid (Below w6.heap.size w6 w7) := hb; clear hb CW0)
   | (go_at_call 81; refine (CW1.out _ ?_).mono ?_; (focus (repeat (exact Hid.out (by assumption)))); rintro e w8 ⟨rfl, hb⟩; have HB8 : Hid (Below w6.heap.size w6 w8) := hb; clear hb CW1))
 have HG8 : Hid (GrowA pb w w8) := HG6.out.below HB8.out
 have HP8 : Hid (PaS w8 pb b c T s0) := HP6.out.below HB8.out
 have HR8 : Hid (PhZ w8 r) := HR6.out.below HB8.out
 have HL8 : Hid (Leave w8 pb q) := HL6.out.below HB8.out
 have HX8 : Hid (TkB w8 x #[.int .i64 uk, .string us, .int .i64 un]) := HX6.out.below HB8.out
 clear  c0 c1 c2 HSS HG6 HP6 HR6 HL6 HX6 HB8
 go_wp2_with (first
  | (go_at_call 82; (first | refine (HLU.out.use HTB.out HP8.out HG8.out (show r < _ from by have k := HR8.out.lt; first | exact k | (simp; omega))).mono ?_ | refine (HLU.out.use HTB.out (HP8.out.allocI _) (HG8.out.alloc _) (show r < _ from by have k := HR8.out.lt; first | exact k | (simp; omega))).mono ?_ | refine (HLU.out.use HTB.out ((HP8.out.allocI _).allocI _) ((HG8.out.alloc _).alloc _) (show r < _ from by have k := HR8.out.lt; first | exact k | (simp; omega))).mono ?_); rintro e w9 ⟨lo1, v, hlo, hv, rfl, hp, hg⟩; obtain ⟨k0_1, k1_1, k2_1, k5_1, k6_1, k7_1, s3_1, s4_1, s8_1, a9_1, a10_1, l9_1, c9_1, l10_1, c10_1, rfl⟩ := hv.form; have hlo1 := hlo.1; have hlp1 := hlo.2.1; have hlz1 := hlo.2.2; have HG9 : Hid (GrowA pb w w9) := (HG8.out.trans hg); have HP9 : Hid (PaS w9 pb b c T s1) := hp; have HR9 : Hid (PhZ w9 r) := (HR8.out.grow hg hrp); have HL9 : Hid (Leave w9 pb q) := (HL8.out.grow hg); have HV1_9 : Hid (Tre w9 lo1 p [.int .i64 k0_1, .int .i64 k1_1, .int .i64 k2_1, .string s3_1, .string s4_1, .int .i64 k5_1, .int .i64 k6_1, .int .i64 k7_1, .string s8_1, .slice a9_1 l9_1 c9_1, .slice a10_1 l10_1 c10_1]) := hv; obtain ⟨⟨y0, y1, y2, y3, y4, y5, y6, y7, y8, y9, y10⟩, z0, z1, z2, z3, z4, z5, z6, z7, z8, z9, z10⟩ := HR9.out.cells; clear hv hlo hp hg HP8 HG8 HR8 HL8))
 obtain ⟨Wd, hWd⟩ : ∃ W, W = (((((((((((w9.setCell ⟨r, 0, none⟩ (.int .i64 k0_1)).setCell ⟨r, 1, none⟩ (.int .i64 k1_1)).setCell ⟨r, 2, none⟩ (.int .i64 k2_1)).setCell ⟨r, 3, none⟩ (.string s3_1)).setCell ⟨r, 4, none⟩ (.string s4_1)).setCell ⟨r, 5, none⟩ (.int .i64 k5_1)).setCell ⟨r, 6, none⟩ (.int .i64 k6_1)).setCell ⟨r, 7, none⟩ (.int .i64 k7_1)).setCell ⟨r, 8, none⟩ (.string s8_1)).setCell ⟨r, 9, none⟩ (.slice a9_1 l9_1 c9_1)).setCell ⟨r, 10, none⟩ (.slice a10_1 l10_1 c10_1)) := ⟨_, rfl⟩
 have HD : Hid (PaS Wd pb b c T s1) := by
  refine HidOf ?_
  rw [hWd]
  (repeat (first | with_reducible refine PaS.setR ?_ hrp hrb _ _ | with_reducible refine PaS.allocI ?_ _ | exact HP9.out))
 have HE : Hid (GrowA pb w Wd) := by
  refine HidOf ?_
  rw [hWd]
  (repeat (first | with_reducible refine GrowA.setR ?_ HRW.out _ _ | with_reducible refine GrowA.alloc ?_ _ | exact HG9.out))
 have HQ : Hid (Leave Wd pb q) := by
  refine HidOf ?_
  rw [hWd]
  (repeat (first | with_reducible refine Leave.setR ?_ hrq _ _ | with_reducible refine Leave.allocI ?_ _ | exact HL9.out))
 have HZ : Hid (PhB Wd r #[.int .i64 k0_1, .int .i64 k1_1, .int .i64 k2_1, .string s3_1, .string s4_1, .int .i64 k5_1, .int .i64 k6_1, .int .i64 k7_1, .string s8_1, .slice a9_1 l9_1 c9_1, .slice a10_1 l10_1 c10_1]) := by rw [hWd]; exact PhB.put HR9.out
 have HT : Hid (Tre Wd w.heap.size p [.int .i64 k0_1, .int .i64 k1_1, .int .i64 k2_1, .string s3_1, .string s4_1, .int .i64 k5_1, .int .i64 k6_1, .int .i64 k7_1, .string s8_1, .slice a9_1 l9_1 c9_1, .slice a10_1 l10_1 c10_1]) := by
  refine HidOf ?_
  rw [hWd]
  (refine Tre.mono (lo := lo1) ?_ (by have := HRW.out; omega); (repeat (first | with_reducible refine Tre.setR ?_ hlo1 _ _ | with_reducible refine Tre.allocI ?_ _ | with_reducible exact HV1_9.out)))
 rw [← hWd]
 clear hWd
 refine leaves_cons (f := 64) (args := #[.pointer (some ⟨q, 0, none⟩)]) (by simp) (by simp [go_sem]) ?_
 refine (pleave_is HD.out HQ.out hop .returning).mono ?_
 rintro e u' w99 ⟨rfl, rfl, hp, hg⟩
 obtain ⟨⟨u0, u1, u2, u3, u4, u5, u6, u7, u8, u9, u10⟩, _⟩ := (HZ.out.grow hg hrp).cells
 exact ⟨.agg #[.int .i64 k0_1, .int .i64 k1_1, .int .i64 k2_1, .string s3_1, .string s4_1, .int .i64 k5_1, .int .i64 k6_1, .int .i64 k7_1, .string s8_1, .slice a9_1 l9_1 c9_1, .slice a10_1 l10_1 c10_1], by simp [results, Tryz.results68, go_sem, u0, u1, u2, u3, u4, u5, u6, u7, u8, u9, u10], ⟨_, HT.out.grow hg HPW.out, rfl, hp, HE.out.trans hg⟩⟩
set_option maxHeartbeats 3200000 in
theorem single_some {pb b c : Nat} {T : List Tok} {st : Pst} {s0 s1 : Pst} {p : Ph} {us vs : ByteArray} {uk un vk vn : Int} (hT : T.length ≤ 200) (hat : st.at' ≤ 300) (hat0 : s0.at' ≤ 300) (ho : st.opn ≤ 100) (hop : 1 ≤ s1.opn ∧ s1.opn ≤ 200) (he : enterM T st (singleB (seeM T st 0)) = s0) (hu : seeM T s0 0 = ⟨uk, us, un⟩) (hu1 : seeM T s0 1 = ⟨vk, vs, vn⟩) (k4 : (vk == 4) = true) (n1 : eqT ⟨uk, us, un⟩ ⟨1, ⟨#[102, 111, 114]⟩, 0⟩ = false) (n2 : eqT ⟨uk, us, un⟩ ⟨1, ⟨#[108, 101, 116]⟩, 0⟩ = false) (y3 : eqT ⟨uk, us, un⟩ ⟨1, ⟨#[115, 111, 109, 101]⟩, 0⟩ = true) (hlu : RunT pb b c T 83 #[.pointer (some ⟨pb, 0, none⟩), .int .i64 23] s0 s1 p) : RunT pb b c T 68 #[.pointer (some ⟨pb, 0, none⟩)] st { s1 with opn := s1.opn - 1 } p := by
 intro w h htb
 have HTB : Hid (RTab w pb) := htb
 clear htb
 have HLU : Hid (RunT pb b c T 83 #[.pointer (some ⟨pb, 0, none⟩), .int .i64 23] s0 s1 p) := hlu
 clear hlu
 have n1E := eqT_run n1
 have n2E := eqT_run n2
 have y3E := eqT_run y3
 obtain ⟨beg, hbeg⟩ : ∃ x, x = singleB (seeM T st 0) := ⟨_, rfl⟩
 have SB : Hid (∀ W, PaS W pb b c T st → Calls Tryz.prog 43 #[.pointer (some ⟨pb, 0, none⟩)] W fun e w' => e = .returned (.bool beg) ∧ Below W.heap.size W w') := fun W h => by rw [hbeg]; exact singleBegins_any h hT hat
 rw [← hbeg] at he
 clear hbeg
 have EF := field_kind vk vn vs
 have hpl := h.pl
 have hbl := h.bl
 have HPW : Hid (pb < w.heap.size) := hpl
 go_enter_defers Tryz.func68, Tryz.ntmps68
 go_upto_region 1 with fail
 obtain ⟨W1, hW1⟩ : ∃ W, W = w.alloc (.cells #[.int .i64 0, .int .i64 0, .int .i64 0, .string ⟨#[]⟩, .string ⟨#[]⟩, .int .i64 0, .int .i64 0, .int .i64 0, .string ⟨#[]⟩, .slice none 0 0, .slice none 0 0] 36) := ⟨_, rfl⟩
 have HG1 : Hid (GrowA pb w W1) := by rw [hW1]; exact (GrowA.refl _ _).alloc _
 have HP1 : Hid (PaS W1 pb b c T st) := by rw [hW1]; exact h.allocI _
 have HR1 : Hid (PhZ W1 w.heap.size) := by rw [hW1]; exact PhB.new w _
 rw [← hW1]
 obtain ⟨r, hr⟩ : ∃ r, r = w.heap.size := ⟨_, rfl⟩
 have HRW : Hid (w.heap.size ≤ r) := Nat.le_of_eq hr.symm
 have hrp : r ≠ pb := by omega
 have hrb : r ≠ b := by omega
 rw [← hr] at HR1 ⊢
 clear hW1 hr h hpl hbl
 go_upto_region 4 with (first
  | (go_at_call 43; (refine (SB.out _ HP1.out).mono ?_); rintro e w2 ⟨rfl, hb⟩; have HG2 : Hid (GrowA pb w w2) := (HG1.out.below hb); have HP2 : Hid (PaS w2 pb b c T st) := (HP1.out.below hb); have HR2 : Hid (PhZ w2 r) := (HR1.out.below hb); clear hb HP1 HG1 HR1)
  | (go_at_call 42; (refine (penter_is HP2.out _ ho).mono ?_); rintro e w3 ⟨q, rfl, hl, hp, hg, hq⟩; have HG3 : Hid (GrowA pb w w3) := (HG2.out.trans hg); have HP3 : Hid (PaS w3 pb b c T s0) := (by rw [← he]; exact hp); have HR3 : Hid (PhZ w3 r) := (HR2.out.grow hg hrp); have HL3 : Hid (Leave w3 pb q) := hl; have hrq : r ≠ q := (by have k1 := HR2.out.lt; first | omega | (simp at hq; omega)); clear hl hp hg hq HP2 HG2 HR2)
  | (go_at_call 65; (refine (see_lit HP3.out 1 (by omega) hT hat0 hu1).mono ?_); rintro e w4 ⟨rfl, hb⟩; have HG4 : Hid (GrowA pb w w4) := (HG3.out.below hb); have HP4 : Hid (PaS w4 pb b c T s0) := (HP3.out.below hb); have HR4 : Hid (PhZ w4 r) := (HR3.out.below hb); have HL4 : Hid (Leave w4 pb q) := (HL3.out.below hb); clear hb HP3 HG3 HR3 HL3)
  | (go_at_call 65; (refine (see_lit HP4.out 0 (by omega) hT hat0 hu).mono ?_); rintro e w5 ⟨rfl, hb⟩; have HG5 : Hid (GrowA pb w w5) := (HG4.out.below hb); have HP5 : Hid (PaS w5 pb b c T s0) := (HP4.out.below hb); have HR5 : Hid (PhZ w5 r) := (HR4.out.below hb); have HL5 : Hid (Leave w5 pb q) := (HL4.out.below hb); clear hb HP4 HG4 HR4 HL4))
 obtain ⟨w6, hw6⟩ : ∃ W, W = w5.alloc (.cells #[.int .i64 uk, .string us, .int .i64 un] 41) := ⟨_, rfl⟩
 obtain ⟨x, hx⟩ : ∃ x, x = w5.heap.size := ⟨_, rfl⟩
 have HG6 : Hid (GrowA pb w w6) := by rw [hw6]; exact HG5.out.alloc _
 have HP6 : Hid (PaS w6 pb b c T s0) := by rw [hw6]; exact HP5.out.allocI _
 have HR6 : Hid (PhZ w6 r) := by rw [hw6]; exact HR5.out.allocI _
 have HL6 : Hid (Leave w6 pb q) := by rw [hw6]; exact HL5.out.allocI _
 have HX6 : Hid (TkB w6 x #[.int .i64 uk, .string us, .int .i64 un]) := by rw [hw6, hx]; exact TkB.new w5 _
 obtain ⟨c0, c1, c2⟩ := HX6.out.cells
 rw [← hw6, ← hx]
 clear hw6 hx HG5 HP5 HR5 HL5
 have CW0 : Hid (∀ W, Below w6.heap.size w6 W → Calls Tryz.prog 81 #[.string ⟨#[102, 111, 114]⟩] W fun e w' => e = .returned (.agg #[.int .i64 1, .string ⟨#[102, 111, 114]⟩, .int .i64 0]) ∧ Below w6.heap.size w6 w') := fun W hW => (word_is _ W).mono fun e w' ⟨k1, k2⟩ => ⟨k1, hW.trans (k2.mono hW.size)⟩
 have CW1 : Hid (∀ W, Below w6.heap.size w6 W → Calls Tryz.prog 81 #[.string ⟨#[108, 101, 116]⟩] W fun e w' => e = .returned (.agg #[.int .i64 1, .string ⟨#[108, 101, 116]⟩, .int .i64 0]) ∧ Below w6.heap.size w6 w') := fun W hW => (word_is _ W).mono fun e w' ⟨k1, k2⟩ => ⟨k1, hW.trans (k2.mono hW.size)⟩
 have HSS : Hid (∀ W, Below w6.heap.size w6 W → W.cell? ⟨x, 0, none⟩ = some (.int .i64 uk) ∧ W.cell? ⟨x, 1, none⟩ = some (.string us) ∧ W.cell? ⟨x, 2, none⟩ = some (.int .i64 un)) := fun W hb => (HX6.out.below hb).cells
 go_region_held3 (fun W => W.cell? ⟨x, 0, none⟩ = some (.int .i64 uk) ∧ W.cell? ⟨x, 1, none⟩ = some (.string us) ∧ W.cell? ⟨x, 2, none⟩ = some (.int .i64 un))
  ((refine HSS.out _ ?_; repeat (first | exact Hid.out (by assumption) | exact Below.refl _ _ | refine Below.drew ?_)))
  (first
   | (go_at_call 81; refine (CW0.out _ ?_).mono ?_; (focus (repeat (first | exact Below.refl _ _ | refine Below.drew ?_))); rintro e w7 ⟨rfl, hb⟩; have HB7 : Hid (Below w6.heap.size w6 w7) := hb; clear hb CW0)
   | (go_at_call 81; refine (CW1.out _ ?_).mono ?_; (focus (repeat (exact Hid.out (by assumption)))); rintro e w8 ⟨rfl, hb⟩; have HB8 : Hid (Below w6.heap.size w6 w8) := hb; clear hb CW1))
 have HG8 : Hid (GrowA pb w w8) := HG6.out.below HB8.out
 have HP8 : Hid (PaS w8 pb b c T s0) := HP6.out.below HB8.out
 have HR8 : Hid (PhZ w8 r) := HR6.out.below HB8.out
 have HL8 : Hid (Leave w8 pb q) := HL6.out.below HB8.out
 have HX8 : Hid (TkB w8 x #[.int .i64 uk, .string us, .int .i64 un]) := HX6.out.below HB8.out
 clear  c0 c1 c2 HSS HG6 HP6 HR6 HL6 HX6 HB8
 obtain ⟨c0, c1, c2⟩ := HX8.out.cells
 have CW0 : Hid (∀ W, Below w8.heap.size w8 W → Calls Tryz.prog 81 #[.string ⟨#[115, 111, 109, 101]⟩] W fun e w' => e = .returned (.agg #[.int .i64 1, .string ⟨#[115, 111, 109, 101]⟩, .int .i64 0]) ∧ Below w8.heap.size w8 w') := fun W hW => (word_is _ W).mono fun e w' ⟨k1, k2⟩ => ⟨k1, hW.trans (k2.mono hW.size)⟩
 have HSS : Hid (∀ W, Below w8.heap.size w8 W → W.cell? ⟨x, 0, none⟩ = some (.int .i64 uk) ∧ W.cell? ⟨x, 1, none⟩ = some (.string us) ∧ W.cell? ⟨x, 2, none⟩ = some (.int .i64 un)) := fun W hb => (HX8.out.below hb).cells
 go_upto_region 6 with fail
 go_region_held3 (fun W => W.cell? ⟨x, 0, none⟩ = some (.int .i64 uk) ∧ W.cell? ⟨x, 1, none⟩ = some (.string us) ∧ W.cell? ⟨x, 2, none⟩ = some (.int .i64 un))
  ((refine HSS.out _ ?_; repeat (first | exact Hid.out (by assumption) | exact Below.refl _ _ | refine Below.drew ?_)))
  (first
   | (go_at_call 81; refine (CW0.out _ ?_).mono ?_; (focus (repeat (first | exact Below.refl _ _ | refine Below.drew ?_))); rintro e w9 ⟨rfl, hb⟩; have HB9 : Hid (Below w8.heap.size w8 w9) := hb; clear hb CW0))
 have HG9 : Hid (GrowA pb w w9) := HG8.out.below HB9.out
 have HP9 : Hid (PaS w9 pb b c T s0) := HP8.out.below HB9.out
 have HR9 : Hid (PhZ w9 r) := HR8.out.below HB9.out
 have HL9 : Hid (Leave w9 pb q) := HL8.out.below HB9.out
 have HX9 : Hid (TkB w9 x #[.int .i64 uk, .string us, .int .i64 un]) := HX8.out.below HB9.out
 clear  c0 c1 c2 HSS HG8 HP8 HR8 HL8 HX8 HB9
 go_wp2_with (first
  | (go_at_call 83; (first | refine (HLU.out.use HTB.out HP9.out HG9.out (show r < _ from by have k := HR9.out.lt; first | exact k | (simp; omega))).mono ?_ | refine (HLU.out.use HTB.out (HP9.out.allocI _) (HG9.out.alloc _) (show r < _ from by have k := HR9.out.lt; first | exact k | (simp; omega))).mono ?_ | refine (HLU.out.use HTB.out ((HP9.out.allocI _).allocI _) ((HG9.out.alloc _).alloc _) (show r < _ from by have k := HR9.out.lt; first | exact k | (simp; omega))).mono ?_); rintro e w10 ⟨lo1, v, hlo, hv, rfl, hp, hg⟩; obtain ⟨k0_1, k1_1, k2_1, k5_1, k6_1, k7_1, s3_1, s4_1, s8_1, a9_1, a10_1, l9_1, c9_1, l10_1, c10_1, rfl⟩ := hv.form; have hlo1 := hlo.1; have hlp1 := hlo.2.1; have hlz1 := hlo.2.2; have HG10 : Hid (GrowA pb w w10) := (HG9.out.trans hg); have HP10 : Hid (PaS w10 pb b c T s1) := hp; have HR10 : Hid (PhZ w10 r) := (HR9.out.grow hg hrp); have HL10 : Hid (Leave w10 pb q) := (HL9.out.grow hg); have HV1_10 : Hid (Tre w10 lo1 p [.int .i64 k0_1, .int .i64 k1_1, .int .i64 k2_1, .string s3_1, .string s4_1, .int .i64 k5_1, .int .i64 k6_1, .int .i64 k7_1, .string s8_1, .slice a9_1 l9_1 c9_1, .slice a10_1 l10_1 c10_1]) := hv; obtain ⟨⟨y0, y1, y2, y3, y4, y5, y6, y7, y8, y9, y10⟩, z0, z1, z2, z3, z4, z5, z6, z7, z8, z9, z10⟩ := HR10.out.cells; clear hv hlo hp hg HP9 HG9 HR9 HL9))
 obtain ⟨Wd, hWd⟩ : ∃ W, W = (((((((((((w10.setCell ⟨r, 0, none⟩ (.int .i64 k0_1)).setCell ⟨r, 1, none⟩ (.int .i64 k1_1)).setCell ⟨r, 2, none⟩ (.int .i64 k2_1)).setCell ⟨r, 3, none⟩ (.string s3_1)).setCell ⟨r, 4, none⟩ (.string s4_1)).setCell ⟨r, 5, none⟩ (.int .i64 k5_1)).setCell ⟨r, 6, none⟩ (.int .i64 k6_1)).setCell ⟨r, 7, none⟩ (.int .i64 k7_1)).setCell ⟨r, 8, none⟩ (.string s8_1)).setCell ⟨r, 9, none⟩ (.slice a9_1 l9_1 c9_1)).setCell ⟨r, 10, none⟩ (.slice a10_1 l10_1 c10_1)) := ⟨_, rfl⟩
 have HD : Hid (PaS Wd pb b c T s1) := by
  refine HidOf ?_
  rw [hWd]
  (repeat (first | with_reducible refine PaS.setR ?_ hrp hrb _ _ | with_reducible refine PaS.allocI ?_ _ | exact HP10.out))
 have HE : Hid (GrowA pb w Wd) := by
  refine HidOf ?_
  rw [hWd]
  (repeat (first | with_reducible refine GrowA.setR ?_ HRW.out _ _ | with_reducible refine GrowA.alloc ?_ _ | exact HG10.out))
 have HQ : Hid (Leave Wd pb q) := by
  refine HidOf ?_
  rw [hWd]
  (repeat (first | with_reducible refine Leave.setR ?_ hrq _ _ | with_reducible refine Leave.allocI ?_ _ | exact HL10.out))
 have HZ : Hid (PhB Wd r #[.int .i64 k0_1, .int .i64 k1_1, .int .i64 k2_1, .string s3_1, .string s4_1, .int .i64 k5_1, .int .i64 k6_1, .int .i64 k7_1, .string s8_1, .slice a9_1 l9_1 c9_1, .slice a10_1 l10_1 c10_1]) := by rw [hWd]; exact PhB.put HR10.out
 have HT : Hid (Tre Wd w.heap.size p [.int .i64 k0_1, .int .i64 k1_1, .int .i64 k2_1, .string s3_1, .string s4_1, .int .i64 k5_1, .int .i64 k6_1, .int .i64 k7_1, .string s8_1, .slice a9_1 l9_1 c9_1, .slice a10_1 l10_1 c10_1]) := by
  refine HidOf ?_
  rw [hWd]
  (refine Tre.mono (lo := lo1) ?_ (by have := HRW.out; omega); (repeat (first | with_reducible refine Tre.setR ?_ hlo1 _ _ | with_reducible refine Tre.allocI ?_ _ | with_reducible exact HV1_10.out)))
 rw [← hWd]
 clear hWd
 refine leaves_cons (f := 64) (args := #[.pointer (some ⟨q, 0, none⟩)]) (by simp) (by simp [go_sem]) ?_
 refine (pleave_is HD.out HQ.out hop .returning).mono ?_
 rintro e u' w99 ⟨rfl, rfl, hp, hg⟩
 obtain ⟨⟨u0, u1, u2, u3, u4, u5, u6, u7, u8, u9, u10⟩, _⟩ := (HZ.out.grow hg hrp).cells
 exact ⟨.agg #[.int .i64 k0_1, .int .i64 k1_1, .int .i64 k2_1, .string s3_1, .string s4_1, .int .i64 k5_1, .int .i64 k6_1, .int .i64 k7_1, .string s8_1, .slice a9_1 l9_1 c9_1, .slice a10_1 l10_1 c10_1], by simp [results, Tryz.results68, go_sem, u0, u1, u2, u3, u4, u5, u6, u7, u8, u9, u10], ⟨_, HT.out.grow hg HPW.out, rfl, hp, HE.out.trans hg⟩⟩
set_option maxHeartbeats 3200000 in
theorem single_every {pb b c : Nat} {T : List Tok} {st : Pst} {s0 s1 : Pst} {p : Ph} {us vs : ByteArray} {uk un vk vn : Int} (hT : T.length ≤ 200) (hat : st.at' ≤ 300) (hat0 : s0.at' ≤ 300) (ho : st.opn ≤ 100) (hop : 1 ≤ s1.opn ∧ s1.opn ≤ 200) (he : enterM T st (singleB (seeM T st 0)) = s0) (hu : seeM T s0 0 = ⟨uk, us, un⟩) (hu1 : seeM T s0 1 = ⟨vk, vs, vn⟩) (k4 : (vk == 4) = true) (n1 : eqT ⟨uk, us, un⟩ ⟨1, ⟨#[102, 111, 114]⟩, 0⟩ = false) (n2 : eqT ⟨uk, us, un⟩ ⟨1, ⟨#[108, 101, 116]⟩, 0⟩ = false) (n3 : eqT ⟨uk, us, un⟩ ⟨1, ⟨#[115, 111, 109, 101]⟩, 0⟩ = false) (y4 : eqT ⟨uk, us, un⟩ ⟨1, ⟨#[101, 118, 101, 114, 121]⟩, 0⟩ = true) (hlu : RunT pb b c T 83 #[.pointer (some ⟨pb, 0, none⟩), .int .i64 24] s0 s1 p) : RunT pb b c T 68 #[.pointer (some ⟨pb, 0, none⟩)] st { s1 with opn := s1.opn - 1 } p := by
 intro w h htb
 have HTB : Hid (RTab w pb) := htb
 clear htb
 have HLU : Hid (RunT pb b c T 83 #[.pointer (some ⟨pb, 0, none⟩), .int .i64 24] s0 s1 p) := hlu
 clear hlu
 have n1E := eqT_run n1
 have n2E := eqT_run n2
 have n3E := eqT_run n3
 have y4E := eqT_run y4
 obtain ⟨beg, hbeg⟩ : ∃ x, x = singleB (seeM T st 0) := ⟨_, rfl⟩
 have SB : Hid (∀ W, PaS W pb b c T st → Calls Tryz.prog 43 #[.pointer (some ⟨pb, 0, none⟩)] W fun e w' => e = .returned (.bool beg) ∧ Below W.heap.size W w') := fun W h => by rw [hbeg]; exact singleBegins_any h hT hat
 rw [← hbeg] at he
 clear hbeg
 have EF := field_kind vk vn vs
 have hpl := h.pl
 have hbl := h.bl
 have HPW : Hid (pb < w.heap.size) := hpl
 go_enter_defers Tryz.func68, Tryz.ntmps68
 go_upto_region 1 with fail
 obtain ⟨W1, hW1⟩ : ∃ W, W = w.alloc (.cells #[.int .i64 0, .int .i64 0, .int .i64 0, .string ⟨#[]⟩, .string ⟨#[]⟩, .int .i64 0, .int .i64 0, .int .i64 0, .string ⟨#[]⟩, .slice none 0 0, .slice none 0 0] 36) := ⟨_, rfl⟩
 have HG1 : Hid (GrowA pb w W1) := by rw [hW1]; exact (GrowA.refl _ _).alloc _
 have HP1 : Hid (PaS W1 pb b c T st) := by rw [hW1]; exact h.allocI _
 have HR1 : Hid (PhZ W1 w.heap.size) := by rw [hW1]; exact PhB.new w _
 rw [← hW1]
 obtain ⟨r, hr⟩ : ∃ r, r = w.heap.size := ⟨_, rfl⟩
 have HRW : Hid (w.heap.size ≤ r) := Nat.le_of_eq hr.symm
 have hrp : r ≠ pb := by omega
 have hrb : r ≠ b := by omega
 rw [← hr] at HR1 ⊢
 clear hW1 hr h hpl hbl
 go_upto_region 4 with (first
  | (go_at_call 43; (refine (SB.out _ HP1.out).mono ?_); rintro e w2 ⟨rfl, hb⟩; have HG2 : Hid (GrowA pb w w2) := (HG1.out.below hb); have HP2 : Hid (PaS w2 pb b c T st) := (HP1.out.below hb); have HR2 : Hid (PhZ w2 r) := (HR1.out.below hb); clear hb HP1 HG1 HR1)
  | (go_at_call 42; (refine (penter_is HP2.out _ ho).mono ?_); rintro e w3 ⟨q, rfl, hl, hp, hg, hq⟩; have HG3 : Hid (GrowA pb w w3) := (HG2.out.trans hg); have HP3 : Hid (PaS w3 pb b c T s0) := (by rw [← he]; exact hp); have HR3 : Hid (PhZ w3 r) := (HR2.out.grow hg hrp); have HL3 : Hid (Leave w3 pb q) := hl; have hrq : r ≠ q := (by have k1 := HR2.out.lt; first | omega | (simp at hq; omega)); clear hl hp hg hq HP2 HG2 HR2)
  | (go_at_call 65; (refine (see_lit HP3.out 1 (by omega) hT hat0 hu1).mono ?_); rintro e w4 ⟨rfl, hb⟩; have HG4 : Hid (GrowA pb w w4) := (HG3.out.below hb); have HP4 : Hid (PaS w4 pb b c T s0) := (HP3.out.below hb); have HR4 : Hid (PhZ w4 r) := (HR3.out.below hb); have HL4 : Hid (Leave w4 pb q) := (HL3.out.below hb); clear hb HP3 HG3 HR3 HL3)
  | (go_at_call 65; (refine (see_lit HP4.out 0 (by omega) hT hat0 hu).mono ?_); rintro e w5 ⟨rfl, hb⟩; have HG5 : Hid (GrowA pb w w5) := (HG4.out.below hb); have HP5 : Hid (PaS w5 pb b c T s0) := (HP4.out.below hb); have HR5 : Hid (PhZ w5 r) := (HR4.out.below hb); have HL5 : Hid (Leave w5 pb q) := (HL4.out.below hb); clear hb HP4 HG4 HR4 HL4))
 obtain ⟨w6, hw6⟩ : ∃ W, W = w5.alloc (.cells #[.int .i64 uk, .string us, .int .i64 un] 41) := ⟨_, rfl⟩
 obtain ⟨x, hx⟩ : ∃ x, x = w5.heap.size := ⟨_, rfl⟩
 have HG6 : Hid (GrowA pb w w6) := by rw [hw6]; exact HG5.out.alloc _
 have HP6 : Hid (PaS w6 pb b c T s0) := by rw [hw6]; exact HP5.out.allocI _
 have HR6 : Hid (PhZ w6 r) := by rw [hw6]; exact HR5.out.allocI _
 have HL6 : Hid (Leave w6 pb q) := by rw [hw6]; exact HL5.out.allocI _
 have HX6 : Hid (TkB w6 x #[.int .i64 uk, .string us, .int .i64 un]) := by rw [hw6, hx]; exact TkB.new w5 _
 obtain ⟨c0, c1, c2⟩ := HX6.out.cells
 rw [← hw6, ← hx]
 clear hw6 hx HG5 HP5 HR5 HL5
 have CW0 : Hid (∀ W, Below w6.heap.size w6 W → Calls Tryz.prog 81 #[.string ⟨#[102, 111, 114]⟩] W fun e w' => e = .returned (.agg #[.int .i64 1, .string ⟨#[102, 111, 114]⟩, .int .i64 0]) ∧ Below w6.heap.size w6 w') := fun W hW => (word_is _ W).mono fun e w' ⟨k1, k2⟩ => ⟨k1, hW.trans (k2.mono hW.size)⟩
 have CW1 : Hid (∀ W, Below w6.heap.size w6 W → Calls Tryz.prog 81 #[.string ⟨#[108, 101, 116]⟩] W fun e w' => e = .returned (.agg #[.int .i64 1, .string ⟨#[108, 101, 116]⟩, .int .i64 0]) ∧ Below w6.heap.size w6 w') := fun W hW => (word_is _ W).mono fun e w' ⟨k1, k2⟩ => ⟨k1, hW.trans (k2.mono hW.size)⟩
 have HSS : Hid (∀ W, Below w6.heap.size w6 W → W.cell? ⟨x, 0, none⟩ = some (.int .i64 uk) ∧ W.cell? ⟨x, 1, none⟩ = some (.string us) ∧ W.cell? ⟨x, 2, none⟩ = some (.int .i64 un)) := fun W hb => (HX6.out.below hb).cells
 go_region_held3 (fun W => W.cell? ⟨x, 0, none⟩ = some (.int .i64 uk) ∧ W.cell? ⟨x, 1, none⟩ = some (.string us) ∧ W.cell? ⟨x, 2, none⟩ = some (.int .i64 un))
  ((refine HSS.out _ ?_; repeat (first | exact Hid.out (by assumption) | exact Below.refl _ _ | refine Below.drew ?_)))
  (first
   | (go_at_call 81; refine (CW0.out _ ?_).mono ?_; (focus (repeat (first | exact Below.refl _ _ | refine Below.drew ?_))); rintro e w7 ⟨rfl, hb⟩; have HB7 : Hid (Below w6.heap.size w6 w7) := hb; clear hb CW0)
   | (go_at_call 81; refine (CW1.out _ ?_).mono ?_; (focus (repeat (exact Hid.out (by assumption)))); rintro e w8 ⟨rfl, hb⟩; have HB8 : Hid (Below w6.heap.size w6 w8) := hb; clear hb CW1))
 have HG8 : Hid (GrowA pb w w8) := HG6.out.below HB8.out
 have HP8 : Hid (PaS w8 pb b c T s0) := HP6.out.below HB8.out
 have HR8 : Hid (PhZ w8 r) := HR6.out.below HB8.out
 have HL8 : Hid (Leave w8 pb q) := HL6.out.below HB8.out
 have HX8 : Hid (TkB w8 x #[.int .i64 uk, .string us, .int .i64 un]) := HX6.out.below HB8.out
 clear  c0 c1 c2 HSS HG6 HP6 HR6 HL6 HX6 HB8
 obtain ⟨c0, c1, c2⟩ := HX8.out.cells
 have CW0 : Hid (∀ W, Below w8.heap.size w8 W → Calls Tryz.prog 81 #[.string ⟨#[115, 111, 109, 101]⟩] W fun e w' => e = .returned (.agg #[.int .i64 1, .string ⟨#[115, 111, 109, 101]⟩, .int .i64 0]) ∧ Below w8.heap.size w8 w') := fun W hW => (word_is _ W).mono fun e w' ⟨k1, k2⟩ => ⟨k1, hW.trans (k2.mono hW.size)⟩
 have HSS : Hid (∀ W, Below w8.heap.size w8 W → W.cell? ⟨x, 0, none⟩ = some (.int .i64 uk) ∧ W.cell? ⟨x, 1, none⟩ = some (.string us) ∧ W.cell? ⟨x, 2, none⟩ = some (.int .i64 un)) := fun W hb => (HX8.out.below hb).cells
 go_upto_region 6 with fail
 go_region_held3 (fun W => W.cell? ⟨x, 0, none⟩ = some (.int .i64 uk) ∧ W.cell? ⟨x, 1, none⟩ = some (.string us) ∧ W.cell? ⟨x, 2, none⟩ = some (.int .i64 un))
  ((refine HSS.out _ ?_; repeat (first | exact Hid.out (by assumption) | exact Below.refl _ _ | refine Below.drew ?_)))
  (first
   | (go_at_call 81; refine (CW0.out _ ?_).mono ?_; (focus (repeat (first | exact Below.refl _ _ | refine Below.drew ?_))); rintro e w9 ⟨rfl, hb⟩; have HB9 : Hid (Below w8.heap.size w8 w9) := hb; clear hb CW0))
 have HG9 : Hid (GrowA pb w w9) := HG8.out.below HB9.out
 have HP9 : Hid (PaS w9 pb b c T s0) := HP8.out.below HB9.out
 have HR9 : Hid (PhZ w9 r) := HR8.out.below HB9.out
 have HL9 : Hid (Leave w9 pb q) := HL8.out.below HB9.out
 have HX9 : Hid (TkB w9 x #[.int .i64 uk, .string us, .int .i64 un]) := HX8.out.below HB9.out
 clear  c0 c1 c2 HSS HG8 HP8 HR8 HL8 HX8 HB9
 obtain ⟨c0, c1, c2⟩ := HX9.out.cells
 have CW0 : Hid (∀ W, Below w9.heap.size w9 W → Calls Tryz.prog 81 #[.string ⟨#[101, 118, 101, 114, 121]⟩] W fun e w' => e = .returned (.agg #[.int .i64 1, .string ⟨#[101, 118, 101, 114, 121]⟩, .int .i64 0]) ∧ Below w9.heap.size w9 w') := fun W hW => (word_is _ W).mono fun e w' ⟨k1, k2⟩ => ⟨k1, hW.trans (k2.mono hW.size)⟩
 have HSS : Hid (∀ W, Below w9.heap.size w9 W → W.cell? ⟨x, 0, none⟩ = some (.int .i64 uk) ∧ W.cell? ⟨x, 1, none⟩ = some (.string us) ∧ W.cell? ⟨x, 2, none⟩ = some (.int .i64 un)) := fun W hb => (HX9.out.below hb).cells
 go_upto_region 8 with fail
 go_region_held3 (fun W => W.cell? ⟨x, 0, none⟩ = some (.int .i64 uk) ∧ W.cell? ⟨x, 1, none⟩ = some (.string us) ∧ W.cell? ⟨x, 2, none⟩ = some (.int .i64 un))
  ((refine HSS.out _ ?_; repeat (first | exact Hid.out (by assumption) | exact Below.refl _ _ | refine Below.drew ?_)))
  (first
   | (go_at_call 81; refine (CW0.out _ ?_).mono ?_; (focus (repeat (first | exact Below.refl _ _ | refine Below.drew ?_))); rintro e w10 ⟨rfl, hb⟩; have HB10 : Hid (Below w9.heap.size w9 w10) := hb; clear hb CW0))
 have HG10 : Hid (GrowA pb w w10) := HG9.out.below HB10.out
 have HP10 : Hid (PaS w10 pb b c T s0) := HP9.out.below HB10.out
 have HR10 : Hid (PhZ w10 r) := HR9.out.below HB10.out
 have HL10 : Hid (Leave w10 pb q) := HL9.out.below HB10.out
 have HX10 : Hid (TkB w10 x #[.int .i64 uk, .string us, .int .i64 un]) := HX9.out.below HB10.out
 clear  c0 c1 c2 HSS HG9 HP9 HR9 HL9 HX9 HB10
 go_wp2_with (first
  | (go_at_call 83; (first | refine (HLU.out.use HTB.out HP10.out HG10.out (show r < _ from by have k := HR10.out.lt; first | exact k | (simp; omega))).mono ?_ | refine (HLU.out.use HTB.out (HP10.out.allocI _) (HG10.out.alloc _) (show r < _ from by have k := HR10.out.lt; first | exact k | (simp; omega))).mono ?_ | refine (HLU.out.use HTB.out ((HP10.out.allocI _).allocI _) ((HG10.out.alloc _).alloc _) (show r < _ from by have k := HR10.out.lt; first | exact k | (simp; omega))).mono ?_); rintro e w11 ⟨lo1, v, hlo, hv, rfl, hp, hg⟩; obtain ⟨k0_1, k1_1, k2_1, k5_1, k6_1, k7_1, s3_1, s4_1, s8_1, a9_1, a10_1, l9_1, c9_1, l10_1, c10_1, rfl⟩ := hv.form; have hlo1 := hlo.1; have hlp1 := hlo.2.1; have hlz1 := hlo.2.2; have HG11 : Hid (GrowA pb w w11) := (HG10.out.trans hg); have HP11 : Hid (PaS w11 pb b c T s1) := hp; have HR11 : Hid (PhZ w11 r) := (HR10.out.grow hg hrp); have HL11 : Hid (Leave w11 pb q) := (HL10.out.grow hg); have HV1_11 : Hid (Tre w11 lo1 p [.int .i64 k0_1, .int .i64 k1_1, .int .i64 k2_1, .string s3_1, .string s4_1, .int .i64 k5_1, .int .i64 k6_1, .int .i64 k7_1, .string s8_1, .slice a9_1 l9_1 c9_1, .slice a10_1 l10_1 c10_1]) := hv; obtain ⟨⟨y0, y1, y2, y3, y4, y5, y6, y7, y8, y9, y10⟩, z0, z1, z2, z3, z4, z5, z6, z7, z8, z9, z10⟩ := HR11.out.cells; clear hv hlo hp hg HP10 HG10 HR10 HL10))
 obtain ⟨Wd, hWd⟩ : ∃ W, W = (((((((((((w11.setCell ⟨r, 0, none⟩ (.int .i64 k0_1)).setCell ⟨r, 1, none⟩ (.int .i64 k1_1)).setCell ⟨r, 2, none⟩ (.int .i64 k2_1)).setCell ⟨r, 3, none⟩ (.string s3_1)).setCell ⟨r, 4, none⟩ (.string s4_1)).setCell ⟨r, 5, none⟩ (.int .i64 k5_1)).setCell ⟨r, 6, none⟩ (.int .i64 k6_1)).setCell ⟨r, 7, none⟩ (.int .i64 k7_1)).setCell ⟨r, 8, none⟩ (.string s8_1)).setCell ⟨r, 9, none⟩ (.slice a9_1 l9_1 c9_1)).setCell ⟨r, 10, none⟩ (.slice a10_1 l10_1 c10_1)) := ⟨_, rfl⟩
 have HD : Hid (PaS Wd pb b c T s1) := by
  refine HidOf ?_
  rw [hWd]
  (repeat (first | with_reducible refine PaS.setR ?_ hrp hrb _ _ | with_reducible refine PaS.allocI ?_ _ | exact HP11.out))
 have HE : Hid (GrowA pb w Wd) := by
  refine HidOf ?_
  rw [hWd]
  (repeat (first | with_reducible refine GrowA.setR ?_ HRW.out _ _ | with_reducible refine GrowA.alloc ?_ _ | exact HG11.out))
 have HQ : Hid (Leave Wd pb q) := by
  refine HidOf ?_
  rw [hWd]
  (repeat (first | with_reducible refine Leave.setR ?_ hrq _ _ | with_reducible refine Leave.allocI ?_ _ | exact HL11.out))
 have HZ : Hid (PhB Wd r #[.int .i64 k0_1, .int .i64 k1_1, .int .i64 k2_1, .string s3_1, .string s4_1, .int .i64 k5_1, .int .i64 k6_1, .int .i64 k7_1, .string s8_1, .slice a9_1 l9_1 c9_1, .slice a10_1 l10_1 c10_1]) := by rw [hWd]; exact PhB.put HR11.out
 have HT : Hid (Tre Wd w.heap.size p [.int .i64 k0_1, .int .i64 k1_1, .int .i64 k2_1, .string s3_1, .string s4_1, .int .i64 k5_1, .int .i64 k6_1, .int .i64 k7_1, .string s8_1, .slice a9_1 l9_1 c9_1, .slice a10_1 l10_1 c10_1]) := by
  refine HidOf ?_
  rw [hWd]
  (refine Tre.mono (lo := lo1) ?_ (by have := HRW.out; omega); (repeat (first | with_reducible refine Tre.setR ?_ hlo1 _ _ | with_reducible refine Tre.allocI ?_ _ | with_reducible exact HV1_11.out)))
 rw [← hWd]
 clear hWd
 refine leaves_cons (f := 64) (args := #[.pointer (some ⟨q, 0, none⟩)]) (by simp) (by simp [go_sem]) ?_
 refine (pleave_is HD.out HQ.out hop .returning).mono ?_
 rintro e u' w99 ⟨rfl, rfl, hp, hg⟩
 obtain ⟨⟨u0, u1, u2, u3, u4, u5, u6, u7, u8, u9, u10⟩, _⟩ := (HZ.out.grow hg hrp).cells
 exact ⟨.agg #[.int .i64 k0_1, .int .i64 k1_1, .int .i64 k2_1, .string s3_1, .string s4_1, .int .i64 k5_1, .int .i64 k6_1, .int .i64 k7_1, .string s8_1, .slice a9_1 l9_1 c9_1, .slice a10_1 l10_1 c10_1], by simp [results, Tryz.results68, go_sem, u0, u1, u2, u3, u4, u5, u6, u7, u8, u9, u10], ⟨_, HT.out.grow hg HPW.out, rfl, hp, HE.out.trans hg⟩⟩
set_option maxHeartbeats 3200000 in
theorem single_bnd {pb b c : Nat} {T : List Tok} {st : Pst} {s0 s1 : Pst} {p : Ph} {us vs : ByteArray} {uk un vk vn : Int} (hT : T.length ≤ 200) (hat : st.at' ≤ 300) (hat0 : s0.at' ≤ 300) (ho : st.opn ≤ 100) (hop : 1 ≤ s1.opn ∧ s1.opn ≤ 200) (he : enterM T st (singleB (seeM T st 0)) = s0) (hu : seeM T s0 0 = ⟨uk, us, un⟩) (hu1 : seeM T s0 1 = ⟨vk, vs, vn⟩) (k4 : (vk == 4) = true) (n1 : eqT ⟨uk, us, un⟩ ⟨1, ⟨#[102, 111, 114]⟩, 0⟩ = false) (n2 : eqT ⟨uk, us, un⟩ ⟨1, ⟨#[108, 101, 116]⟩, 0⟩ = false) (n3 : eqT ⟨uk, us, un⟩ ⟨1, ⟨#[115, 111, 109, 101]⟩, 0⟩ = false) (n4 : eqT ⟨uk, us, un⟩ ⟨1, ⟨#[101, 118, 101, 114, 121]⟩, 0⟩ = false) (nif : eqT ⟨uk, us, un⟩ ⟨1, ⟨#[105, 102]⟩, 0⟩ = false) (hlu : RunT pb b c T 85 #[.pointer (some ⟨pb, 0, none⟩), .int .i64 0] s0 s1 p) : RunT pb b c T 68 #[.pointer (some ⟨pb, 0, none⟩)] st { s1 with opn := s1.opn - 1 } p := by
 intro w h htb
 have HTB : Hid (RTab w pb) := htb
 clear htb
 have HLU : Hid (RunT pb b c T 85 #[.pointer (some ⟨pb, 0, none⟩), .int .i64 0] s0 s1 p) := hlu
 clear hlu
 have n1E := eqT_run n1
 have n2E := eqT_run n2
 have n3E := eqT_run n3
 have n4E := eqT_run n4
 have nifE := eqT_run nif
 obtain ⟨beg, hbeg⟩ : ∃ x, x = singleB (seeM T st 0) := ⟨_, rfl⟩
 have SB : Hid (∀ W, PaS W pb b c T st → Calls Tryz.prog 43 #[.pointer (some ⟨pb, 0, none⟩)] W fun e w' => e = .returned (.bool beg) ∧ Below W.heap.size W w') := fun W h => by rw [hbeg]; exact singleBegins_any h hT hat
 rw [← hbeg] at he
 clear hbeg
 have EF := field_kind vk vn vs
 have hpl := h.pl
 have hbl := h.bl
 have HPW : Hid (pb < w.heap.size) := hpl
 go_enter_defers Tryz.func68, Tryz.ntmps68
 go_upto_region 1 with fail
 obtain ⟨W1, hW1⟩ : ∃ W, W = w.alloc (.cells #[.int .i64 0, .int .i64 0, .int .i64 0, .string ⟨#[]⟩, .string ⟨#[]⟩, .int .i64 0, .int .i64 0, .int .i64 0, .string ⟨#[]⟩, .slice none 0 0, .slice none 0 0] 36) := ⟨_, rfl⟩
 have HG1 : Hid (GrowA pb w W1) := by rw [hW1]; exact (GrowA.refl _ _).alloc _
 have HP1 : Hid (PaS W1 pb b c T st) := by rw [hW1]; exact h.allocI _
 have HR1 : Hid (PhZ W1 w.heap.size) := by rw [hW1]; exact PhB.new w _
 rw [← hW1]
 obtain ⟨r, hr⟩ : ∃ r, r = w.heap.size := ⟨_, rfl⟩
 have HRW : Hid (w.heap.size ≤ r) := Nat.le_of_eq hr.symm
 have hrp : r ≠ pb := by omega
 have hrb : r ≠ b := by omega
 rw [← hr] at HR1 ⊢
 clear hW1 hr h hpl hbl
 go_upto_region 4 with (first
  | (go_at_call 43; (refine (SB.out _ HP1.out).mono ?_); rintro e w2 ⟨rfl, hb⟩; have HG2 : Hid (GrowA pb w w2) := (HG1.out.below hb); have HP2 : Hid (PaS w2 pb b c T st) := (HP1.out.below hb); have HR2 : Hid (PhZ w2 r) := (HR1.out.below hb); clear hb HP1 HG1 HR1)
  | (go_at_call 42; (refine (penter_is HP2.out _ ho).mono ?_); rintro e w3 ⟨q, rfl, hl, hp, hg, hq⟩; have HG3 : Hid (GrowA pb w w3) := (HG2.out.trans hg); have HP3 : Hid (PaS w3 pb b c T s0) := (by rw [← he]; exact hp); have HR3 : Hid (PhZ w3 r) := (HR2.out.grow hg hrp); have HL3 : Hid (Leave w3 pb q) := hl; have hrq : r ≠ q := (by have k1 := HR2.out.lt; first | omega | (simp at hq; omega)); clear hl hp hg hq HP2 HG2 HR2)
  | (go_at_call 65; (refine (see_lit HP3.out 1 (by omega) hT hat0 hu1).mono ?_); rintro e w4 ⟨rfl, hb⟩; have HG4 : Hid (GrowA pb w w4) := (HG3.out.below hb); have HP4 : Hid (PaS w4 pb b c T s0) := (HP3.out.below hb); have HR4 : Hid (PhZ w4 r) := (HR3.out.below hb); have HL4 : Hid (Leave w4 pb q) := (HL3.out.below hb); clear hb HP3 HG3 HR3 HL3)
  | (go_at_call 65; (refine (see_lit HP4.out 0 (by omega) hT hat0 hu).mono ?_); rintro e w5 ⟨rfl, hb⟩; have HG5 : Hid (GrowA pb w w5) := (HG4.out.below hb); have HP5 : Hid (PaS w5 pb b c T s0) := (HP4.out.below hb); have HR5 : Hid (PhZ w5 r) := (HR4.out.below hb); have HL5 : Hid (Leave w5 pb q) := (HL4.out.below hb); clear hb HP4 HG4 HR4 HL4))
 obtain ⟨w6, hw6⟩ : ∃ W, W = w5.alloc (.cells #[.int .i64 uk, .string us, .int .i64 un] 41) := ⟨_, rfl⟩
 obtain ⟨x, hx⟩ : ∃ x, x = w5.heap.size := ⟨_, rfl⟩
 have HG6 : Hid (GrowA pb w w6) := by rw [hw6]; exact HG5.out.alloc _
 have HP6 : Hid (PaS w6 pb b c T s0) := by rw [hw6]; exact HP5.out.allocI _
 have HR6 : Hid (PhZ w6 r) := by rw [hw6]; exact HR5.out.allocI _
 have HL6 : Hid (Leave w6 pb q) := by rw [hw6]; exact HL5.out.allocI _
 have HX6 : Hid (TkB w6 x #[.int .i64 uk, .string us, .int .i64 un]) := by rw [hw6, hx]; exact TkB.new w5 _
 obtain ⟨c0, c1, c2⟩ := HX6.out.cells
 rw [← hw6, ← hx]
 clear hw6 hx HG5 HP5 HR5 HL5
 have CW0 : Hid (∀ W, Below w6.heap.size w6 W → Calls Tryz.prog 81 #[.string ⟨#[102, 111, 114]⟩] W fun e w' => e = .returned (.agg #[.int .i64 1, .string ⟨#[102, 111, 114]⟩, .int .i64 0]) ∧ Below w6.heap.size w6 w') := fun W hW => (word_is _ W).mono fun e w' ⟨k1, k2⟩ => ⟨k1, hW.trans (k2.mono hW.size)⟩
 have CW1 : Hid (∀ W, Below w6.heap.size w6 W → Calls Tryz.prog 81 #[.string ⟨#[108, 101, 116]⟩] W fun e w' => e = .returned (.agg #[.int .i64 1, .string ⟨#[108, 101, 116]⟩, .int .i64 0]) ∧ Below w6.heap.size w6 w') := fun W hW => (word_is _ W).mono fun e w' ⟨k1, k2⟩ => ⟨k1, hW.trans (k2.mono hW.size)⟩
 have HSS : Hid (∀ W, Below w6.heap.size w6 W → W.cell? ⟨x, 0, none⟩ = some (.int .i64 uk) ∧ W.cell? ⟨x, 1, none⟩ = some (.string us) ∧ W.cell? ⟨x, 2, none⟩ = some (.int .i64 un)) := fun W hb => (HX6.out.below hb).cells
 go_region_held3 (fun W => W.cell? ⟨x, 0, none⟩ = some (.int .i64 uk) ∧ W.cell? ⟨x, 1, none⟩ = some (.string us) ∧ W.cell? ⟨x, 2, none⟩ = some (.int .i64 un))
  ((refine HSS.out _ ?_; repeat (first | exact Hid.out (by assumption) | exact Below.refl _ _ | refine Below.drew ?_)))
  (first
   | (go_at_call 81; refine (CW0.out _ ?_).mono ?_; (focus (repeat (first | exact Below.refl _ _ | refine Below.drew ?_))); rintro e w7 ⟨rfl, hb⟩; have HB7 : Hid (Below w6.heap.size w6 w7) := hb; clear hb CW0)
   | (go_at_call 81; refine (CW1.out _ ?_).mono ?_; (focus (repeat (exact Hid.out (by assumption)))); rintro e w8 ⟨rfl, hb⟩; have HB8 : Hid (Below w6.heap.size w6 w8) := hb; clear hb CW1))
 have HG8 : Hid (GrowA pb w w8) := HG6.out.below HB8.out
 have HP8 : Hid (PaS w8 pb b c T s0) := HP6.out.below HB8.out
 have HR8 : Hid (PhZ w8 r) := HR6.out.below HB8.out
 have HL8 : Hid (Leave w8 pb q) := HL6.out.below HB8.out
 have HX8 : Hid (TkB w8 x #[.int .i64 uk, .string us, .int .i64 un]) := HX6.out.below HB8.out
 clear  c0 c1 c2 HSS HG6 HP6 HR6 HL6 HX6 HB8
 obtain ⟨c0, c1, c2⟩ := HX8.out.cells
 have CW0 : Hid (∀ W, Below w8.heap.size w8 W → Calls Tryz.prog 81 #[.string ⟨#[115, 111, 109, 101]⟩] W fun e w' => e = .returned (.agg #[.int .i64 1, .string ⟨#[115, 111, 109, 101]⟩, .int .i64 0]) ∧ Below w8.heap.size w8 w') := fun W hW => (word_is _ W).mono fun e w' ⟨k1, k2⟩ => ⟨k1, hW.trans (k2.mono hW.size)⟩
 have HSS : Hid (∀ W, Below w8.heap.size w8 W → W.cell? ⟨x, 0, none⟩ = some (.int .i64 uk) ∧ W.cell? ⟨x, 1, none⟩ = some (.string us) ∧ W.cell? ⟨x, 2, none⟩ = some (.int .i64 un)) := fun W hb => (HX8.out.below hb).cells
 go_upto_region 6 with fail
 go_region_held3 (fun W => W.cell? ⟨x, 0, none⟩ = some (.int .i64 uk) ∧ W.cell? ⟨x, 1, none⟩ = some (.string us) ∧ W.cell? ⟨x, 2, none⟩ = some (.int .i64 un))
  ((refine HSS.out _ ?_; repeat (first | exact Hid.out (by assumption) | exact Below.refl _ _ | refine Below.drew ?_)))
  (first
   | (go_at_call 81; refine (CW0.out _ ?_).mono ?_; (focus (repeat (first | exact Below.refl _ _ | refine Below.drew ?_))); rintro e w9 ⟨rfl, hb⟩; have HB9 : Hid (Below w8.heap.size w8 w9) := hb; clear hb CW0))
 have HG9 : Hid (GrowA pb w w9) := HG8.out.below HB9.out
 have HP9 : Hid (PaS w9 pb b c T s0) := HP8.out.below HB9.out
 have HR9 : Hid (PhZ w9 r) := HR8.out.below HB9.out
 have HL9 : Hid (Leave w9 pb q) := HL8.out.below HB9.out
 have HX9 : Hid (TkB w9 x #[.int .i64 uk, .string us, .int .i64 un]) := HX8.out.below HB9.out
 clear  c0 c1 c2 HSS HG8 HP8 HR8 HL8 HX8 HB9
 obtain ⟨c0, c1, c2⟩ := HX9.out.cells
 have CW0 : Hid (∀ W, Below w9.heap.size w9 W → Calls Tryz.prog 81 #[.string ⟨#[101, 118, 101, 114, 121]⟩] W fun e w' => e = .returned (.agg #[.int .i64 1, .string ⟨#[101, 118, 101, 114, 121]⟩, .int .i64 0]) ∧ Below w9.heap.size w9 w') := fun W hW => (word_is _ W).mono fun e w' ⟨k1, k2⟩ => ⟨k1, hW.trans (k2.mono hW.size)⟩
 have HSS : Hid (∀ W, Below w9.heap.size w9 W → W.cell? ⟨x, 0, none⟩ = some (.int .i64 uk) ∧ W.cell? ⟨x, 1, none⟩ = some (.string us) ∧ W.cell? ⟨x, 2, none⟩ = some (.int .i64 un)) := fun W hb => (HX9.out.below hb).cells
 go_upto_region 8 with fail
 go_region_held3 (fun W => W.cell? ⟨x, 0, none⟩ = some (.int .i64 uk) ∧ W.cell? ⟨x, 1, none⟩ = some (.string us) ∧ W.cell? ⟨x, 2, none⟩ = some (.int .i64 un))
  ((refine HSS.out _ ?_; repeat (first | exact Hid.out (by assumption) | exact Below.refl _ _ | refine Below.drew ?_)))
  (first
   | (go_at_call 81; refine (CW0.out _ ?_).mono ?_; (focus (repeat (first | exact Below.refl _ _ | refine Below.drew ?_))); rintro e w10 ⟨rfl, hb⟩; have HB10 : Hid (Below w9.heap.size w9 w10) := hb; clear hb CW0))
 have HG10 : Hid (GrowA pb w w10) := HG9.out.below HB10.out
 have HP10 : Hid (PaS w10 pb b c T s0) := HP9.out.below HB10.out
 have HR10 : Hid (PhZ w10 r) := HR9.out.below HB10.out
 have HL10 : Hid (Leave w10 pb q) := HL9.out.below HB10.out
 have HX10 : Hid (TkB w10 x #[.int .i64 uk, .string us, .int .i64 un]) := HX9.out.below HB10.out
 clear  c0 c1 c2 HSS HG9 HP9 HR9 HL9 HX9 HB10
 obtain ⟨c0, c1, c2⟩ := HX10.out.cells
 have CW0 : Hid (∀ W, Below w10.heap.size w10 W → Calls Tryz.prog 81 #[.string ⟨#[105, 102]⟩] W fun e w' => e = .returned (.agg #[.int .i64 1, .string ⟨#[105, 102]⟩, .int .i64 0]) ∧ Below w10.heap.size w10 w') := fun W hW => (word_is _ W).mono fun e w' ⟨k1, k2⟩ => ⟨k1, hW.trans (k2.mono hW.size)⟩
 have HSS : Hid (∀ W, Below w10.heap.size w10 W → W.cell? ⟨x, 0, none⟩ = some (.int .i64 uk) ∧ W.cell? ⟨x, 1, none⟩ = some (.string us) ∧ W.cell? ⟨x, 2, none⟩ = some (.int .i64 un)) := fun W hb => (HX10.out.below hb).cells
 go_upto_region 10 with fail
 rw [← opIfA_eq, ← opIfB_eq]
 have hopIfA := opIfA_eq
 have hopIfB := opIfB_eq
 go_region_held3 (fun W => W.cell? ⟨x, 0, none⟩ = some (.int .i64 uk) ∧ W.cell? ⟨x, 1, none⟩ = some (.string us) ∧ W.cell? ⟨x, 2, none⟩ = some (.int .i64 un))
  ((refine HSS.out _ ?_; repeat (first | exact Hid.out (by assumption) | exact Below.refl _ _ | refine Below.drew ?_)))
  (first
   | (go_at_call 81; refine (CW0.out _ ?_).mono ?_; (focus (repeat (first | exact Below.refl _ _ | refine Below.drew ?_))); rintro e w11 ⟨rfl, hb⟩; have HB11 : Hid (Below w10.heap.size w10 w11) := hb; clear hb CW0))
 have HG11 : Hid (GrowA pb w w11) := HG10.out.below HB11.out
 have HP11 : Hid (PaS w11 pb b c T s0) := HP10.out.below HB11.out
 have HR11 : Hid (PhZ w11 r) := HR10.out.below HB11.out
 have HL11 : Hid (Leave w11 pb q) := HL10.out.below HB11.out
 have HX11 : Hid (TkB w11 x #[.int .i64 uk, .string us, .int .i64 un]) := HX10.out.below HB11.out
 clear hopIfA hopIfB c0 c1 c2 HSS HG10 HP10 HR10 HL10 HX10 HB11
 go_wp2_with (first
  | (go_at_call 85; (first | refine (HLU.out.use HTB.out HP11.out HG11.out (show r < _ from by have k := HR11.out.lt; first | exact k | (simp; omega))).mono ?_ | refine (HLU.out.use HTB.out (HP11.out.allocI _) (HG11.out.alloc _) (show r < _ from by have k := HR11.out.lt; first | exact k | (simp; omega))).mono ?_ | refine (HLU.out.use HTB.out ((HP11.out.allocI _).allocI _) ((HG11.out.alloc _).alloc _) (show r < _ from by have k := HR11.out.lt; first | exact k | (simp; omega))).mono ?_); rintro e w12 ⟨lo1, v, hlo, hv, rfl, hp, hg⟩; obtain ⟨k0_1, k1_1, k2_1, k5_1, k6_1, k7_1, s3_1, s4_1, s8_1, a9_1, a10_1, l9_1, c9_1, l10_1, c10_1, rfl⟩ := hv.form; have hlo1 := hlo.1; have hlp1 := hlo.2.1; have hlz1 := hlo.2.2; have HG12 : Hid (GrowA pb w w12) := (HG11.out.trans hg); have HP12 : Hid (PaS w12 pb b c T s1) := hp; have HR12 : Hid (PhZ w12 r) := (HR11.out.grow hg hrp); have HL12 : Hid (Leave w12 pb q) := (HL11.out.grow hg); have HV1_12 : Hid (Tre w12 lo1 p [.int .i64 k0_1, .int .i64 k1_1, .int .i64 k2_1, .string s3_1, .string s4_1, .int .i64 k5_1, .int .i64 k6_1, .int .i64 k7_1, .string s8_1, .slice a9_1 l9_1 c9_1, .slice a10_1 l10_1 c10_1]) := hv; obtain ⟨⟨y0, y1, y2, y3, y4, y5, y6, y7, y8, y9, y10⟩, z0, z1, z2, z3, z4, z5, z6, z7, z8, z9, z10⟩ := HR12.out.cells; clear hv hlo hp hg HP11 HG11 HR11 HL11))
 obtain ⟨Wd, hWd⟩ : ∃ W, W = (((((((((((w12.setCell ⟨r, 0, none⟩ (.int .i64 k0_1)).setCell ⟨r, 1, none⟩ (.int .i64 k1_1)).setCell ⟨r, 2, none⟩ (.int .i64 k2_1)).setCell ⟨r, 3, none⟩ (.string s3_1)).setCell ⟨r, 4, none⟩ (.string s4_1)).setCell ⟨r, 5, none⟩ (.int .i64 k5_1)).setCell ⟨r, 6, none⟩ (.int .i64 k6_1)).setCell ⟨r, 7, none⟩ (.int .i64 k7_1)).setCell ⟨r, 8, none⟩ (.string s8_1)).setCell ⟨r, 9, none⟩ (.slice a9_1 l9_1 c9_1)).setCell ⟨r, 10, none⟩ (.slice a10_1 l10_1 c10_1)) := ⟨_, rfl⟩
 have HD : Hid (PaS Wd pb b c T s1) := by
  refine HidOf ?_
  rw [hWd]
  (repeat (first | with_reducible refine PaS.setR ?_ hrp hrb _ _ | with_reducible refine PaS.allocI ?_ _ | exact HP12.out))
 have HE : Hid (GrowA pb w Wd) := by
  refine HidOf ?_
  rw [hWd]
  (repeat (first | with_reducible refine GrowA.setR ?_ HRW.out _ _ | with_reducible refine GrowA.alloc ?_ _ | exact HG12.out))
 have HQ : Hid (Leave Wd pb q) := by
  refine HidOf ?_
  rw [hWd]
  (repeat (first | with_reducible refine Leave.setR ?_ hrq _ _ | with_reducible refine Leave.allocI ?_ _ | exact HL12.out))
 have HZ : Hid (PhB Wd r #[.int .i64 k0_1, .int .i64 k1_1, .int .i64 k2_1, .string s3_1, .string s4_1, .int .i64 k5_1, .int .i64 k6_1, .int .i64 k7_1, .string s8_1, .slice a9_1 l9_1 c9_1, .slice a10_1 l10_1 c10_1]) := by rw [hWd]; exact PhB.put HR12.out
 have HT : Hid (Tre Wd w.heap.size p [.int .i64 k0_1, .int .i64 k1_1, .int .i64 k2_1, .string s3_1, .string s4_1, .int .i64 k5_1, .int .i64 k6_1, .int .i64 k7_1, .string s8_1, .slice a9_1 l9_1 c9_1, .slice a10_1 l10_1 c10_1]) := by
  refine HidOf ?_
  rw [hWd]
  (refine Tre.mono (lo := lo1) ?_ (by have := HRW.out; omega); (repeat (first | with_reducible refine Tre.setR ?_ hlo1 _ _ | with_reducible refine Tre.allocI ?_ _ | with_reducible exact HV1_12.out)))
 rw [← hWd]
 clear hWd
 refine leaves_cons (f := 64) (args := #[.pointer (some ⟨q, 0, none⟩)]) (by simp) (by simp [go_sem]) ?_
 refine (pleave_is HD.out HQ.out hop .returning).mono ?_
 rintro e u' w99 ⟨rfl, rfl, hp, hg⟩
 obtain ⟨⟨u0, u1, u2, u3, u4, u5, u6, u7, u8, u9, u10⟩, _⟩ := (HZ.out.grow hg hrp).cells
 exact ⟨.agg #[.int .i64 k0_1, .int .i64 k1_1, .int .i64 k2_1, .string s3_1, .string s4_1, .int .i64 k5_1, .int .i64 k6_1, .int .i64 k7_1, .string s8_1, .slice a9_1 l9_1 c9_1, .slice a10_1 l10_1 c10_1], by simp [results, Tryz.results68, go_sem, u0, u1, u2, u3, u4, u5, u6, u7, u8, u9, u10], ⟨_, HT.out.grow hg HPW.out, rfl, hp, HE.out.trans hg⟩⟩
set_option maxHeartbeats 3200000 in
theorem single_if {pb b c : Nat} {T : List Tok} {st : Pst} {s0 s1 : Pst} {p : Ph} {us vs : ByteArray} {uk un vk vn : Int} (hT : T.length ≤ 200) (hat : st.at' ≤ 300) (hat0 : s0.at' ≤ 300) (ho : st.opn ≤ 100) (hop : 1 ≤ s1.opn ∧ s1.opn ≤ 200) (he : enterM T st (singleB (seeM T st 0)) = s0) (hu : seeM T s0 0 = ⟨uk, us, un⟩) (hu1 : seeM T s0 1 = ⟨vk, vs, vn⟩) (k4 : (vk == 4) = false) (yif : eqT ⟨uk, us, un⟩ ⟨1, ⟨#[105, 102]⟩, 0⟩ = true) (ylp : eqT ⟨vk, vs, vn⟩ ⟨5, ⟨#[40]⟩, 0⟩ = true) (hlu : RunT pb b c T 84 #[.pointer (some ⟨pb, 0, none⟩)] s0 s1 p) : RunT pb b c T 68 #[.pointer (some ⟨pb, 0, none⟩)] st { s1 with opn := s1.opn - 1 } p := by
 intro w h htb
 have HTB : Hid (RTab w pb) := htb
 clear htb
 have HLU : Hid (RunT pb b c T 84 #[.pointer (some ⟨pb, 0, none⟩)] s0 s1 p) := hlu
 clear hlu
 have E0 := eqT_run yif
 have E1 := eqT_run ylp
 obtain ⟨beg, hbeg⟩ : ∃ x, x = singleB (seeM T st 0) := ⟨_, rfl⟩
 have SB : Hid (∀ W, PaS W pb b c T st → Calls Tryz.prog 43 #[.pointer (some ⟨pb, 0, none⟩)] W fun e w' => e = .returned (.bool beg) ∧ Below W.heap.size W w') := fun W h => by rw [hbeg]; exact singleBegins_any h hT hat
 rw [← hbeg] at he
 clear hbeg
 have EF := field_kind vk vn vs
 have hpl := h.pl
 have hbl := h.bl
 have HPW : Hid (pb < w.heap.size) := hpl
 go_enter_defers Tryz.func68, Tryz.ntmps68
 go_upto_region 1 with fail
 obtain ⟨W1, hW1⟩ : ∃ W, W = w.alloc (.cells #[.int .i64 0, .int .i64 0, .int .i64 0, .string ⟨#[]⟩, .string ⟨#[]⟩, .int .i64 0, .int .i64 0, .int .i64 0, .string ⟨#[]⟩, .slice none 0 0, .slice none 0 0] 36) := ⟨_, rfl⟩
 have HG1 : Hid (GrowA pb w W1) := by rw [hW1]; exact (GrowA.refl _ _).alloc _
 have HP1 : Hid (PaS W1 pb b c T st) := by rw [hW1]; exact h.allocI _
 have HR1 : Hid (PhZ W1 w.heap.size) := by rw [hW1]; exact PhB.new w _
 rw [← hW1]
 obtain ⟨r, hr⟩ : ∃ r, r = w.heap.size := ⟨_, rfl⟩
 have HRW : Hid (w.heap.size ≤ r) := Nat.le_of_eq hr.symm
 have hrp : r ≠ pb := by omega
 have hrb : r ≠ b := by omega
 rw [← hr] at HR1 ⊢
 clear hW1 hr h hpl hbl
 go_upto_region 4 with (first
  | (go_at_call 43; (refine (SB.out _ HP1.out).mono ?_); rintro e w2 ⟨rfl, hb⟩; have HG2 : Hid (GrowA pb w w2) := (HG1.out.below hb); have HP2 : Hid (PaS w2 pb b c T st) := (HP1.out.below hb); have HR2 : Hid (PhZ w2 r) := (HR1.out.below hb); clear hb HP1 HG1 HR1)
  | (go_at_call 42; (refine (penter_is HP2.out _ ho).mono ?_); rintro e w3 ⟨q, rfl, hl, hp, hg, hq⟩; have HG3 : Hid (GrowA pb w w3) := (HG2.out.trans hg); have HP3 : Hid (PaS w3 pb b c T s0) := (by rw [← he]; exact hp); have HR3 : Hid (PhZ w3 r) := (HR2.out.grow hg hrp); have HL3 : Hid (Leave w3 pb q) := hl; have hrq : r ≠ q := (by have k1 := HR2.out.lt; first | omega | (simp at hq; omega)); clear hl hp hg hq HP2 HG2 HR2)
  | (go_at_call 65; (refine (see_lit HP3.out 1 (by omega) hT hat0 hu1).mono ?_); rintro e w4 ⟨rfl, hb⟩; have HG4 : Hid (GrowA pb w w4) := (HG3.out.below hb); have HP4 : Hid (PaS w4 pb b c T s0) := (HP3.out.below hb); have HR4 : Hid (PhZ w4 r) := (HR3.out.below hb); have HL4 : Hid (Leave w4 pb q) := (HL3.out.below hb); clear hb HP3 HG3 HR3 HL3)
  | (go_at_call 65; (refine (see_lit HP4.out 0 (by omega) hT hat0 hu).mono ?_); rintro e w5 ⟨rfl, hb⟩; have HG5 : Hid (GrowA pb w w5) := (HG4.out.below hb); have HP5 : Hid (PaS w5 pb b c T s0) := (HP4.out.below hb); have HR5 : Hid (PhZ w5 r) := (HR4.out.below hb); have HL5 : Hid (Leave w5 pb q) := (HL4.out.below hb); clear hb HP4 HG4 HR4 HL4))
 obtain ⟨w6, hw6⟩ : ∃ W, W = w5.alloc (.cells #[.int .i64 uk, .string us, .int .i64 un] 41) := ⟨_, rfl⟩
 obtain ⟨x, hx⟩ : ∃ x, x = w5.heap.size := ⟨_, rfl⟩
 have HG6 : Hid (GrowA pb w w6) := by rw [hw6]; exact HG5.out.alloc _
 have HP6 : Hid (PaS w6 pb b c T s0) := by rw [hw6]; exact HP5.out.allocI _
 have HR6 : Hid (PhZ w6 r) := by rw [hw6]; exact HR5.out.allocI _
 have HL6 : Hid (Leave w6 pb q) := by rw [hw6]; exact HL5.out.allocI _
 have HX6 : Hid (TkB w6 x #[.int .i64 uk, .string us, .int .i64 un]) := by rw [hw6, hx]; exact TkB.new w5 _
 obtain ⟨c0', c1', c2'⟩ := HX6.out.cells
 rw [← hw6, ← hx]
 clear hw6 hx HG5 HP5 HR5 HL5
 go_quiet (fail)
 obtain ⟨w7, hw7⟩ : ∃ W, W = w6.drewN nq := ⟨_, rfl⟩
 have HG7 : Hid (GrowA pb w w7) := by rw [hw7]; exact HG6.out.drewK nq
 have HP7 : Hid (PaS w7 pb b c T s0) := by rw [hw7]; exact HP6.out.drewK nq
 have HR7 : Hid (PhZ w7 r) := by rw [hw7]; exact HR6.out.drewK nq
 have HL7 : Hid (Leave w7 pb q) := by rw [hw7]; exact HL6.out.drewK nq
 have HX7 : Hid (TkB w7 x #[.int .i64 uk, .string us, .int .i64 un]) := by rw [hw7]; exact HX6.out.drewK nq
 rw [← hw7]
 clear hw7 HG6 HP6 HR6 HL6 HX6 c0' c1' c2'
 obtain ⟨c0, c1, c2⟩ := HX7.out.cells
 go_upto_region 6 with fail
 go_quiet (fail)
 obtain ⟨w8, hw8⟩ : ∃ W, W = w7.drewN nq := ⟨_, rfl⟩
 have HG8 : Hid (GrowA pb w w8) := by rw [hw8]; exact HG7.out.drewK nq
 have HP8 : Hid (PaS w8 pb b c T s0) := by rw [hw8]; exact HP7.out.drewK nq
 have HR8 : Hid (PhZ w8 r) := by rw [hw8]; exact HR7.out.drewK nq
 have HL8 : Hid (Leave w8 pb q) := by rw [hw8]; exact HL7.out.drewK nq
 have HX8 : Hid (TkB w8 x #[.int .i64 uk, .string us, .int .i64 un]) := by rw [hw8]; exact HX7.out.drewK nq
 rw [← hw8]
 clear hw8 HG7 HP7 HR7 HL7 HX7 c0 c1 c2
 obtain ⟨c0, c1, c2⟩ := HX8.out.cells
 go_upto_region 8 with fail
 go_quiet (fail)
 obtain ⟨w9, hw9⟩ : ∃ W, W = w8.drewN nq := ⟨_, rfl⟩
 have HG9 : Hid (GrowA pb w w9) := by rw [hw9]; exact HG8.out.drewK nq
 have HP9 : Hid (PaS w9 pb b c T s0) := by rw [hw9]; exact HP8.out.drewK nq
 have HR9 : Hid (PhZ w9 r) := by rw [hw9]; exact HR8.out.drewK nq
 have HL9 : Hid (Leave w9 pb q) := by rw [hw9]; exact HL8.out.drewK nq
 have HX9 : Hid (TkB w9 x #[.int .i64 uk, .string us, .int .i64 un]) := by rw [hw9]; exact HX8.out.drewK nq
 rw [← hw9]
 clear hw9 HG8 HP8 HR8 HL8 HX8 c0 c1 c2
 obtain ⟨c0, c1, c2⟩ := HX9.out.cells
 have CW0 : Hid (∀ W, Below w9.heap.size w9 W → Calls Tryz.prog 81 #[.string ⟨#[105, 102]⟩] W fun e w' => e = .returned (.agg #[.int .i64 1, .string ⟨#[105, 102]⟩, .int .i64 0]) ∧ Below w9.heap.size w9 w') := fun W hW => (word_is _ W).mono fun e w' ⟨k1, k2⟩ => ⟨k1, hW.trans (k2.mono hW.size)⟩
 have CMK : Hid (∀ W, Below w9.heap.size w9 W → Calls Tryz.prog 66 #[.string ⟨#[40]⟩] W fun e w' => e = .returned (.agg #[.int .i64 5, .string ⟨#[40]⟩, .int .i64 0]) ∧ Below w9.heap.size w9 w') := fun W hW => (mark_is _ W).mono fun e w' ⟨k1, k2⟩ => ⟨k1, hW.trans (k2.mono hW.size)⟩
 have CSE : Hid (∀ W, Below w9.heap.size w9 W → Calls Tryz.prog 65 #[.pointer (some ⟨pb, 0, none⟩), .int .i64 1] W fun e w' => e = .returned (.agg #[.int .i64 vk, .string vs, .int .i64 vn]) ∧ Below w9.heap.size w9 w') := fun W hW => (see_lit (HP9.out.below hW) 1 (by omega) hT hat0 hu1).mono fun e w' ⟨k1, k2⟩ => ⟨k1, hW.trans (k2.mono hW.size)⟩
 have HSS : Hid (∀ W, Below w9.heap.size w9 W → W.cell? ⟨x, 0, none⟩ = some (.int .i64 uk) ∧ W.cell? ⟨x, 1, none⟩ = some (.string us) ∧ W.cell? ⟨x, 2, none⟩ = some (.int .i64 un)) := fun W hb => (HX9.out.below hb).cells
 go_upto_region 10 with fail
 go_region_held3 (fun W => W.cell? ⟨x, 0, none⟩ = some (.int .i64 uk) ∧ W.cell? ⟨x, 1, none⟩ = some (.string us) ∧ W.cell? ⟨x, 2, none⟩ = some (.int .i64 un))
  ((refine HSS.out _ ?_; repeat (first | exact Hid.out (by assumption) | exact Below.refl _ _ | refine Below.drew ?_)))
  (first
   | (go_at_call 81; refine (CW0.out _ ?_).mono ?_; (focus (repeat (first | exact Below.refl _ _ | refine Below.drew ?_))); rintro e w10 ⟨rfl, hb⟩; have HB10 : Hid (Below w9.heap.size w9 w10) := hb; clear hb CW0 )
   | (go_at_call 65; refine (CSE.out _ ?_).mono ?_; (focus (repeat (exact Hid.out (by assumption)))); rintro e w11 ⟨rfl, hb⟩; have HB11 : Hid (Below w9.heap.size w9 w11) := hb; clear hb CSE )
   | (go_at_call 66; refine (CMK.out _ ?_).mono ?_; (focus (repeat (exact Hid.out (by assumption)))); rintro e w12 ⟨rfl, hb⟩; have HB12 : Hid (Below w9.heap.size w9 w12) := hb; clear hb CMK ))
 have HG12 : Hid (GrowA pb w w12) := HG9.out.below HB12.out
 have HP12 : Hid (PaS w12 pb b c T s0) := HP9.out.below HB12.out
 have HR12 : Hid (PhZ w12 r) := HR9.out.below HB12.out
 have HL12 : Hid (Leave w12 pb q) := HL9.out.below HB12.out
 have HX12 : Hid (TkB w12 x #[.int .i64 uk, .string us, .int .i64 un]) := HX9.out.below HB12.out
 clear  c0 c1 c2 HSS HG9 HP9 HR9 HL9 HX9 HB12
 go_wp2_with (first
  | (go_at_call 84; (first | refine (HLU.out.use HTB.out HP12.out HG12.out (show r < _ from by have k := HR12.out.lt; first | exact k | (simp; omega))).mono ?_ | refine (HLU.out.use HTB.out (HP12.out.allocI _) (HG12.out.alloc _) (show r < _ from by have k := HR12.out.lt; first | exact k | (simp; omega))).mono ?_ | refine (HLU.out.use HTB.out ((HP12.out.allocI _).allocI _) ((HG12.out.alloc _).alloc _) (show r < _ from by have k := HR12.out.lt; first | exact k | (simp; omega))).mono ?_); rintro e w13 ⟨lo1, v, hlo, hv, rfl, hp, hg⟩; obtain ⟨k0_1, k1_1, k2_1, k5_1, k6_1, k7_1, s3_1, s4_1, s8_1, a9_1, a10_1, l9_1, c9_1, l10_1, c10_1, rfl⟩ := hv.form; have hlo1 := hlo.1; have hlp1 := hlo.2.1; have hlz1 := hlo.2.2; have HG13 : Hid (GrowA pb w w13) := (HG12.out.trans hg); have HP13 : Hid (PaS w13 pb b c T s1) := hp; have HR13 : Hid (PhZ w13 r) := (HR12.out.grow hg hrp); have HL13 : Hid (Leave w13 pb q) := (HL12.out.grow hg); have HV1_13 : Hid (Tre w13 lo1 p [.int .i64 k0_1, .int .i64 k1_1, .int .i64 k2_1, .string s3_1, .string s4_1, .int .i64 k5_1, .int .i64 k6_1, .int .i64 k7_1, .string s8_1, .slice a9_1 l9_1 c9_1, .slice a10_1 l10_1 c10_1]) := hv; obtain ⟨⟨y0, y1, y2, y3, y4, y5, y6, y7, y8, y9, y10⟩, z0, z1, z2, z3, z4, z5, z6, z7, z8, z9, z10⟩ := HR13.out.cells; clear hv hlo hp hg HP12 HG12 HR12 HL12))
 obtain ⟨Wd, hWd⟩ : ∃ W, W = (((((((((((w13.setCell ⟨r, 0, none⟩ (.int .i64 k0_1)).setCell ⟨r, 1, none⟩ (.int .i64 k1_1)).setCell ⟨r, 2, none⟩ (.int .i64 k2_1)).setCell ⟨r, 3, none⟩ (.string s3_1)).setCell ⟨r, 4, none⟩ (.string s4_1)).setCell ⟨r, 5, none⟩ (.int .i64 k5_1)).setCell ⟨r, 6, none⟩ (.int .i64 k6_1)).setCell ⟨r, 7, none⟩ (.int .i64 k7_1)).setCell ⟨r, 8, none⟩ (.string s8_1)).setCell ⟨r, 9, none⟩ (.slice a9_1 l9_1 c9_1)).setCell ⟨r, 10, none⟩ (.slice a10_1 l10_1 c10_1)) := ⟨_, rfl⟩
 have HD : Hid (PaS Wd pb b c T s1) := by
  refine HidOf ?_
  rw [hWd]
  (repeat (first | with_reducible refine PaS.setR ?_ hrp hrb _ _ | with_reducible refine PaS.allocI ?_ _ | exact HP13.out))
 have HE : Hid (GrowA pb w Wd) := by
  refine HidOf ?_
  rw [hWd]
  (repeat (first | with_reducible refine GrowA.setR ?_ HRW.out _ _ | with_reducible refine GrowA.alloc ?_ _ | exact HG13.out))
 have HQ : Hid (Leave Wd pb q) := by
  refine HidOf ?_
  rw [hWd]
  (repeat (first | with_reducible refine Leave.setR ?_ hrq _ _ | with_reducible refine Leave.allocI ?_ _ | exact HL13.out))
 have HZ : Hid (PhB Wd r #[.int .i64 k0_1, .int .i64 k1_1, .int .i64 k2_1, .string s3_1, .string s4_1, .int .i64 k5_1, .int .i64 k6_1, .int .i64 k7_1, .string s8_1, .slice a9_1 l9_1 c9_1, .slice a10_1 l10_1 c10_1]) := by rw [hWd]; exact PhB.put HR13.out
 have HT : Hid (Tre Wd w.heap.size p [.int .i64 k0_1, .int .i64 k1_1, .int .i64 k2_1, .string s3_1, .string s4_1, .int .i64 k5_1, .int .i64 k6_1, .int .i64 k7_1, .string s8_1, .slice a9_1 l9_1 c9_1, .slice a10_1 l10_1 c10_1]) := by
  refine HidOf ?_
  rw [hWd]
  (refine Tre.mono (lo := lo1) ?_ (by have := HRW.out; omega); (repeat (first | with_reducible refine Tre.setR ?_ hlo1 _ _ | with_reducible refine Tre.allocI ?_ _ | with_reducible exact HV1_13.out)))
 rw [← hWd]
 clear hWd
 refine leaves_cons (f := 64) (args := #[.pointer (some ⟨q, 0, none⟩)]) (by simp) (by simp [go_sem]) ?_
 refine (pleave_is HD.out HQ.out hop .returning).mono ?_
 rintro e u' w99 ⟨rfl, rfl, hp, hg⟩
 obtain ⟨⟨u0, u1, u2, u3, u4, u5, u6, u7, u8, u9, u10⟩, _⟩ := (HZ.out.grow hg hrp).cells
 exact ⟨.agg #[.int .i64 k0_1, .int .i64 k1_1, .int .i64 k2_1, .string s3_1, .string s4_1, .int .i64 k5_1, .int .i64 k6_1, .int .i64 k7_1, .string s8_1, .slice a9_1 l9_1 c9_1, .slice a10_1 l10_1 c10_1], by simp [results, Tryz.results68, go_sem, u0, u1, u2, u3, u4, u5, u6, u7, u8, u9, u10], ⟨_, HT.out.grow hg HPW.out, rfl, hp, HE.out.trans hg⟩⟩
end Go.Proofs.YtbnlekhjgkojlaaGreatDoor
