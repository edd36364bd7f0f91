/-
  THE PARSER's single where a clause, a quantifier or a condition begins.
-/
import Derived.Test.YtcbpjgnbdpfiiaaGreatDoorPtSgl
set_option linter.unusedVariables false
namespace Go.Proofs.YtcbpjgnbdpfiiaaGreatDoor
set_option maxRecDepth 100000
open Go.RowKit

def opForA : Oper := { dst := some 22, op := Op.load 50 (Operand.tmp 4), type := 50, pos := "parse.go:136", after := #[{ on := 5, ground := Ground.guard }], guard := some (5, false) }
theorem opForA_eq : opForA = { dst := some 22, op := Op.load 50 (Operand.tmp 4), type := 50, pos := "parse.go:136", after := #[{ on := 5, ground := Ground.guard }], guard := some (5, false) } := rfl
def opForB : Oper := { dst := some 24, op := Op.binOp BinOp.eql 50 (Operand.tmp 22) (Operand.tmp 23) 50, type := 4, pos := "parse.go:136", after := #[{ on := 6, ground := Ground.data }, { on := 7, ground := Ground.data }, { on := 5, ground := Ground.guard }], guard := some (5, false) }
theorem opForB_eq : opForB = { dst := some 24, op := Op.binOp BinOp.eql 50 (Operand.tmp 22) (Operand.tmp 23) 50, type := 4, pos := "parse.go:136", after := #[{ on := 6, ground := Ground.data }, { on := 7, ground := Ground.data }, { on := 5, ground := Ground.guard }], guard := some (5, false) } := rfl
set_option maxHeartbeats 3200000 in
theorem single_for {pb b c : Nat} {T : List Tok} {st : Pst} {s0 s1 : Pst} {p : Ph} {us vs : ByteArray} {uk un vk vn : Int} (hT : T.length ≤ 200) (hat : st.at' ≤ 300) (hat0 : s0.at' ≤ 300) (ho : st.opn ≤ 100) (hop : 1 ≤ s1.opn ∧ s1.opn ≤ 200) (he : enterM T st (singleB (seeM T st 0)) = s0) (hu : seeM T s0 0 = ⟨uk, us, un⟩) (hu1 : seeM T s0 1 = ⟨vk, vs, vn⟩) (k4 : (vk == 4) = true) (y1 : eqT ⟨uk, us, un⟩ ⟨1, ⟨#[102, 111, 114]⟩, 0⟩ = true) (hlu : RunT pb b c T 118 #[.pointer (some ⟨pb, 0, none⟩)] s0 s1 p) : RunT pb b c T 73 #[.pointer (some ⟨pb, 0, none⟩)] st { s1 with opn := s1.opn - 1 } p := by
  intro w h htb
  have HTB : Hid (RTab w pb) := htb
  clear htb
  have HLU : Hid (RunT pb b c T 118 #[.pointer (some ⟨pb, 0, none⟩)] s0 s1 p) := hlu
  clear hlu
  have y1E := eqT_run y1
  obtain ⟨beg, hbeg⟩ : ∃ x, x = singleB (seeM T st 0) := ⟨_, rfl⟩
  have SB : Hid (∀ W, PaS W pb b c T st → Calls Tryz.prog 44 #[.pointer (some ⟨pb, 0, none⟩)] W fun e w' => e = .returned (.bool beg) ∧ Below W.heap.size W w') := fun W h => by rw [hbeg]; exact singleBegins_any h hT hat
  rw [← hbeg] at he
  clear hbeg
  have EF := field_kind vk vn vs
  have hpl := h.pl
  have hbl := h.bl
  have HPW : Hid (pb < w.heap.size) := hpl
  go_enter_defers Tryz.func73, Tryz.ntmps73
  go_upto_region 1 with fail
  obtain ⟨W1, hW1⟩ : ∃ W, W = w.alloc (.cells #[.int .i64 0, .int .i64 0, .int .i64 0, .string ⟨#[]⟩, .string ⟨#[]⟩, .int .i64 0, .int .i64 0, .int .i64 0, .string ⟨#[]⟩, .slice none 0 0, .slice none 0 0] 38) := ⟨_, rfl⟩
  have HG1 : Hid (GrowA pb w W1) := by rw [hW1]; exact (GrowA.refl _ _).alloc _
  have HP1 : Hid (PaS W1 pb b c T st) := by rw [hW1]; exact h.allocI _
  have HR1 : Hid (PhB W1 w.heap.size #[.int .i64 0, .int .i64 0, .int .i64 0, .string ⟨#[]⟩, .string ⟨#[]⟩, .int .i64 0, .int .i64 0, .int .i64 0, .string ⟨#[]⟩, .slice none 0 0, .slice none 0 0]) := by rw [hW1]; exact PhB.new w _
  rw [← hW1]
  obtain ⟨r, hr⟩ : ∃ r, r = w.heap.size := ⟨_, rfl⟩
  have HRW : Hid (w.heap.size ≤ r) := Nat.le_of_eq hr.symm
  have hrp : r ≠ pb := by omega
  have hrb : r ≠ b := by omega
  rw [← hr] at HR1 ⊢
  clear hW1 hr h hpl hbl
  go_upto_region 4 with (first
    | (go_at_call 44; (first | refine (SB.out _ HP1.out).mono ?_ | refine (SB.out _ (HP1.out.allocI _) ).mono ?_ | refine (SB.out _ ((HP1.out.allocI _).allocI _) ).mono ?_); rintro e w2 ⟨rfl, hb⟩; have HG2 : Hid (GrowA pb w w2) := (by first | exact HG1.out.below hb | exact (HG1.out.alloc _).below hb | exact ((HG1.out.alloc _).alloc _).below hb); have HP2 : Hid (PaS w2 pb b c T st) := (by first | exact HP1.out.below hb | exact (HP1.out.allocI _).below hb | exact ((HP1.out.allocI _).allocI _).below hb); have HR2 : Hid (PhB w2 r #[.int .i64 0, .int .i64 0, .int .i64 0, .string ⟨#[]⟩, .string ⟨#[]⟩, .int .i64 0, .int .i64 0, .int .i64 0, .string ⟨#[]⟩, .slice none 0 0, .slice none 0 0]) := (by first | exact HR1.out.below hb | exact (HR1.out.allocI _).below hb | exact ((HR1.out.allocI _).allocI _).below hb); clear hb HP1 HG1 HR1)
    | (go_at_call 43; (first | refine (penter_is HP2.out _ ho).mono ?_ | refine (penter_is (HP2.out.allocI _) _ ho).mono ?_); rintro e w3 ⟨q, rfl, hl, hp, hg, hq⟩; have HG3 : Hid (GrowA pb w w3) := (by first | exact HG2.out.trans hg | exact (HG2.out.alloc _).trans hg); have HP3 : Hid (PaS w3 pb b c T s0) := (by rw [← he]; exact hp); have HR3 : Hid (PhB w3 r #[.int .i64 0, .int .i64 0, .int .i64 0, .string ⟨#[]⟩, .string ⟨#[]⟩, .int .i64 0, .int .i64 0, .int .i64 0, .string ⟨#[]⟩, .slice none 0 0, .slice none 0 0]) := (by first | exact HR2.out.grow hg hrp | exact (HR2.out.allocI _).grow hg hrp); have HL3 : Hid (Leave w3 pb q) := hl; have hrq : r ≠ q := (by have k1 := HR2.out.lt; first | omega | (simp at hq; omega)); clear hl hp hg hq HP2 HG2 HR2)
    | (go_at_call 70; (first | refine (see_lit HP3.out 1 (by omega) hT hat0 hu1).mono ?_ | refine (see_lit (HP3.out.allocI _) 1 (by omega) hT hat0 hu1).mono ?_ | refine (see_lit ((HP3.out.allocI _).allocI _) 1 (by omega) hT hat0 hu1).mono ?_); rintro e w4 ⟨rfl, hb⟩; have HG4 : Hid (GrowA pb w w4) := (by first | exact HG3.out.below hb | exact (HG3.out.alloc _).below hb | exact ((HG3.out.alloc _).alloc _).below hb); have HP4 : Hid (PaS w4 pb b c T s0) := (by first | exact HP3.out.below hb | exact (HP3.out.allocI _).below hb | exact ((HP3.out.allocI _).allocI _).below hb); have HR4 : Hid (PhB w4 r #[.int .i64 0, .int .i64 0, .int .i64 0, .string ⟨#[]⟩, .string ⟨#[]⟩, .int .i64 0, .int .i64 0, .int .i64 0, .string ⟨#[]⟩, .slice none 0 0, .slice none 0 0]) := (by first | exact HR3.out.below hb | exact (HR3.out.allocI _).below hb | exact ((HR3.out.allocI _).allocI _).below hb); have HL4 : Hid (Leave w4 pb q) := (by first | exact HL3.out.below hb | exact (HL3.out.allocI _).below hb | exact ((HL3.out.allocI _).allocI _).below hb); clear hb HP3 HG3 HR3 HL3)
    | (go_at_call 70; (first | refine (see_lit HP4.out 0 (by omega) hT hat0 hu).mono ?_ | refine (see_lit (HP4.out.allocI _) 0 (by omega) hT hat0 hu).mono ?_ | refine (see_lit ((HP4.out.allocI _).allocI _) 0 (by omega) hT hat0 hu).mono ?_); rintro e w5 ⟨rfl, hb⟩; have HG5 : Hid (GrowA pb w w5) := (by first | exact HG4.out.below hb | exact (HG4.out.alloc _).below hb | exact ((HG4.out.alloc _).alloc _).below hb); have HP5 : Hid (PaS w5 pb b c T s0) := (by first | exact HP4.out.below hb | exact (HP4.out.allocI _).below hb | exact ((HP4.out.allocI _).allocI _).below hb); have HR5 : Hid (PhB w5 r #[.int .i64 0, .int .i64 0, .int .i64 0, .string ⟨#[]⟩, .string ⟨#[]⟩, .int .i64 0, .int .i64 0, .int .i64 0, .string ⟨#[]⟩, .slice none 0 0, .slice none 0 0]) := (by first | exact HR4.out.below hb | exact (HR4.out.allocI _).below hb | exact ((HR4.out.allocI _).allocI _).below hb); have HL5 : Hid (Leave w5 pb q) := (by first | exact HL4.out.below hb | exact (HL4.out.allocI _).below hb | exact ((HL4.out.allocI _).allocI _).below hb); clear hb HP4 HG4 HR4 HL4))
  obtain ⟨w6, hw6⟩ : ∃ W, W = w5.alloc (.cells #[.int .i64 uk, .string us, .int .i64 un] 50) := ⟨_, rfl⟩
  obtain ⟨x, hx⟩ : ∃ x, x = w5.heap.size := ⟨_, rfl⟩
  have HG6 : Hid (GrowA pb w w6) := by rw [hw6]; exact HG5.out.alloc _
  have HP6 : Hid (PaS w6 pb b c T s0) := by rw [hw6]; exact HP5.out.allocI _
  have HR6 : Hid (PhB w6 r #[.int .i64 0, .int .i64 0, .int .i64 0, .string ⟨#[]⟩, .string ⟨#[]⟩, .int .i64 0, .int .i64 0, .int .i64 0, .string ⟨#[]⟩, .slice none 0 0, .slice none 0 0]) := by rw [hw6]; exact HR5.out.allocI _
  have HL6 : Hid (Leave w6 pb q) := by rw [hw6]; exact HL5.out.allocI _
  have HX6 : Hid (TkB w6 x #[.int .i64 uk, .string us, .int .i64 un]) := by rw [hw6, hx]; exact TkB.new w5 _
  obtain ⟨c0, c1, c2⟩ := HX6.out.cells
  rw [← hw6, ← hx]
  clear hw6 hx HG5 HP5 HR5 HL5
  have CW0 : Hid (∀ W, Below w6.heap.size w6 W → Calls Tryz.prog 117 #[.string ⟨#[102, 111, 114]⟩] W fun e w' => e = .returned (.agg #[.int .i64 1, .string ⟨#[102, 111, 114]⟩, .int .i64 0]) ∧ Below w6.heap.size w6 w') := fun W hW => (word_is _ W).mono fun e w' ⟨k1, k2⟩ => ⟨k1, hW.trans (k2.mono hW.size)⟩
  have HSS : Hid (∀ W, Below w6.heap.size w6 W → W.cell? ⟨x, 0, none⟩ = some (.int .i64 uk) ∧ W.cell? ⟨x, 1, none⟩ = some (.string us) ∧ W.cell? ⟨x, 2, none⟩ = some (.int .i64 un)) := fun W hb => (HX6.out.below hb).cells
  rw [← opForA_eq, ← opForB_eq]
  have hopForA := opForA_eq
  have hopForB := opForB_eq
  go_region_held3 (fun W => W.cell? ⟨x, 0, none⟩ = some (.int .i64 uk) ∧ W.cell? ⟨x, 1, none⟩ = some (.string us) ∧ W.cell? ⟨x, 2, none⟩ = some (.int .i64 un))
    ((refine HSS.out _ ?_; repeat (first | exact Hid.out (by assumption) | exact Below.refl _ _ | refine Below.drew ?_)))
    (first
      | (go_at_call 117; refine (CW0.out _ ?_).mono ?_; (focus (repeat (first | exact Hid.out (by assumption) | exact Below.refl _ _ | refine Below.drew ?_))); rintro e w7 ⟨rfl, hb⟩; have HB7 : Hid (Below w6.heap.size w6 w7) := hb; clear hb CW0))
  all_goals
    have HG7 : Hid (GrowA pb w w7) := HG6.out.below HB7.out
    have HP7 : Hid (PaS w7 pb b c T s0) := HP6.out.below HB7.out
    have HR7 : Hid (PhB w7 r #[.int .i64 0, .int .i64 0, .int .i64 0, .string ⟨#[]⟩, .string ⟨#[]⟩, .int .i64 0, .int .i64 0, .int .i64 0, .string ⟨#[]⟩, .slice none 0 0, .slice none 0 0]) := HR6.out.below HB7.out
    have HL7 : Hid (Leave w7 pb q) := HL6.out.below HB7.out
    have HX7 : Hid (TkB w7 x #[.int .i64 uk, .string us, .int .i64 un]) := HX6.out.below HB7.out
    clear hopForA hopForB c0 c1 c2 HSS HG6 HP6 HR6 HL6 HX6 HB7
    go_wp2_with (first
      | (go_at_call 118; (first | refine (HLU.out.use HTB.out HP7.out HG7.out (show r < _ from by have k := HR7.out.lt; first | exact k | (simp; omega))).mono ?_ | refine (HLU.out.use HTB.out (HP7.out.allocI _) (HG7.out.alloc _) (show r < _ from by have k := HR7.out.lt; first | exact k | (simp; omega))).mono ?_ | refine (HLU.out.use HTB.out ((HP7.out.allocI _).allocI _) ((HG7.out.alloc _).alloc _) (show r < _ from by have k := HR7.out.lt; first | exact k | (simp; omega))).mono ?_); rintro e w8 ⟨lo1, v, hlo, hv, rfl, hp, hg⟩; obtain ⟨k0_1, k1_1, k2_1, k5_1, k6_1, k7_1, s3_1, s4_1, s8_1, a9_1, a10_1, l9_1, c9_1, l10_1, c10_1, rfl⟩ := hv.form; have hlo1 := hlo.1; have hlp1 := hlo.2.1; have hlz1 := hlo.2.2; have HG8 : Hid (GrowA pb w w8) := (by first | exact HG7.out.trans hg | exact (HG7.out.alloc _).trans hg | exact ((HG7.out.alloc _).alloc _).trans hg); have HP8 : Hid (PaS w8 pb b c T s1) := hp; have HR8 : Hid (PhB w8 r #[.int .i64 0, .int .i64 0, .int .i64 0, .string ⟨#[]⟩, .string ⟨#[]⟩, .int .i64 0, .int .i64 0, .int .i64 0, .string ⟨#[]⟩, .slice none 0 0, .slice none 0 0]) := (by first | exact HR7.out.grow hg hrp | exact (HR7.out.allocI _).grow hg hrp | exact ((HR7.out.allocI _).allocI _).grow hg hrp); have HL8 : Hid (Leave w8 pb q) := (by first | exact HL7.out.grow hg | exact (HL7.out.allocI _).grow hg | exact ((HL7.out.allocI _).allocI _).grow hg); have HV1_8 : Hid (Tre w8 lo1 p [.int .i64 k0_1, .int .i64 k1_1, .int .i64 k2_1, .string s3_1, .string s4_1, .int .i64 k5_1, .int .i64 k6_1, .int .i64 k7_1, .string s8_1, .slice a9_1 l9_1 c9_1, .slice a10_1 l10_1 c10_1]) := hv; obtain ⟨⟨y0, y1, y2, y3, y4, y5, y6, y7, y8, y9, y10⟩, z0, z1, z2, z3, z4, z5, z6, z7, z8, z9, z10⟩ := HR8.out.cells; clear hv hlo hp hg HP7 HG7 HR7 HL7))
    obtain ⟨Wd, hWd⟩ : ∃ W, W = (((((((((((w8.setCell ⟨r, 0, none⟩ (.int .i64 k0_1)).setCell ⟨r, 1, none⟩ (.int .i64 k1_1)).setCell ⟨r, 2, none⟩ (.int .i64 k2_1)).setCell ⟨r, 3, none⟩ (.string s3_1)).setCell ⟨r, 4, none⟩ (.string s4_1)).setCell ⟨r, 5, none⟩ (.int .i64 k5_1)).setCell ⟨r, 6, none⟩ (.int .i64 k6_1)).setCell ⟨r, 7, none⟩ (.int .i64 k7_1)).setCell ⟨r, 8, none⟩ (.string s8_1)).setCell ⟨r, 9, none⟩ (.slice a9_1 l9_1 c9_1)).setCell ⟨r, 10, none⟩ (.slice a10_1 l10_1 c10_1)) := ⟨_, rfl⟩
    have HD : Hid (PaS Wd pb b c T s1) := by
      refine HidOf ?_
      rw [hWd]
      (repeat (first | with_reducible refine PaS.setR ?_ hrp hrb _ _ | with_reducible refine PaS.allocI ?_ _ | exact HP8.out))
    have HE : Hid (GrowA pb w Wd) := by
      refine HidOf ?_
      rw [hWd]
      (repeat (first | with_reducible refine GrowA.setR ?_ HRW.out _ _ | with_reducible refine GrowA.alloc ?_ _ | exact HG8.out))
    have HQ : Hid (Leave Wd pb q) := by
      refine HidOf ?_
      rw [hWd]
      (repeat (first | with_reducible refine Leave.setR ?_ hrq _ _ | with_reducible refine Leave.allocI ?_ _ | exact HL8.out))
    have HZ : Hid (PhB Wd r #[.int .i64 k0_1, .int .i64 k1_1, .int .i64 k2_1, .string s3_1, .string s4_1, .int .i64 k5_1, .int .i64 k6_1, .int .i64 k7_1, .string s8_1, .slice a9_1 l9_1 c9_1, .slice a10_1 l10_1 c10_1]) := by rw [hWd]; exact PhB.put HR8.out
    have HT : Hid (Tre Wd w.heap.size p [.int .i64 k0_1, .int .i64 k1_1, .int .i64 k2_1, .string s3_1, .string s4_1, .int .i64 k5_1, .int .i64 k6_1, .int .i64 k7_1, .string s8_1, .slice a9_1 l9_1 c9_1, .slice a10_1 l10_1 c10_1]) := by
      refine HidOf ?_
      rw [hWd]
      (refine Tre.mono (lo := lo1) ?_ (by have := HRW.out; omega); (repeat (first | with_reducible refine Tre.setR ?_ hlo1 _ _ | with_reducible refine Tre.allocI ?_ _ | with_reducible exact HV1_8.out)))
    rw [← hWd]
    clear hWd
    refine leaves_cons (f := 69) (args := #[.pointer (some ⟨q, 0, none⟩)]) (by simp) (by simp [go_sem]) ?_
    refine (pleave_is HD.out HQ.out hop .returning).mono ?_
    rintro e u' w99 ⟨rfl, rfl, hp, hg⟩
    obtain ⟨⟨u0, u1, u2, u3, u4, u5, u6, u7, u8, u9, u10⟩, _⟩ := (HZ.out.grow hg hrp).cells
    exact ⟨.agg #[.int .i64 k0_1, .int .i64 k1_1, .int .i64 k2_1, .string s3_1, .string s4_1, .int .i64 k5_1, .int .i64 k6_1, .int .i64 k7_1, .string s8_1, .slice a9_1 l9_1 c9_1, .slice a10_1 l10_1 c10_1], by simp [results, Tryz.results73, go_sem, u0, u1, u2, u3, u4, u5, u6, u7, u8, u9, u10], ⟨_, HT.out.grow hg HPW.out, rfl, hp, HE.out.trans hg⟩⟩
end Go.Proofs.YtcbpjgnbdpfiiaaGreatDoor
