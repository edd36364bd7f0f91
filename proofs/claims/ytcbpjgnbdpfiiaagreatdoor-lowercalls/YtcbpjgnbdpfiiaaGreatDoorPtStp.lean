/-
  THE PARSER's step without predicates.
-/
import Derived.Test.YtcbpjgnbdpfiiaaGreatDoorPtCall
import Derived.Defers
set_option linter.unusedVariables false
namespace Go.Proofs.YtcbpjgnbdpfiiaaGreatDoor
set_option maxRecDepth 100000
open Go.RowKit

set_option maxHeartbeats 3200000 in
theorem step_plain {pb b c : Nat} {T : List Tok} {st : Pst} {s0 s1 : Pst} {p : Ph} {u1s : ByteArray} {u1k u1n : Int} (hT : T.length ≤ 200) (hat : st.at' ≤ 300) (ho : st.opn ≤ 100) (hop : 1 ≤ s1.opn ∧ s1.opn ≤ 200) (hat1 : s1.at' ≤ 300) (he : enterM T st (stepB (seeM T st 0)) = s0) (hu1 : seeM T s1 0 = ⟨u1k, u1s, u1n⟩) (nb : eqT ⟨u1k, u1s, u1n⟩ ⟨5, ⟨#[91]⟩, 0⟩ = false) (hlu : RunT pb b c T 162 #[.pointer (some ⟨pb, 0, none⟩)] s0 s1 p) : RunT pb b c T 159 #[.pointer (some ⟨pb, 0, none⟩)] st { s1 with opn := s1.opn - 1 } p := by
  intro w h htb
  have HTB : Hid (RTab w pb) := htb
  clear htb
  have HLU : Hid (RunT pb b c T 162 #[.pointer (some ⟨pb, 0, none⟩)] s0 s1 p) := hlu
  clear hlu
  obtain ⟨beg, hbeg⟩ : ∃ x, x = stepB (seeM T st 0) := ⟨_, rfl⟩
  have SB : Hid (∀ W, PaS W pb b c T st → Calls Tryz.prog 72 #[.pointer (some ⟨pb, 0, none⟩)] W fun e w' => e = .returned (.bool beg) ∧ Below W.heap.size W w') := fun W h => by rw [hbeg]; exact stepBegins_any h hT hat
  rw [← hbeg] at he
  clear hbeg
  have EN := neT_run nb
  have hpl := h.pl
  have hbl := h.bl
  have HPW : Hid (pb < w.heap.size) := hpl
  go_enter_defers Tryz.func159, Tryz.ntmps159
  go_upto_region 1 with fail
  obtain ⟨W1, hW1⟩ : ∃ W, W = w.alloc (.cells #[.int .i64 0, .int .i64 0, .int .i64 0, .string ⟨#[]⟩, .string ⟨#[]⟩, .int .i64 0, .int .i64 0, .int .i64 0, .string ⟨#[]⟩, .slice none 0 0, .slice none 0 0] 38) := ⟨_, rfl⟩
  have HG1 : Hid (GrowA pb w W1) := by rw [hW1]; exact (GrowA.refl _ _).alloc _
  have HP1 : Hid (PaS W1 pb b c T st) := by rw [hW1]; exact h.allocI _
  have HR1 : Hid (PhB W1 w.heap.size #[.int .i64 0, .int .i64 0, .int .i64 0, .string ⟨#[]⟩, .string ⟨#[]⟩, .int .i64 0, .int .i64 0, .int .i64 0, .string ⟨#[]⟩, .slice none 0 0, .slice none 0 0]) := by rw [hW1]; exact PhB.new w _
  rw [← hW1]
  obtain ⟨r, hr⟩ : ∃ r, r = w.heap.size := ⟨_, rfl⟩
  have HRW : Hid (w.heap.size ≤ r) := Nat.le_of_eq hr.symm
  have hrp : r ≠ pb := by omega
  have hrb : r ≠ b := by omega
  rw [← hr] at HR1 ⊢
  clear hW1 hr h hpl hbl
  go_wp2_with (first
    | (go_at_call 72; (first | refine (SB.out _ HP1.out).mono ?_ | refine (SB.out _ (HP1.out.allocI _) ).mono ?_ | refine (SB.out _ ((HP1.out.allocI _).allocI _) ).mono ?_); rintro e w2 ⟨rfl, hb⟩; have HG2 : Hid (GrowA pb w w2) := (by first | exact HG1.out.below hb | exact (HG1.out.alloc _).below hb | exact ((HG1.out.alloc _).alloc _).below hb); have HP2 : Hid (PaS w2 pb b c T st) := (by first | exact HP1.out.below hb | exact (HP1.out.allocI _).below hb | exact ((HP1.out.allocI _).allocI _).below hb); have HR2 : Hid (PhB w2 r #[.int .i64 0, .int .i64 0, .int .i64 0, .string ⟨#[]⟩, .string ⟨#[]⟩, .int .i64 0, .int .i64 0, .int .i64 0, .string ⟨#[]⟩, .slice none 0 0, .slice none 0 0]) := (by first | exact HR1.out.below hb | exact (HR1.out.allocI _).below hb | exact ((HR1.out.allocI _).allocI _).below hb); clear hb HP1 HG1 HR1)
    | (go_at_call 43; (first | refine (penter_is HP2.out _ ho).mono ?_ | refine (penter_is (HP2.out.allocI _) _ ho).mono ?_); rintro e w3 ⟨q, rfl, hl, hp, hg, hq⟩; have HG3 : Hid (GrowA pb w w3) := (by first | exact HG2.out.trans hg | exact (HG2.out.alloc _).trans hg); have HP3 : Hid (PaS w3 pb b c T s0) := (by rw [← he]; exact hp); have HR3 : Hid (PhB w3 r #[.int .i64 0, .int .i64 0, .int .i64 0, .string ⟨#[]⟩, .string ⟨#[]⟩, .int .i64 0, .int .i64 0, .int .i64 0, .string ⟨#[]⟩, .slice none 0 0, .slice none 0 0]) := (by first | exact HR2.out.grow hg hrp | exact (HR2.out.allocI _).grow hg hrp); have HL3 : Hid (Leave w3 pb q) := hl; have hrq : r ≠ q := (by have k1 := HR2.out.lt; first | omega | (simp at hq; omega)); clear hl hp hg hq HP2 HG2 HR2)
    | (go_at_call 162; (first | refine (HLU.out.use HTB.out HP3.out HG3.out (show r < _ from by have k := HR3.out.lt; first | exact k | (simp; omega))).mono ?_ | refine (HLU.out.use HTB.out (HP3.out.allocI _) (HG3.out.alloc _) (show r < _ from by have k := HR3.out.lt; first | exact k | (simp; omega))).mono ?_ | refine (HLU.out.use HTB.out ((HP3.out.allocI _).allocI _) ((HG3.out.alloc _).alloc _) (show r < _ from by have k := HR3.out.lt; first | exact k | (simp; omega))).mono ?_); rintro e w4 ⟨lo1, v, hlo, hv, rfl, hp, hg⟩; obtain ⟨k0_1, k1_1, k2_1, k5_1, k6_1, k7_1, s3_1, s4_1, s8_1, a9_1, a10_1, l9_1, c9_1, l10_1, c10_1, rfl⟩ := hv.form; have hlo1 := hlo.1; have hlp1 := hlo.2.1; have hlz1 := hlo.2.2; have HG4 : Hid (GrowA pb w w4) := (by first | exact HG3.out.trans hg | exact (HG3.out.alloc _).trans hg | exact ((HG3.out.alloc _).alloc _).trans hg); have HP4 : Hid (PaS w4 pb b c T s1) := hp; have HR4 : Hid (PhB w4 r #[.int .i64 0, .int .i64 0, .int .i64 0, .string ⟨#[]⟩, .string ⟨#[]⟩, .int .i64 0, .int .i64 0, .int .i64 0, .string ⟨#[]⟩, .slice none 0 0, .slice none 0 0]) := (by first | exact HR3.out.grow hg hrp | exact (HR3.out.allocI _).grow hg hrp | exact ((HR3.out.allocI _).allocI _).grow hg hrp); have HL4 : Hid (Leave w4 pb q) := (by first | exact HL3.out.grow hg | exact (HL3.out.allocI _).grow hg | exact ((HL3.out.allocI _).allocI _).grow hg); have HV1_4 : Hid (Tre w4 lo1 p [.int .i64 k0_1, .int .i64 k1_1, .int .i64 k2_1, .string s3_1, .string s4_1, .int .i64 k5_1, .int .i64 k6_1, .int .i64 k7_1, .string s8_1, .slice a9_1 l9_1 c9_1, .slice a10_1 l10_1 c10_1]) := hv; have hxp : w4.heap.size ≠ pb := (by have := HP4.out.pl; omega); clear hv hlo hp hg HP3 HG3 HR3 HL3)
    | (go_at_call 70; (first | refine (see_lit HP4.out 0 (by omega) hT hat1 hu1).mono ?_ | refine (see_lit (HP4.out.allocI _) 0 (by omega) hT hat1 hu1).mono ?_ | refine (see_lit ((HP4.out.allocI _).allocI _) 0 (by omega) hT hat1 hu1).mono ?_); rintro e w5 ⟨rfl, hb⟩; have HG5 : Hid (GrowA pb w w5) := (by first | exact HG4.out.below hb | exact (HG4.out.alloc _).below hb | exact ((HG4.out.alloc _).alloc _).below hb); have HP5 : Hid (PaS w5 pb b c T s1) := (by first | exact HP4.out.below hb | exact (HP4.out.allocI _).below hb | exact ((HP4.out.allocI _).allocI _).below hb); have HR5 : Hid (PhB w5 r #[.int .i64 0, .int .i64 0, .int .i64 0, .string ⟨#[]⟩, .string ⟨#[]⟩, .int .i64 0, .int .i64 0, .int .i64 0, .string ⟨#[]⟩, .slice none 0 0, .slice none 0 0]) := (by first | exact HR4.out.below hb | exact (HR4.out.allocI _).below hb | exact ((HR4.out.allocI _).allocI _).below hb); have HL5 : Hid (Leave w5 pb q) := (by first | exact HL4.out.below hb | exact (HL4.out.allocI _).below hb | exact ((HL4.out.allocI _).allocI _).below hb); have HV1_5 : Hid (Tre w5 lo1 p [.int .i64 k0_1, .int .i64 k1_1, .int .i64 k2_1, .string s3_1, .string s4_1, .int .i64 k5_1, .int .i64 k6_1, .int .i64 k7_1, .string s8_1, .slice a9_1 l9_1 c9_1, .slice a10_1 l10_1 c10_1]) := (by first | exact HV1_4.out.below hb | exact (HV1_4.out.allocI _).below hb | exact ((HV1_4.out.allocI _).allocI _).below hb); have HX5 : Hid (PhB w5 w4.heap.size #[.int .i64 k0_1, .int .i64 k1_1, .int .i64 k2_1, .string s3_1, .string s4_1, .int .i64 k5_1, .int .i64 k6_1, .int .i64 k7_1, .string s8_1, .slice a9_1 l9_1 c9_1, .slice a10_1 l10_1 c10_1]) := (PhB.new w4 #[.int .i64 k0_1, .int .i64 k1_1, .int .i64 k2_1, .string s3_1, .string s4_1, .int .i64 k5_1, .int .i64 k6_1, .int .i64 k7_1, .string s8_1, .slice a9_1 l9_1 c9_1, .slice a10_1 l10_1 c10_1]).below hb; clear hb HP4 HG4 HR4 HL4 HV1_4)
    | (go_at_call 71; have HNX := HP5; refine (mark_is _ _).mono ?_; rintro e w6 ⟨rfl, hb⟩; have HG6 : Hid (GrowA pb w w6) := (by first | exact HG5.out.below hb | exact (HG5.out.alloc _).below hb | exact ((HG5.out.alloc _).alloc _).below hb); have HP6 : Hid (PaS w6 pb b c T s1) := (by first | exact HP5.out.below hb | exact (HP5.out.allocI _).below hb | exact ((HP5.out.allocI _).allocI _).below hb); have HR6 : Hid (PhB w6 r #[.int .i64 0, .int .i64 0, .int .i64 0, .string ⟨#[]⟩, .string ⟨#[]⟩, .int .i64 0, .int .i64 0, .int .i64 0, .string ⟨#[]⟩, .slice none 0 0, .slice none 0 0]) := (by first | exact HR5.out.below hb | exact (HR5.out.allocI _).below hb | exact ((HR5.out.allocI _).allocI _).below hb); have HL6 : Hid (Leave w6 pb q) := (by first | exact HL5.out.below hb | exact (HL5.out.allocI _).below hb | exact ((HL5.out.allocI _).allocI _).below hb); have HV1_6 : Hid (Tre w6 lo1 p [.int .i64 k0_1, .int .i64 k1_1, .int .i64 k2_1, .string s3_1, .string s4_1, .int .i64 k5_1, .int .i64 k6_1, .int .i64 k7_1, .string s8_1, .slice a9_1 l9_1 c9_1, .slice a10_1 l10_1 c10_1]) := (by first | exact HV1_5.out.below hb | exact (HV1_5.out.allocI _).below hb | exact ((HV1_5.out.allocI _).allocI _).below hb); have HX6 : Hid (PhB w6 w4.heap.size #[.int .i64 k0_1, .int .i64 k1_1, .int .i64 k2_1, .string s3_1, .string s4_1, .int .i64 k5_1, .int .i64 k6_1, .int .i64 k7_1, .string s8_1, .slice a9_1 l9_1 c9_1, .slice a10_1 l10_1 c10_1]) := (by first | exact HX5.out.below hb | exact (HX5.out.allocI _).below hb | exact ((HX5.out.allocI _).allocI _).below hb); obtain ⟨⟨y0, y1, y2, y3, y4, y5, y6, y7, y8, y9, y10⟩, z0, z1, z2, z3, z4, z5, z6, z7, z8, z9, z10⟩ := HR6.out.cells; obtain ⟨⟨m0, m1, m2, m3, m4, m5, m6, m7, m8, m9, m10⟩, j0, j1, j2, j3, j4, j5, j6, j7, j8, j9, j10⟩ := HX6.out.cells; clear hb HNX HP5 HG5 HR5 HL5 HV1_5 HX5))
  obtain ⟨Wd, hWd⟩ : ∃ W, W = (((((((((((w6.setCell ⟨r, 0, none⟩ (.int .i64 k0_1)).setCell ⟨r, 1, none⟩ (.int .i64 k1_1)).setCell ⟨r, 2, none⟩ (.int .i64 k2_1)).setCell ⟨r, 3, none⟩ (.string s3_1)).setCell ⟨r, 4, none⟩ (.string s4_1)).setCell ⟨r, 5, none⟩ (.int .i64 k5_1)).setCell ⟨r, 6, none⟩ (.int .i64 k6_1)).setCell ⟨r, 7, none⟩ (.int .i64 k7_1)).setCell ⟨r, 8, none⟩ (.string s8_1)).setCell ⟨r, 9, none⟩ (.slice a9_1 l9_1 c9_1)).setCell ⟨r, 10, none⟩ (.slice a10_1 l10_1 c10_1)) := ⟨_, rfl⟩
  have HD : Hid (PaS Wd pb b c T s1) := by
    refine HidOf ?_
    rw [hWd]
    (repeat (first | with_reducible refine PaS.setR ?_ hrp hrb _ _ | with_reducible refine PaS.allocI ?_ _ | exact HP6.out))
  have HE : Hid (GrowA pb w Wd) := by
    refine HidOf ?_
    rw [hWd]
    (repeat (first | with_reducible refine GrowA.setR ?_ HRW.out _ _ | with_reducible refine GrowA.alloc ?_ _ | exact HG6.out))
  have HQ : Hid (Leave Wd pb q) := by
    refine HidOf ?_
    rw [hWd]
    (repeat (first | with_reducible refine Leave.setR ?_ hrq _ _ | with_reducible refine Leave.allocI ?_ _ | exact HL6.out))
  have HZ : Hid (PhB Wd r #[.int .i64 k0_1, .int .i64 k1_1, .int .i64 k2_1, .string s3_1, .string s4_1, .int .i64 k5_1, .int .i64 k6_1, .int .i64 k7_1, .string s8_1, .slice a9_1 l9_1 c9_1, .slice a10_1 l10_1 c10_1]) := by rw [hWd]; exact PhB.put HR6.out
  have HT : Hid (Tre Wd w.heap.size p [.int .i64 k0_1, .int .i64 k1_1, .int .i64 k2_1, .string s3_1, .string s4_1, .int .i64 k5_1, .int .i64 k6_1, .int .i64 k7_1, .string s8_1, .slice a9_1 l9_1 c9_1, .slice a10_1 l10_1 c10_1]) := by
    refine HidOf ?_
    rw [hWd]
    (refine Tre.mono (lo := lo1) ?_ (by have := HRW.out; omega); (repeat (first | with_reducible refine Tre.setR ?_ hlo1 _ _ | with_reducible refine Tre.allocI ?_ _ | with_reducible exact HV1_6.out)))
  rw [← hWd]
  clear hWd
  refine leaves_cons (f := 69) (args := #[.pointer (some ⟨q, 0, none⟩)]) (by simp) (by simp [go_sem]) ?_
  refine (pleave_is HD.out HQ.out hop .returning).mono ?_
  rintro e u' w99 ⟨rfl, rfl, hp, hg⟩
  obtain ⟨⟨u0, u1, u2, u3, u4, u5, u6, u7, u8, u9, u10⟩, _⟩ := (HZ.out.grow hg hrp).cells
  exact ⟨.agg #[.int .i64 k0_1, .int .i64 k1_1, .int .i64 k2_1, .string s3_1, .string s4_1, .int .i64 k5_1, .int .i64 k6_1, .int .i64 k7_1, .string s8_1, .slice a9_1 l9_1 c9_1, .slice a10_1 l10_1 c10_1], by simp [results, Tryz.results159, go_sem, u0, u1, u2, u3, u4, u5, u6, u7, u8, u9, u10], ⟨_, HT.out.grow hg HPW.out, rfl, hp, HE.out.trans hg⟩⟩
end Go.Proofs.YtcbpjgnbdpfiiaaGreatDoor
