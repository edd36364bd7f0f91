/-
  THE PARSER's list.
-/
import Derived.Test.YtcbpjgnbdpfiiaaGreatDoorPtList
set_option linter.unusedVariables false
namespace Go.Proofs.YtcbpjgnbdpfiiaaGreatDoor
set_option maxRecDepth 100000
open Go.RowKit

/-- the one element of a list of one -/
theorem Phs.first {w : World} {lo : Nat} {A : Nat → Ph} {v : Value} (h : Phs w lo 1 A v) : ∃ g c, v = .slice (some ⟨g, 0, none⟩) 1 c ∧ 1 ≤ c ∧ c ≤ maxLen ∧ g < w.heap.size ∧ ∃ u, cAt w g 0 u ∧ Tre w lo (A 0) u := by
  obtain ⟨a, c, h1, h2, h3, h4⟩ := h
  obtain ⟨g, q1, q2, q3⟩ := h4 (by decide)
  obtain ⟨u, r1, r2⟩ := q3 0 (by decide)
  rw [Nat.zero_mul] at r1
  exact ⟨g, c, by rw [h1, q1], h2, h3, q2.2, u, r1, r2⟩
theorem cAt.eleven {w : World} {g o : Nat} {x0 x1 x2 x3 x4 x5 x6 x7 x8 x9 x10 : Value} (h : cAt w g o [x0, x1, x2, x3, x4, x5, x6, x7, x8, x9, x10]) : w.cell? ⟨g, o, none⟩ = some x0 ∧ w.cell? ⟨g, o + 1, none⟩ = some x1 ∧ w.cell? ⟨g, o + 2, none⟩ = some x2 ∧ w.cell? ⟨g, o + 3, none⟩ = some x3 ∧ w.cell? ⟨g, o + 4, none⟩ = some x4 ∧ w.cell? ⟨g, o + 5, none⟩ = some x5 ∧ w.cell? ⟨g, o + 6, none⟩ = some x6 ∧ w.cell? ⟨g, o + 7, none⟩ = some x7 ∧ w.cell? ⟨g, o + 8, none⟩ = some x8 ∧ w.cell? ⟨g, o + 9, none⟩ = some x9 ∧ w.cell? ⟨g, o + 10, none⟩ = some x10 :=
  ⟨h 0 (by simp), h 1 (by simp), h 2 (by simp), h 3 (by simp), h 4 (by simp), h 5 (by simp), h 6 (by simp), h 7 (by simp), h 8 (by simp), h 9 (by simp), h 10 (by simp)⟩
set_option maxHeartbeats 3200000 in
theorem list_one {pb b c : Nat} {T : List Tok} {st : Pst} {s0 s1 : Pst} {A : Nat → Ph} (hT : T.length ≤ 200) (hat : st.at' ≤ 300) (ho : st.opn ≤ 100) (hop : 1 ≤ s1.opn ∧ s1.opn ≤ 200) (he : enterM T st (singleB (seeM T st 0)) = s0) (hlu : RunL pb b c T 45 s0 s1 1 A) : RunT pb b c T 21 #[.pointer (some ⟨pb, 0, none⟩)] st { s1 with opn := s1.opn - 1 } (A 0) := by
  intro w h htb
  have HTB : Hid (RTab w pb) := htb
  clear htb
  have HLU : Hid (RunL pb b c T 45 s0 s1 1 A) := hlu
  clear hlu
  obtain ⟨beg, hbeg⟩ : ∃ x, x = singleB (seeM T st 0) := ⟨_, rfl⟩
  have SB : Hid (∀ W, PaS W pb b c T st → Calls Tryz.prog 44 #[.pointer (some ⟨pb, 0, none⟩)] W fun e w' => e = .returned (.bool beg) ∧ Below W.heap.size W w') := fun W h => by rw [hbeg]; exact singleBegins_any h hT hat
  rw [← hbeg] at he
  clear hbeg
  have hpl := h.pl
  have hbl := h.bl
  have HPW : Hid (pb < w.heap.size) := hpl
  go_enter_defers Tryz.func21, Tryz.ntmps21
  go_upto_region 1 with fail
  obtain ⟨W1, hW1⟩ : ∃ W, W = w.alloc (.cells #[.int .i64 0, .int .i64 0, .int .i64 0, .string ⟨#[]⟩, .string ⟨#[]⟩, .int .i64 0, .int .i64 0, .int .i64 0, .string ⟨#[]⟩, .slice none 0 0, .slice none 0 0] 38) := ⟨_, rfl⟩
  have HG1 : Hid (GrowA pb w W1) := by rw [hW1]; exact (GrowA.refl _ _).alloc _
  have HP1 : Hid (PaS W1 pb b c T st) := by rw [hW1]; exact h.allocI _
  have HR1 : Hid (PhB W1 w.heap.size #[.int .i64 0, .int .i64 0, .int .i64 0, .string ⟨#[]⟩, .string ⟨#[]⟩, .int .i64 0, .int .i64 0, .int .i64 0, .string ⟨#[]⟩, .slice none 0 0, .slice none 0 0]) := by rw [hW1]; exact PhB.new w _
  rw [← hW1]
  obtain ⟨r, hr⟩ : ∃ r, r = w.heap.size := ⟨_, rfl⟩
  have HRW : Hid (w.heap.size ≤ r) := Nat.le_of_eq hr.symm
  have hrp : r ≠ pb := by omega
  have hrb : r ≠ b := by omega
  rw [← hr] at HR1 ⊢
  clear hW1 hr h hpl hbl
  go_wp2_with (first
    | (go_at_call 44; (first | refine (SB.out _ HP1.out).mono ?_ | refine (SB.out _ (HP1.out.allocI _) ).mono ?_ | refine (SB.out _ ((HP1.out.allocI _).allocI _) ).mono ?_); rintro e w2 ⟨rfl, hb⟩; have HG2 : Hid (GrowA pb w w2) := (by first | exact HG1.out.below hb | exact (HG1.out.alloc _).below hb | exact ((HG1.out.alloc _).alloc _).below hb); have HP2 : Hid (PaS w2 pb b c T st) := (by first | exact HP1.out.below hb | exact (HP1.out.allocI _).below hb | exact ((HP1.out.allocI _).allocI _).below hb); have HR2 : Hid (PhB w2 r #[.int .i64 0, .int .i64 0, .int .i64 0, .string ⟨#[]⟩, .string ⟨#[]⟩, .int .i64 0, .int .i64 0, .int .i64 0, .string ⟨#[]⟩, .slice none 0 0, .slice none 0 0]) := (by first | exact HR1.out.below hb | exact (HR1.out.allocI _).below hb | exact ((HR1.out.allocI _).allocI _).below hb); clear hb HP1 HG1 HR1)
    | (go_at_call 43; (first | refine (penter_is HP2.out _ ho).mono ?_ | refine (penter_is (HP2.out.allocI _) _ ho).mono ?_); rintro e w3 ⟨q, rfl, hl, hp, hg, hq⟩; have HG3 : Hid (GrowA pb w w3) := (by first | exact HG2.out.trans hg | exact (HG2.out.alloc _).trans hg); have HP3 : Hid (PaS w3 pb b c T s0) := (by rw [← he]; exact hp); have HR3 : Hid (PhB w3 r #[.int .i64 0, .int .i64 0, .int .i64 0, .string ⟨#[]⟩, .string ⟨#[]⟩, .int .i64 0, .int .i64 0, .int .i64 0, .string ⟨#[]⟩, .slice none 0 0, .slice none 0 0]) := (by first | exact HR2.out.grow hg hrp | exact (HR2.out.allocI _).grow hg hrp); have HL3 : Hid (Leave w3 pb q) := hl; have hrq : r ≠ q := (by have k1 := HR2.out.lt; first | omega | (simp at hq; omega)); clear hl hp hg hq HP2 HG2 HR2)
    | (go_at_call 45; (first | refine (HLU.out.use HTB.out HP3.out HG3.out (show r < _ from by have k := HR3.out.lt; first | exact k | (simp; omega))).mono ?_ | refine (HLU.out.use HTB.out (HP3.out.allocI _) (HG3.out.alloc _) (show r < _ from by have k := HR3.out.lt; first | exact k | (simp; omega))).mono ?_ | refine (HLU.out.use HTB.out ((HP3.out.allocI _).allocI _) ((HG3.out.alloc _).alloc _) (show r < _ from by have k := HR3.out.lt; first | exact k | (simp; omega))).mono ?_); rintro e w4 ⟨lo1, v, hlo, hv, rfl, hp, hg⟩; obtain ⟨g, c1, rfl, hc1, hcm, hgl, u, hu, htr⟩ := hv.first; have hlo1 := hlo.1; have hlp1 := hlo.2.1; have hlz1 := hlo.2.2; have HG4 : Hid (GrowA pb w w4) := (by first | exact HG3.out.trans hg | exact (HG3.out.alloc _).trans hg | exact ((HG3.out.alloc _).alloc _).trans hg); have HP4 : Hid (PaS w4 pb b c T s1) := hp; have HR4 : Hid (PhB w4 r #[.int .i64 0, .int .i64 0, .int .i64 0, .string ⟨#[]⟩, .string ⟨#[]⟩, .int .i64 0, .int .i64 0, .int .i64 0, .string ⟨#[]⟩, .slice none 0 0, .slice none 0 0]) := (by first | exact HR3.out.grow hg hrp | exact (HR3.out.allocI _).grow hg hrp | exact ((HR3.out.allocI _).allocI _).grow hg hrp); have HL4 : Hid (Leave w4 pb q) := (by first | exact HL3.out.grow hg | exact (HL3.out.allocI _).grow hg | exact ((HL3.out.allocI _).allocI _).grow hg); obtain ⟨k0_1, k1_1, k2_1, k5_1, k6_1, k7_1, s3_1, s4_1, s8_1, a9_1, a10_1, l9_1, c9_1, l10_1, c10_1, rfl⟩ := htr.form; have HV1_4 : Hid (Tre w4 lo1 (A 0) [.int .i64 k0_1, .int .i64 k1_1, .int .i64 k2_1, .string s3_1, .string s4_1, .int .i64 k5_1, .int .i64 k6_1, .int .i64 k7_1, .string s8_1, .slice a9_1 l9_1 c9_1, .slice a10_1 l10_1 c10_1]) := htr; obtain ⟨m0, m1, m2, m3, m4, m5, m6, m7, m8, m9, m10⟩ := hu.eleven; obtain ⟨⟨y0, y1, y2, y3, y4, y5, y6, y7, y8, y9, y10⟩, z0, z1, z2, z3, z4, z5, z6, z7, z8, z9, z10⟩ := HR4.out.cells; clear hu htr; clear hv hlo hp hg HP3 HG3 HR3 HL3))
  obtain ⟨Wd, hWd⟩ : ∃ W, W = (((((((((((w4.setCell ⟨r, 0, none⟩ (.int .i64 k0_1)).setCell ⟨r, 1, none⟩ (.int .i64 k1_1)).setCell ⟨r, 2, none⟩ (.int .i64 k2_1)).setCell ⟨r, 3, none⟩ (.string s3_1)).setCell ⟨r, 4, none⟩ (.string s4_1)).setCell ⟨r, 5, none⟩ (.int .i64 k5_1)).setCell ⟨r, 6, none⟩ (.int .i64 k6_1)).setCell ⟨r, 7, none⟩ (.int .i64 k7_1)).setCell ⟨r, 8, none⟩ (.string s8_1)).setCell ⟨r, 9, none⟩ (.slice a9_1 l9_1 c9_1)).setCell ⟨r, 10, none⟩ (.slice a10_1 l10_1 c10_1)) := ⟨_, rfl⟩
  have HD : Hid (PaS Wd pb b c T s1) := by
    refine HidOf ?_
    rw [hWd]
    (repeat (first | with_reducible refine PaS.setR ?_ hrp hrb _ _ | with_reducible refine PaS.allocI ?_ _ | exact HP4.out))
  have HE : Hid (GrowA pb w Wd) := by
    refine HidOf ?_
    rw [hWd]
    (repeat (first | with_reducible refine GrowA.setR ?_ HRW.out _ _ | with_reducible refine GrowA.alloc ?_ _ | exact HG4.out))
  have HQ : Hid (Leave Wd pb q) := by
    refine HidOf ?_
    rw [hWd]
    (repeat (first | with_reducible refine Leave.setR ?_ hrq _ _ | with_reducible refine Leave.allocI ?_ _ | exact HL4.out))
  have HZ : Hid (PhB Wd r #[.int .i64 k0_1, .int .i64 k1_1, .int .i64 k2_1, .string s3_1, .string s4_1, .int .i64 k5_1, .int .i64 k6_1, .int .i64 k7_1, .string s8_1, .slice a9_1 l9_1 c9_1, .slice a10_1 l10_1 c10_1]) := by rw [hWd]; exact PhB.put HR4.out
  have HT : Hid (Tre Wd w.heap.size (A 0) [.int .i64 k0_1, .int .i64 k1_1, .int .i64 k2_1, .string s3_1, .string s4_1, .int .i64 k5_1, .int .i64 k6_1, .int .i64 k7_1, .string s8_1, .slice a9_1 l9_1 c9_1, .slice a10_1 l10_1 c10_1]) := by
    refine HidOf ?_
    rw [hWd]
    (refine Tre.mono (lo := lo1) ?_ (by have := HRW.out; omega); (repeat (first | with_reducible refine Tre.setR ?_ hlo1 _ _ | with_reducible refine Tre.allocI ?_ _ | with_reducible exact HV1_4.out)))
  rw [← hWd]
  clear hWd
  refine leaves_cons (f := 69) (args := #[.pointer (some ⟨q, 0, none⟩)]) (by simp) (by simp [go_sem]) ?_
  refine (pleave_is HD.out HQ.out hop .returning).mono ?_
  rintro e u' w99 ⟨rfl, rfl, hp, hg⟩
  obtain ⟨⟨u0, u1, u2, u3, u4, u5, u6, u7, u8, u9, u10⟩, _⟩ := (HZ.out.grow hg hrp).cells
  exact ⟨.agg #[.int .i64 k0_1, .int .i64 k1_1, .int .i64 k2_1, .string s3_1, .string s4_1, .int .i64 k5_1, .int .i64 k6_1, .int .i64 k7_1, .string s8_1, .slice a9_1 l9_1 c9_1, .slice a10_1 l10_1 c10_1], by simp [results, Tryz.results21, go_sem, u0, u1, u2, u3, u4, u5, u6, u7, u8, u9, u10], ⟨_, HT.out.grow hg HPW.out, rfl, hp, HE.out.trans hg⟩⟩
end Go.Proofs.YtcbpjgnbdpfiiaaGreatDoor
