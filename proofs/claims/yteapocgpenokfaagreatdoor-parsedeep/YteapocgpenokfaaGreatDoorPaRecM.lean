/-
  THE PARSER's steps, step, path, minus, where only four tokens are seen.
-/
import Derived.Test.YteapocgpenokfaaGreatDoorPaRecC
set_option linter.unusedVariables false
namespace Go.Proofs.YteapocgpenokfaaGreatDoor
set_option maxRecDepth 100000
open Go.RowKit

set_option maxHeartbeats 1600000 in
theorem minus_runs {pb b c : Nat} {T : List Tok} {st st1 : Pst} (hT : T.length ≤ 200) (hat : st.at' ≤ 300) (hc : Cls (seeM T st 0)) (hpo : 4 ≠ pb) (HS : RunO pb b c T 86 #[] st st1) : RunO pb b c T 76 #[] st st1 := by
  intro w h hot
  have HOT : Hid (OpTab w) := hot
  have HPP : Hid (∀ {W : World}, PaS W pb b c T st → GrowA pb w W → Calls Tryz.prog 86 #[.pointer (some ⟨pb, 0, none⟩)] W fun e w' => ∃ v, PhV v ∧ e = .returned v ∧ PaS w' pb b c T st1 ∧ GrowA pb W w') := fun {W} h hg => HS h (HOT.out.grow hg hpo)
  clear HS
  have hpl := h.pl
  have hbl := h.bl
  rcases hc with hu | hu | hu | hu
  · skip
    go_enter_defers Tryz.func76, Tryz.ntmps76
    go_upto_region 1 with fail
    obtain ⟨W1, hW1⟩ : ∃ W, W = w.alloc (.cells #[.int .i64 0, .int .i64 0, .int .i64 0, .string ⟨#[]⟩, .string ⟨#[]⟩, .int .i64 0, .int .i64 0, .int .i64 0, .string ⟨#[]⟩, .slice none 0 0, .slice none 0 0] 35) := ⟨_, rfl⟩
    have HG1 : Hid (GrowA pb w W1) := by rw [hW1]; exact (GrowA.refl _ _).alloc _
    have HP1 : Hid (PaS W1 pb b c T st) := by rw [hW1]; exact h.allocI _
    have HR1 : Hid (PhB W1 w.heap.size #[.int .i64 0, .int .i64 0, .int .i64 0, .string ⟨#[]⟩, .string ⟨#[]⟩, .int .i64 0, .int .i64 0, .int .i64 0, .string ⟨#[]⟩, .slice none 0 0, .slice none 0 0]) := by rw [hW1]; exact PhB.new w _
    rw [← hW1]
    obtain ⟨r, hr⟩ : ∃ r, r = w.heap.size := ⟨_, rfl⟩
    have HRW : Hid (w.heap.size ≤ r) := Nat.le_of_eq hr.symm
    have hrp : r ≠ pb := by omega
    have hrb : r ≠ b := by omega
    rw [← hr] at HR1 ⊢
    clear hW1 hr h hpl hbl
    go_wp2_with (first
      | (go_at_call 50; (first | refine (see_lit HP1.out 0 (by omega) hT hat hu).mono ?_ | refine (see_lit (HP1.out.allocI _) 0 (by omega) hT hat hu).mono ?_ | refine (see_lit ((HP1.out.allocI _).allocI _) 0 (by omega) hT hat hu).mono ?_); rintro e w2 ⟨rfl, hb⟩; have HG2 : Hid (GrowA pb w w2) := (by first | exact HG1.out.below hb | exact (HG1.out.alloc _).below hb | exact ((HG1.out.alloc _).alloc _).below hb); have HP2 : Hid (PaS w2 pb b c T st) := (by first | exact HP1.out.below hb | exact (HP1.out.allocI _).below hb | exact ((HP1.out.allocI _).allocI _).below hb); have HR2 : Hid (PhB w2 r #[.int .i64 0, .int .i64 0, .int .i64 0, .string ⟨#[]⟩, .string ⟨#[]⟩, .int .i64 0, .int .i64 0, .int .i64 0, .string ⟨#[]⟩, .slice none 0 0, .slice none 0 0]) := (by first | exact HR1.out.below hb | exact (HR1.out.allocI _).below hb | exact ((HR1.out.allocI _).allocI _).below hb); clear hb HP1 HG1 HR1)
      | (go_at_call 51; have HNX := HP2; refine (mark_is _ _).mono ?_; rintro e w3 ⟨rfl, hb⟩; have HG3 : Hid (GrowA pb w w3) := (by first | exact HG2.out.below hb | exact (HG2.out.alloc _).below hb | exact ((HG2.out.alloc _).alloc _).below hb); have HP3 : Hid (PaS w3 pb b c T st) := (by first | exact HP2.out.below hb | exact (HP2.out.allocI _).below hb | exact ((HP2.out.allocI _).allocI _).below hb); have HR3 : Hid (PhB w3 r #[.int .i64 0, .int .i64 0, .int .i64 0, .string ⟨#[]⟩, .string ⟨#[]⟩, .int .i64 0, .int .i64 0, .int .i64 0, .string ⟨#[]⟩, .slice none 0 0, .slice none 0 0]) := (by first | exact HR2.out.below hb | exact (HR2.out.allocI _).below hb | exact ((HR2.out.allocI _).allocI _).below hb); clear hb HNX HP2 HG2 HR2)
      | (go_at_call 86; (first | refine (HPP.out HP3.out HG3.out).mono ?_ | refine (HPP.out (HP3.out.allocI _) (HG3.out.alloc _)).mono ?_ | refine (HPP.out ((HP3.out.allocI _).allocI _) ((HG3.out.alloc _).alloc _)).mono ?_); rintro e w4 ⟨v, hv, rfl, hp, hg⟩; obtain ⟨k0, k1, k2, k5, k6, k7, s3, s4, s8, a9, a10, l9, c9, l10, c10, rfl⟩ := hv; have HG4 : Hid (GrowA pb w w4) := (by first | exact HG3.out.trans hg | exact (HG3.out.alloc _).trans hg | exact ((HG3.out.alloc _).alloc _).trans hg); have HP4 : Hid (PaS w4 pb b c T st1) := hp; have HR4 : Hid (PhB w4 r #[.int .i64 0, .int .i64 0, .int .i64 0, .string ⟨#[]⟩, .string ⟨#[]⟩, .int .i64 0, .int .i64 0, .int .i64 0, .string ⟨#[]⟩, .slice none 0 0, .slice none 0 0]) := (by first | exact HR3.out.grow hg hrp | exact (HR3.out.allocI _).grow hg hrp | exact ((HR3.out.allocI _).allocI _).grow hg hrp); obtain ⟨⟨y0, y1, y2, y3, y4, y5, y6, y7, y8, y9, y10⟩, z0, z1, z2, z3, z4, z5, z6, z7, z8, z9, z10⟩ := HR4.out.cells; clear hp hg HP3 HG3 HR3))
    refine ⟨.agg #[.int .i64 k0, .int .i64 k1, .int .i64 k2, .string s3, .string s4, .int .i64 k5, .int .i64 k6, .int .i64 k7, .string s8, .slice a9 l9 c9, .slice a10 l10 c10], by simp [results, Tryz.results76, go_sem, y0, y1, y2, y3, y4, y5, y6, y7, y8, y9, y10], ⟨_, PhV.mk, rfl, ?_, ?_⟩⟩
    · (repeat (first | with_reducible refine PaS.setR ?_ hrp hrb _ _ | with_reducible refine PaS.allocI ?_ _ | exact HP4.out))
    · (repeat (first | with_reducible refine GrowA.setR ?_ HRW.out _ _ | with_reducible refine GrowA.alloc ?_ _ | exact HG4.out))
  · skip
    go_enter_defers Tryz.func76, Tryz.ntmps76
    go_upto_region 1 with fail
    obtain ⟨W1, hW1⟩ : ∃ W, W = w.alloc (.cells #[.int .i64 0, .int .i64 0, .int .i64 0, .string ⟨#[]⟩, .string ⟨#[]⟩, .int .i64 0, .int .i64 0, .int .i64 0, .string ⟨#[]⟩, .slice none 0 0, .slice none 0 0] 35) := ⟨_, rfl⟩
    have HG1 : Hid (GrowA pb w W1) := by rw [hW1]; exact (GrowA.refl _ _).alloc _
    have HP1 : Hid (PaS W1 pb b c T st) := by rw [hW1]; exact h.allocI _
    have HR1 : Hid (PhB W1 w.heap.size #[.int .i64 0, .int .i64 0, .int .i64 0, .string ⟨#[]⟩, .string ⟨#[]⟩, .int .i64 0, .int .i64 0, .int .i64 0, .string ⟨#[]⟩, .slice none 0 0, .slice none 0 0]) := by rw [hW1]; exact PhB.new w _
    rw [← hW1]
    obtain ⟨r, hr⟩ : ∃ r, r = w.heap.size := ⟨_, rfl⟩
    have HRW : Hid (w.heap.size ≤ r) := Nat.le_of_eq hr.symm
    have hrp : r ≠ pb := by omega
    have hrb : r ≠ b := by omega
    rw [← hr] at HR1 ⊢
    clear hW1 hr h hpl hbl
    go_wp2_with (first
      | (go_at_call 50; (first | refine (see_lit HP1.out 0 (by omega) hT hat hu).mono ?_ | refine (see_lit (HP1.out.allocI _) 0 (by omega) hT hat hu).mono ?_ | refine (see_lit ((HP1.out.allocI _).allocI _) 0 (by omega) hT hat hu).mono ?_); rintro e w2 ⟨rfl, hb⟩; have HG2 : Hid (GrowA pb w w2) := (by first | exact HG1.out.below hb | exact (HG1.out.alloc _).below hb | exact ((HG1.out.alloc _).alloc _).below hb); have HP2 : Hid (PaS w2 pb b c T st) := (by first | exact HP1.out.below hb | exact (HP1.out.allocI _).below hb | exact ((HP1.out.allocI _).allocI _).below hb); have HR2 : Hid (PhB w2 r #[.int .i64 0, .int .i64 0, .int .i64 0, .string ⟨#[]⟩, .string ⟨#[]⟩, .int .i64 0, .int .i64 0, .int .i64 0, .string ⟨#[]⟩, .slice none 0 0, .slice none 0 0]) := (by first | exact HR1.out.below hb | exact (HR1.out.allocI _).below hb | exact ((HR1.out.allocI _).allocI _).below hb); clear hb HP1 HG1 HR1)
      | (go_at_call 51; have HNX := HP2; refine (mark_is _ _).mono ?_; rintro e w3 ⟨rfl, hb⟩; have HG3 : Hid (GrowA pb w w3) := (by first | exact HG2.out.below hb | exact (HG2.out.alloc _).below hb | exact ((HG2.out.alloc _).alloc _).below hb); have HP3 : Hid (PaS w3 pb b c T st) := (by first | exact HP2.out.below hb | exact (HP2.out.allocI _).below hb | exact ((HP2.out.allocI _).allocI _).below hb); have HR3 : Hid (PhB w3 r #[.int .i64 0, .int .i64 0, .int .i64 0, .string ⟨#[]⟩, .string ⟨#[]⟩, .int .i64 0, .int .i64 0, .int .i64 0, .string ⟨#[]⟩, .slice none 0 0, .slice none 0 0]) := (by first | exact HR2.out.below hb | exact (HR2.out.allocI _).below hb | exact ((HR2.out.allocI _).allocI _).below hb); clear hb HNX HP2 HG2 HR2)
      | (go_at_call 86; (first | refine (HPP.out HP3.out HG3.out).mono ?_ | refine (HPP.out (HP3.out.allocI _) (HG3.out.alloc _)).mono ?_ | refine (HPP.out ((HP3.out.allocI _).allocI _) ((HG3.out.alloc _).alloc _)).mono ?_); rintro e w4 ⟨v, hv, rfl, hp, hg⟩; obtain ⟨k0, k1, k2, k5, k6, k7, s3, s4, s8, a9, a10, l9, c9, l10, c10, rfl⟩ := hv; have HG4 : Hid (GrowA pb w w4) := (by first | exact HG3.out.trans hg | exact (HG3.out.alloc _).trans hg | exact ((HG3.out.alloc _).alloc _).trans hg); have HP4 : Hid (PaS w4 pb b c T st1) := hp; have HR4 : Hid (PhB w4 r #[.int .i64 0, .int .i64 0, .int .i64 0, .string ⟨#[]⟩, .string ⟨#[]⟩, .int .i64 0, .int .i64 0, .int .i64 0, .string ⟨#[]⟩, .slice none 0 0, .slice none 0 0]) := (by first | exact HR3.out.grow hg hrp | exact (HR3.out.allocI _).grow hg hrp | exact ((HR3.out.allocI _).allocI _).grow hg hrp); obtain ⟨⟨y0, y1, y2, y3, y4, y5, y6, y7, y8, y9, y10⟩, z0, z1, z2, z3, z4, z5, z6, z7, z8, z9, z10⟩ := HR4.out.cells; clear hp hg HP3 HG3 HR3))
    refine ⟨.agg #[.int .i64 k0, .int .i64 k1, .int .i64 k2, .string s3, .string s4, .int .i64 k5, .int .i64 k6, .int .i64 k7, .string s8, .slice a9 l9 c9, .slice a10 l10 c10], by simp [results, Tryz.results76, go_sem, y0, y1, y2, y3, y4, y5, y6, y7, y8, y9, y10], ⟨_, PhV.mk, rfl, ?_, ?_⟩⟩
    · (repeat (first | with_reducible refine PaS.setR ?_ hrp hrb _ _ | with_reducible refine PaS.allocI ?_ _ | exact HP4.out))
    · (repeat (first | with_reducible refine GrowA.setR ?_ HRW.out _ _ | with_reducible refine GrowA.alloc ?_ _ | exact HG4.out))
  · skip
    go_enter_defers Tryz.func76, Tryz.ntmps76
    go_upto_region 1 with fail
    obtain ⟨W1, hW1⟩ : ∃ W, W = w.alloc (.cells #[.int .i64 0, .int .i64 0, .int .i64 0, .string ⟨#[]⟩, .string ⟨#[]⟩, .int .i64 0, .int .i64 0, .int .i64 0, .string ⟨#[]⟩, .slice none 0 0, .slice none 0 0] 35) := ⟨_, rfl⟩
    have HG1 : Hid (GrowA pb w W1) := by rw [hW1]; exact (GrowA.refl _ _).alloc _
    have HP1 : Hid (PaS W1 pb b c T st) := by rw [hW1]; exact h.allocI _
    have HR1 : Hid (PhB W1 w.heap.size #[.int .i64 0, .int .i64 0, .int .i64 0, .string ⟨#[]⟩, .string ⟨#[]⟩, .int .i64 0, .int .i64 0, .int .i64 0, .string ⟨#[]⟩, .slice none 0 0, .slice none 0 0]) := by rw [hW1]; exact PhB.new w _
    rw [← hW1]
    obtain ⟨r, hr⟩ : ∃ r, r = w.heap.size := ⟨_, rfl⟩
    have HRW : Hid (w.heap.size ≤ r) := Nat.le_of_eq hr.symm
    have hrp : r ≠ pb := by omega
    have hrb : r ≠ b := by omega
    rw [← hr] at HR1 ⊢
    clear hW1 hr h hpl hbl
    go_wp2_with (first
      | (go_at_call 50; (first | refine (see_lit HP1.out 0 (by omega) hT hat hu).mono ?_ | refine (see_lit (HP1.out.allocI _) 0 (by omega) hT hat hu).mono ?_ | refine (see_lit ((HP1.out.allocI _).allocI _) 0 (by omega) hT hat hu).mono ?_); rintro e w2 ⟨rfl, hb⟩; have HG2 : Hid (GrowA pb w w2) := (by first | exact HG1.out.below hb | exact (HG1.out.alloc _).below hb | exact ((HG1.out.alloc _).alloc _).below hb); have HP2 : Hid (PaS w2 pb b c T st) := (by first | exact HP1.out.below hb | exact (HP1.out.allocI _).below hb | exact ((HP1.out.allocI _).allocI _).below hb); have HR2 : Hid (PhB w2 r #[.int .i64 0, .int .i64 0, .int .i64 0, .string ⟨#[]⟩, .string ⟨#[]⟩, .int .i64 0, .int .i64 0, .int .i64 0, .string ⟨#[]⟩, .slice none 0 0, .slice none 0 0]) := (by first | exact HR1.out.below hb | exact (HR1.out.allocI _).below hb | exact ((HR1.out.allocI _).allocI _).below hb); clear hb HP1 HG1 HR1)
      | (go_at_call 51; have HNX := HP2; refine (mark_is _ _).mono ?_; rintro e w3 ⟨rfl, hb⟩; have HG3 : Hid (GrowA pb w w3) := (by first | exact HG2.out.below hb | exact (HG2.out.alloc _).below hb | exact ((HG2.out.alloc _).alloc _).below hb); have HP3 : Hid (PaS w3 pb b c T st) := (by first | exact HP2.out.below hb | exact (HP2.out.allocI _).below hb | exact ((HP2.out.allocI _).allocI _).below hb); have HR3 : Hid (PhB w3 r #[.int .i64 0, .int .i64 0, .int .i64 0, .string ⟨#[]⟩, .string ⟨#[]⟩, .int .i64 0, .int .i64 0, .int .i64 0, .string ⟨#[]⟩, .slice none 0 0, .slice none 0 0]) := (by first | exact HR2.out.below hb | exact (HR2.out.allocI _).below hb | exact ((HR2.out.allocI _).allocI _).below hb); clear hb HNX HP2 HG2 HR2)
      | (go_at_call 86; (first | refine (HPP.out HP3.out HG3.out).mono ?_ | refine (HPP.out (HP3.out.allocI _) (HG3.out.alloc _)).mono ?_ | refine (HPP.out ((HP3.out.allocI _).allocI _) ((HG3.out.alloc _).alloc _)).mono ?_); rintro e w4 ⟨v, hv, rfl, hp, hg⟩; obtain ⟨k0, k1, k2, k5, k6, k7, s3, s4, s8, a9, a10, l9, c9, l10, c10, rfl⟩ := hv; have HG4 : Hid (GrowA pb w w4) := (by first | exact HG3.out.trans hg | exact (HG3.out.alloc _).trans hg | exact ((HG3.out.alloc _).alloc _).trans hg); have HP4 : Hid (PaS w4 pb b c T st1) := hp; have HR4 : Hid (PhB w4 r #[.int .i64 0, .int .i64 0, .int .i64 0, .string ⟨#[]⟩, .string ⟨#[]⟩, .int .i64 0, .int .i64 0, .int .i64 0, .string ⟨#[]⟩, .slice none 0 0, .slice none 0 0]) := (by first | exact HR3.out.grow hg hrp | exact (HR3.out.allocI _).grow hg hrp | exact ((HR3.out.allocI _).allocI _).grow hg hrp); obtain ⟨⟨y0, y1, y2, y3, y4, y5, y6, y7, y8, y9, y10⟩, z0, z1, z2, z3, z4, z5, z6, z7, z8, z9, z10⟩ := HR4.out.cells; clear hp hg HP3 HG3 HR3))
    refine ⟨.agg #[.int .i64 k0, .int .i64 k1, .int .i64 k2, .string s3, .string s4, .int .i64 k5, .int .i64 k6, .int .i64 k7, .string s8, .slice a9 l9 c9, .slice a10 l10 c10], by simp [results, Tryz.results76, go_sem, y0, y1, y2, y3, y4, y5, y6, y7, y8, y9, y10], ⟨_, PhV.mk, rfl, ?_, ?_⟩⟩
    · (repeat (first | with_reducible refine PaS.setR ?_ hrp hrb _ _ | with_reducible refine PaS.allocI ?_ _ | exact HP4.out))
    · (repeat (first | with_reducible refine GrowA.setR ?_ HRW.out _ _ | with_reducible refine GrowA.alloc ?_ _ | exact HG4.out))
  · skip
    go_enter_defers Tryz.func76, Tryz.ntmps76
    go_upto_region 1 with fail
    obtain ⟨W1, hW1⟩ : ∃ W, W = w.alloc (.cells #[.int .i64 0, .int .i64 0, .int .i64 0, .string ⟨#[]⟩, .string ⟨#[]⟩, .int .i64 0, .int .i64 0, .int .i64 0, .string ⟨#[]⟩, .slice none 0 0, .slice none 0 0] 35) := ⟨_, rfl⟩
    have HG1 : Hid (GrowA pb w W1) := by rw [hW1]; exact (GrowA.refl _ _).alloc _
    have HP1 : Hid (PaS W1 pb b c T st) := by rw [hW1]; exact h.allocI _
    have HR1 : Hid (PhB W1 w.heap.size #[.int .i64 0, .int .i64 0, .int .i64 0, .string ⟨#[]⟩, .string ⟨#[]⟩, .int .i64 0, .int .i64 0, .int .i64 0, .string ⟨#[]⟩, .slice none 0 0, .slice none 0 0]) := by rw [hW1]; exact PhB.new w _
    rw [← hW1]
    obtain ⟨r, hr⟩ : ∃ r, r = w.heap.size := ⟨_, rfl⟩
    have HRW : Hid (w.heap.size ≤ r) := Nat.le_of_eq hr.symm
    have hrp : r ≠ pb := by omega
    have hrb : r ≠ b := by omega
    rw [← hr] at HR1 ⊢
    clear hW1 hr h hpl hbl
    go_wp2_with (first
      | (go_at_call 50; (first | refine (see_lit HP1.out 0 (by omega) hT hat hu).mono ?_ | refine (see_lit (HP1.out.allocI _) 0 (by omega) hT hat hu).mono ?_ | refine (see_lit ((HP1.out.allocI _).allocI _) 0 (by omega) hT hat hu).mono ?_); rintro e w2 ⟨rfl, hb⟩; have HG2 : Hid (GrowA pb w w2) := (by first | exact HG1.out.below hb | exact (HG1.out.alloc _).below hb | exact ((HG1.out.alloc _).alloc _).below hb); have HP2 : Hid (PaS w2 pb b c T st) := (by first | exact HP1.out.below hb | exact (HP1.out.allocI _).below hb | exact ((HP1.out.allocI _).allocI _).below hb); have HR2 : Hid (PhB w2 r #[.int .i64 0, .int .i64 0, .int .i64 0, .string ⟨#[]⟩, .string ⟨#[]⟩, .int .i64 0, .int .i64 0, .int .i64 0, .string ⟨#[]⟩, .slice none 0 0, .slice none 0 0]) := (by first | exact HR1.out.below hb | exact (HR1.out.allocI _).below hb | exact ((HR1.out.allocI _).allocI _).below hb); clear hb HP1 HG1 HR1)
      | (go_at_call 51; have HNX := HP2; refine (mark_is _ _).mono ?_; rintro e w3 ⟨rfl, hb⟩; have HG3 : Hid (GrowA pb w w3) := (by first | exact HG2.out.below hb | exact (HG2.out.alloc _).below hb | exact ((HG2.out.alloc _).alloc _).below hb); have HP3 : Hid (PaS w3 pb b c T st) := (by first | exact HP2.out.below hb | exact (HP2.out.allocI _).below hb | exact ((HP2.out.allocI _).allocI _).below hb); have HR3 : Hid (PhB w3 r #[.int .i64 0, .int .i64 0, .int .i64 0, .string ⟨#[]⟩, .string ⟨#[]⟩, .int .i64 0, .int .i64 0, .int .i64 0, .string ⟨#[]⟩, .slice none 0 0, .slice none 0 0]) := (by first | exact HR2.out.below hb | exact (HR2.out.allocI _).below hb | exact ((HR2.out.allocI _).allocI _).below hb); clear hb HNX HP2 HG2 HR2)
      | (go_at_call 86; (first | refine (HPP.out HP3.out HG3.out).mono ?_ | refine (HPP.out (HP3.out.allocI _) (HG3.out.alloc _)).mono ?_ | refine (HPP.out ((HP3.out.allocI _).allocI _) ((HG3.out.alloc _).alloc _)).mono ?_); rintro e w4 ⟨v, hv, rfl, hp, hg⟩; obtain ⟨k0, k1, k2, k5, k6, k7, s3, s4, s8, a9, a10, l9, c9, l10, c10, rfl⟩ := hv; have HG4 : Hid (GrowA pb w w4) := (by first | exact HG3.out.trans hg | exact (HG3.out.alloc _).trans hg | exact ((HG3.out.alloc _).alloc _).trans hg); have HP4 : Hid (PaS w4 pb b c T st1) := hp; have HR4 : Hid (PhB w4 r #[.int .i64 0, .int .i64 0, .int .i64 0, .string ⟨#[]⟩, .string ⟨#[]⟩, .int .i64 0, .int .i64 0, .int .i64 0, .string ⟨#[]⟩, .slice none 0 0, .slice none 0 0]) := (by first | exact HR3.out.grow hg hrp | exact (HR3.out.allocI _).grow hg hrp | exact ((HR3.out.allocI _).allocI _).grow hg hrp); obtain ⟨⟨y0, y1, y2, y3, y4, y5, y6, y7, y8, y9, y10⟩, z0, z1, z2, z3, z4, z5, z6, z7, z8, z9, z10⟩ := HR4.out.cells; clear hp hg HP3 HG3 HR3))
    refine ⟨.agg #[.int .i64 k0, .int .i64 k1, .int .i64 k2, .string s3, .string s4, .int .i64 k5, .int .i64 k6, .int .i64 k7, .string s8, .slice a9 l9 c9, .slice a10 l10 c10], by simp [results, Tryz.results76, go_sem, y0, y1, y2, y3, y4, y5, y6, y7, y8, y9, y10], ⟨_, PhV.mk, rfl, ?_, ?_⟩⟩
    · (repeat (first | with_reducible refine PaS.setR ?_ hrp hrb _ _ | with_reducible refine PaS.allocI ?_ _ | exact HP4.out))
    · (repeat (first | with_reducible refine GrowA.setR ?_ HRW.out _ _ | with_reducible refine GrowA.alloc ?_ _ | exact HG4.out))
end Go.Proofs.YteapocgpenokfaaGreatDoor
