/-
  THE PARSER's listUpTo, bareStep, path, minus, where only four tokens are seen.
-/
import Derived.Test.YteapocgpenokfaaGreatDoorPaRecA
set_option linter.unusedVariables false
namespace Go.Proofs.YteapocgpenokfaaGreatDoor
set_option maxRecDepth 100000
open Go.RowKit

set_option maxHeartbeats 1600000 in
theorem listUpTo_runs {pb b c : Nat} {T : List Tok} {st st1 : Pst} (hT : T.length ≤ 200) (hat : st.at' ≤ 300) (hat1 : st1.at' ≤ 300) (hu : eqT (seeM T st 0) ⟨5, ⟨#[41]⟩, 0⟩ = false) (hpo : 4 ≠ pb) (HL : RunO pb b c T 17 #[] st st1) : RunO pb b c T 101 #[.agg #[.int .i64 5, .string ⟨#[41]⟩, .int .i64 0]] st (wantM T st1 rpT) := by
  intro w h hot
  have HOT : Hid (OpTab w) := hot
  have HLL : Hid (∀ {W : World}, PaS W pb b c T st → GrowA pb w W → Calls Tryz.prog 17 #[.pointer (some ⟨pb, 0, none⟩)] W fun e w' => ∃ v, PhV v ∧ e = .returned v ∧ PaS w' pb b c T st1 ∧ GrowA pb W w') := fun {W} h hg => HL h (HOT.out.grow hg hpo)
  clear HL
  have hpl := h.pl
  have hbl := h.bl
  go_enter Tryz.func101, Tryz.ntmps101
  go_upto_region 1 with fail
  obtain ⟨W1, hW1⟩ : ∃ W, W = (w.alloc (.cells #[.int .i64 5, .string ⟨#[41]⟩, .int .i64 0] 41)).alloc (.cells #[.int .i64 0, .int .i64 0, .int .i64 0, .string ⟨#[]⟩, .string ⟨#[]⟩, .int .i64 0, .int .i64 0, .int .i64 0, .string ⟨#[]⟩, .slice none 0 0, .slice none 0 0] 35) := ⟨_, rfl⟩
  have HG1 : Hid (GrowA pb w W1) := by rw [hW1]; exact ((GrowA.refl _ _).alloc _).alloc _
  have HP1 : Hid (PaS W1 pb b c T st) := by rw [hW1]; exact (h.allocI _).allocI _
  have HR1 : Hid (PhB W1 (w.heap.size + 1) #[.int .i64 0, .int .i64 0, .int .i64 0, .string ⟨#[]⟩, .string ⟨#[]⟩, .int .i64 0, .int .i64 0, .int .i64 0, .string ⟨#[]⟩, .slice none 0 0, .slice none 0 0]) := by
    have k := PhB.new (w.alloc (.cells #[.int .i64 5, .string ⟨#[41]⟩, .int .i64 0] 41)) #[.int .i64 0, .int .i64 0, .int .i64 0, .string ⟨#[]⟩, .string ⟨#[]⟩, .int .i64 0, .int .i64 0, .int .i64 0, .string ⟨#[]⟩, .slice none 0 0, .slice none 0 0]
    rw [show (w.alloc (.cells #[.int .i64 5, .string ⟨#[41]⟩, .int .i64 0] 41)).heap.size = w.heap.size + 1 by simp] at k
    rw [hW1]; exact k
  have HY1 : Hid (TkB W1 w.heap.size #[.int .i64 5, .string ⟨#[41]⟩, .int .i64 0]) := by rw [hW1]; exact (TkB.new w _).allocI _
  rw [← hW1]
  obtain ⟨r, hr⟩ : ∃ r, r = w.heap.size + 1 := ⟨_, rfl⟩
  have HRW : Hid (w.heap.size ≤ r) := show w.heap.size ≤ r by omega
  have hrp : r ≠ pb := by omega
  have htp : w.heap.size ≠ pb := by omega
  obtain ⟨d0, d1, d2⟩ := HY1.out.cells
  have hrb : r ≠ b := by omega
  rw [← hr] at HR1 ⊢
  clear hW1 hr h hpl hbl
  go_wp2_with (first
    | (go_at_call 54; (first | refine (skip_no HP1.out hT hat _ _ _ hu).mono ?_ | refine (skip_no (HP1.out.allocI _) hT hat _ _ _ hu).mono ?_ | refine (skip_no ((HP1.out.allocI _).allocI _) hT hat _ _ _ hu).mono ?_); rintro e w2 ⟨rfl, hp, hg⟩; have HG2 : Hid (GrowA pb w w2) := (by first | exact HG1.out.trans hg | exact (HG1.out.alloc _).trans hg | exact ((HG1.out.alloc _).alloc _).trans hg); have HP2 : Hid (PaS w2 pb b c T st) := hp; have HR2 : Hid (PhB w2 r #[.int .i64 0, .int .i64 0, .int .i64 0, .string ⟨#[]⟩, .string ⟨#[]⟩, .int .i64 0, .int .i64 0, .int .i64 0, .string ⟨#[]⟩, .slice none 0 0, .slice none 0 0]) := (by first | exact HR1.out.grow hg hrp | exact (HR1.out.allocI _).grow hg hrp | exact ((HR1.out.allocI _).allocI _).grow hg hrp); have HY2 : Hid (TkB w2 w.heap.size #[.int .i64 5, .string ⟨#[41]⟩, .int .i64 0]) := (by first | exact HY1.out.grow hg htp | exact (HY1.out.allocI _).grow hg htp | exact ((HY1.out.allocI _).allocI _).grow hg htp); clear d0 d1 d2; clear hp hg HP1 HG1 HR1 HY1)
    | (go_at_call 17; (first | refine (HLL.out HP2.out HG2.out).mono ?_ | refine (HLL.out (HP2.out.allocI _) (HG2.out.alloc _)).mono ?_ | refine (HLL.out ((HP2.out.allocI _).allocI _) ((HG2.out.alloc _).alloc _)).mono ?_); rintro e w3 ⟨v, hv, rfl, hp, hg⟩; obtain ⟨k0, k1, k2, k5, k6, k7, s3, s4, s8, a9, a10, l9, c9, l10, c10, rfl⟩ := hv; have HG3 : Hid (GrowA pb w w3) := (by first | exact HG2.out.trans hg | exact (HG2.out.alloc _).trans hg | exact ((HG2.out.alloc _).alloc _).trans hg); have HP3 : Hid (PaS w3 pb b c T st1) := hp; have HR3 : Hid (PhB w3 r #[.int .i64 0, .int .i64 0, .int .i64 0, .string ⟨#[]⟩, .string ⟨#[]⟩, .int .i64 0, .int .i64 0, .int .i64 0, .string ⟨#[]⟩, .slice none 0 0, .slice none 0 0]) := (by first | exact HR2.out.grow hg hrp | exact (HR2.out.allocI _).grow hg hrp | exact ((HR2.out.allocI _).allocI _).grow hg hrp); have HY3 : Hid (TkB w3 w.heap.size #[.int .i64 5, .string ⟨#[41]⟩, .int .i64 0]) := (by first | exact HY2.out.grow hg htp | exact (HY2.out.allocI _).grow hg htp | exact ((HY2.out.allocI _).allocI _).grow hg htp); obtain ⟨e0, e1, e2⟩ := HY3.out.cells; have hy3 := HY3.out.lt; have hxp : w3.heap.size ≠ pb := (by have := HP3.out.pl; omega); clear hp hg HP2 HG2 HR2 HY2)
    | (go_at_call 74; (first | refine (want_is HP3.out rpT hT hat1).mono ?_ | refine (want_is (HP3.out.allocI _) rpT hT hat1).mono ?_ | refine (want_is ((HP3.out.allocI _).allocI _) rpT hT hat1).mono ?_); rintro e w4 ⟨rfl, hp, hg⟩; have HG4 : Hid (GrowA pb w w4) := (by first | exact HG3.out.trans hg | exact (HG3.out.alloc _).trans hg | exact ((HG3.out.alloc _).alloc _).trans hg); have HP4 : Hid (PaS w4 pb b c T (wantM T st1 rpT)) := hp; have HR4 : Hid (PhB w4 r #[.int .i64 0, .int .i64 0, .int .i64 0, .string ⟨#[]⟩, .string ⟨#[]⟩, .int .i64 0, .int .i64 0, .int .i64 0, .string ⟨#[]⟩, .slice none 0 0, .slice none 0 0]) := (by first | exact HR3.out.grow hg hrp | exact (HR3.out.allocI _).grow hg hrp | exact ((HR3.out.allocI _).allocI _).grow hg hrp); have HY4 : Hid (TkB w4 w.heap.size #[.int .i64 5, .string ⟨#[41]⟩, .int .i64 0]) := (by first | exact HY3.out.grow hg htp | exact (HY3.out.allocI _).grow hg htp | exact ((HY3.out.allocI _).allocI _).grow hg htp); have HX4 : Hid (PhB w4 w3.heap.size #[.int .i64 k0, .int .i64 k1, .int .i64 k2, .string s3, .string s4, .int .i64 k5, .int .i64 k6, .int .i64 k7, .string s8, .slice a9 l9 c9, .slice a10 l10 c10]) := (PhB.new w3 #[.int .i64 k0, .int .i64 k1, .int .i64 k2, .string s3, .string s4, .int .i64 k5, .int .i64 k6, .int .i64 k7, .string s8, .slice a9 l9 c9, .slice a10 l10 c10]).grow hg hxp; obtain ⟨⟨y0, y1, y2, y3, y4, y5, y6, y7, y8, y9, y10⟩, z0, z1, z2, z3, z4, z5, z6, z7, z8, z9, z10⟩ := HR4.out.cells; obtain ⟨⟨m0, m1, m2, m3, m4, m5, m6, m7, m8, m9, m10⟩, j0, j1, j2, j3, j4, j5, j6, j7, j8, j9, j10⟩ := HX4.out.cells; clear hp hg HP3 HG3 HR3 HY3))
  refine bodyPost_ret (v := .agg #[.int .i64 k0, .int .i64 k1, .int .i64 k2, .string s3, .string s4, .int .i64 k5, .int .i64 k6, .int .i64 k7, .string s8, .slice a9 l9 c9, .slice a10 l10 c10]) (by simp [results, Tryz.results101, go_sem, y0, y1, y2, y3, y4, y5, y6, y7, y8, y9, y10]) rfl ⟨_, PhV.mk, rfl, ?_, ?_⟩
  · (repeat (first | with_reducible refine PaS.setR ?_ hrp hrb _ _ | with_reducible refine PaS.allocI ?_ _ | exact HP4.out))
  · (repeat (first | with_reducible refine GrowA.setR ?_ HRW.out _ _ | with_reducible refine GrowA.alloc ?_ _ | exact HG4.out))
theorem HidOf {p : Prop} (h : p) : Hid p := h
theorem field_kind (k n : Int) (s : ByteArray) (W : World) : Sem.run Tryz.prog (Instr.field 41 (.agg #[.int .i64 k, .string s, .int .i64 n]) 0) W = .ok (.int .i64 k) W := by
  first
    | rfl
    | simp [Instr.field, run_underlying Tryz.underlying41, go_sem]
set_option maxHeartbeats 1600000 in
theorem bareStep_runs {pb b c : Nat} {T : List Tok} {st st1 : Pst} (hT : T.length ≤ 200) (hat : st.at' ≤ 300) (hc : Cls (seeM T st 0)) (hpo : 4 ≠ pb) (HN : RunO pb b c T 97 #[] st st1) : RunO pb b c T 93 #[] st st1 := by
  intro w h hot
  have HOT : Hid (OpTab w) := hot
  have HNN : Hid (∀ {W : World}, PaS W pb b c T st → GrowA pb w W → Calls Tryz.prog 97 #[.pointer (some ⟨pb, 0, none⟩)] W fun e w' => ∃ v, PhV v ∧ e = .returned v ∧ PaS w' pb b c T st1 ∧ GrowA pb W w') := fun {W} h hg => HN h (HOT.out.grow hg hpo)
  obtain ⟨⟨uk, us, un⟩, hu⟩ : ∃ u, seeM T st 0 = u := ⟨_, rfl⟩
  have HU : Hid (seeM T st 0 = ⟨uk, us, un⟩) := hu
  have HCL := HidOf (cls_no hc)
  have HC : Hid (Cls (seeM T st 0)) := hc
  have hk1 : (uk == 1) = false := by have k := (cls_no hc).1; rw [hu] at k; exact k
  have hfk := field_kind
  clear hu hc
  clear HN
  have hpl := h.pl
  have hbl := h.bl
  go_enter Tryz.func93, Tryz.ntmps93
  go_upto_region 1 with fail
  obtain ⟨W1, hW1⟩ : ∃ W, W = w.alloc (.cells #[.int .i64 0, .int .i64 0, .int .i64 0, .string ⟨#[]⟩, .string ⟨#[]⟩, .int .i64 0, .int .i64 0, .int .i64 0, .string ⟨#[]⟩, .slice none 0 0, .slice none 0 0] 35) := ⟨_, rfl⟩
  have HG1 : Hid (GrowA pb w W1) := by rw [hW1]; exact (GrowA.refl _ _).alloc _
  have HP1 : Hid (PaS W1 pb b c T st) := by rw [hW1]; exact h.allocI _
  have HR1 : Hid (PhB W1 w.heap.size #[.int .i64 0, .int .i64 0, .int .i64 0, .string ⟨#[]⟩, .string ⟨#[]⟩, .int .i64 0, .int .i64 0, .int .i64 0, .string ⟨#[]⟩, .slice none 0 0, .slice none 0 0]) := by rw [hW1]; exact PhB.new w _
  rw [← hW1]
  obtain ⟨r, hr⟩ : ∃ r, r = w.heap.size := ⟨_, rfl⟩
  have HRW : Hid (w.heap.size ≤ r) := Nat.le_of_eq hr.symm
  have hrp : r ≠ pb := by omega
  have hrb : r ≠ b := by omega
  rw [← hr] at HR1 ⊢
  clear hW1 hr h hpl hbl
  go_wp2_with (first
    | (go_at_call 50; (first | refine (see_lit HP1.out 0 (by omega) hT hat HU.out).mono ?_ | refine (see_lit (HP1.out.allocI _) 0 (by omega) hT hat HU.out).mono ?_ | refine (see_lit ((HP1.out.allocI _).allocI _) 0 (by omega) hT hat HU.out).mono ?_); rintro e w2 ⟨rfl, hb⟩; have HG2 : Hid (GrowA pb w w2) := (by first | exact HG1.out.below hb | exact (HG1.out.alloc _).below hb | exact ((HG1.out.alloc _).alloc _).below hb); have HP2 : Hid (PaS w2 pb b c T st) := (by first | exact HP1.out.below hb | exact (HP1.out.allocI _).below hb | exact ((HP1.out.allocI _).allocI _).below hb); have HR2 : Hid (PhB w2 r #[.int .i64 0, .int .i64 0, .int .i64 0, .string ⟨#[]⟩, .string ⟨#[]⟩, .int .i64 0, .int .i64 0, .int .i64 0, .string ⟨#[]⟩, .slice none 0 0, .slice none 0 0]) := (by first | exact HR1.out.below hb | exact (HR1.out.allocI _).below hb | exact ((HR1.out.allocI _).allocI _).below hb); clear hb HP1 HG1 HR1)
    | (go_at_call 51; have HNX := HP2; refine (mark_is _ _).mono ?_; rintro e w3 ⟨rfl, hb⟩; have HG3 : Hid (GrowA pb w w3) := (by first | exact HG2.out.below hb | exact (HG2.out.alloc _).below hb | exact ((HG2.out.alloc _).alloc _).below hb); have HP3 : Hid (PaS w3 pb b c T st) := (by first | exact HP2.out.below hb | exact (HP2.out.allocI _).below hb | exact ((HP2.out.allocI _).allocI _).below hb); have HR3 : Hid (PhB w3 r #[.int .i64 0, .int .i64 0, .int .i64 0, .string ⟨#[]⟩, .string ⟨#[]⟩, .int .i64 0, .int .i64 0, .int .i64 0, .string ⟨#[]⟩, .slice none 0 0, .slice none 0 0]) := (by first | exact HR2.out.below hb | exact (HR2.out.allocI _).below hb | exact ((HR2.out.allocI _).allocI _).below hb); clear hb HNX HP2 HG2 HR2)
    | (go_at_call 54; (first | refine (skip_no HP3.out hT hat _ _ _ HCL.out.2.2.1).mono ?_ | refine (skip_no (HP3.out.allocI _) hT hat _ _ _ HCL.out.2.2.1).mono ?_ | refine (skip_no ((HP3.out.allocI _).allocI _) hT hat _ _ _ HCL.out.2.2.1).mono ?_); rintro e w4 ⟨rfl, hp, hg⟩; have HG4 : Hid (GrowA pb w w4) := (by first | exact HG3.out.trans hg | exact (HG3.out.alloc _).trans hg | exact ((HG3.out.alloc _).alloc _).trans hg); have HP4 : Hid (PaS w4 pb b c T st) := hp; have HR4 : Hid (PhB w4 r #[.int .i64 0, .int .i64 0, .int .i64 0, .string ⟨#[]⟩, .string ⟨#[]⟩, .int .i64 0, .int .i64 0, .int .i64 0, .string ⟨#[]⟩, .slice none 0 0, .slice none 0 0]) := (by first | exact HR3.out.grow hg hrp | exact (HR3.out.allocI _).grow hg hrp | exact ((HR3.out.allocI _).allocI _).grow hg hrp); clear hp hg HP3 HG3 HR3)
    | (go_at_call 51; have HNX := HP4; refine (mark_is _ _).mono ?_; rintro e w5 ⟨rfl, hb⟩; have HG5 : Hid (GrowA pb w w5) := (by first | exact HG4.out.below hb | exact (HG4.out.alloc _).below hb | exact ((HG4.out.alloc _).alloc _).below hb); have HP5 : Hid (PaS w5 pb b c T st) := (by first | exact HP4.out.below hb | exact (HP4.out.allocI _).below hb | exact ((HP4.out.allocI _).allocI _).below hb); have HR5 : Hid (PhB w5 r #[.int .i64 0, .int .i64 0, .int .i64 0, .string ⟨#[]⟩, .string ⟨#[]⟩, .int .i64 0, .int .i64 0, .int .i64 0, .string ⟨#[]⟩, .slice none 0 0, .slice none 0 0]) := (by first | exact HR4.out.below hb | exact (HR4.out.allocI _).below hb | exact ((HR4.out.allocI _).allocI _).below hb); clear hb HNX HP4 HG4 HR4)
    | (go_at_call 54; (first | refine (skip_no HP5.out hT hat _ _ _ HCL.out.2.2.2.1).mono ?_ | refine (skip_no (HP5.out.allocI _) hT hat _ _ _ HCL.out.2.2.2.1).mono ?_ | refine (skip_no ((HP5.out.allocI _).allocI _) hT hat _ _ _ HCL.out.2.2.2.1).mono ?_); rintro e w6 ⟨rfl, hp, hg⟩; have HG6 : Hid (GrowA pb w w6) := (by first | exact HG5.out.trans hg | exact (HG5.out.alloc _).trans hg | exact ((HG5.out.alloc _).alloc _).trans hg); have HP6 : Hid (PaS w6 pb b c T st) := hp; have HR6 : Hid (PhB w6 r #[.int .i64 0, .int .i64 0, .int .i64 0, .string ⟨#[]⟩, .string ⟨#[]⟩, .int .i64 0, .int .i64 0, .int .i64 0, .string ⟨#[]⟩, .slice none 0 0, .slice none 0 0]) := (by first | exact HR5.out.grow hg hrp | exact (HR5.out.allocI _).grow hg hrp | exact ((HR5.out.allocI _).allocI _).grow hg hrp); clear hp hg HP5 HG5 HR5)
    | (go_at_call 96; (first | refine (childBegins_is HP6.out hT hat HC.out).mono ?_ | refine (childBegins_is (HP6.out.allocI _) hT hat HC.out).mono ?_ | refine (childBegins_is ((HP6.out.allocI _).allocI _) hT hat HC.out).mono ?_); rintro e w7 ⟨rfl, hb⟩; have HG7 : Hid (GrowA pb w w7) := (by first | exact HG6.out.below hb | exact (HG6.out.alloc _).below hb | exact ((HG6.out.alloc _).alloc _).below hb); have HP7 : Hid (PaS w7 pb b c T st) := (by first | exact HP6.out.below hb | exact (HP6.out.allocI _).below hb | exact ((HP6.out.allocI _).allocI _).below hb); have HR7 : Hid (PhB w7 r #[.int .i64 0, .int .i64 0, .int .i64 0, .string ⟨#[]⟩, .string ⟨#[]⟩, .int .i64 0, .int .i64 0, .int .i64 0, .string ⟨#[]⟩, .slice none 0 0, .slice none 0 0]) := (by first | exact HR6.out.below hb | exact (HR6.out.allocI _).below hb | exact ((HR6.out.allocI _).allocI _).below hb); clear hb HP6 HG6 HR6)
    | (go_at_call 97; (first | refine (HNN.out HP7.out HG7.out).mono ?_ | refine (HNN.out (HP7.out.allocI _) (HG7.out.alloc _)).mono ?_ | refine (HNN.out ((HP7.out.allocI _).allocI _) ((HG7.out.alloc _).alloc _)).mono ?_); rintro e w8 ⟨v, hv, rfl, hp, hg⟩; obtain ⟨k0, k1, k2, k5, k6, k7, s3, s4, s8, a9, a10, l9, c9, l10, c10, rfl⟩ := hv; have HG8 : Hid (GrowA pb w w8) := (by first | exact HG7.out.trans hg | exact (HG7.out.alloc _).trans hg | exact ((HG7.out.alloc _).alloc _).trans hg); have HP8 : Hid (PaS w8 pb b c T st1) := hp; have HR8 : Hid (PhB w8 r #[.int .i64 0, .int .i64 0, .int .i64 0, .string ⟨#[]⟩, .string ⟨#[]⟩, .int .i64 0, .int .i64 0, .int .i64 0, .string ⟨#[]⟩, .slice none 0 0, .slice none 0 0]) := (by first | exact HR7.out.grow hg hrp | exact (HR7.out.allocI _).grow hg hrp | exact ((HR7.out.allocI _).allocI _).grow hg hrp); obtain ⟨⟨y0, y1, y2, y3, y4, y5, y6, y7, y8, y9, y10⟩, z0, z1, z2, z3, z4, z5, z6, z7, z8, z9, z10⟩ := HR8.out.cells; clear hp hg HP7 HG7 HR7))
  refine bodyPost_ret (v := .agg #[.int .i64 k0, .int .i64 k1, .int .i64 k2, .string s3, .string s4, .int .i64 k5, .int .i64 k6, .int .i64 k7, .string s8, .slice a9 l9 c9, .slice a10 l10 c10]) (by simp [results, Tryz.results93, go_sem, y0, y1, y2, y3, y4, y5, y6, y7, y8, y9, y10]) rfl ⟨_, PhV.mk, rfl, ?_, ?_⟩
  · (repeat (first | with_reducible refine PaS.setR ?_ hrp hrb _ _ | with_reducible refine PaS.allocI ?_ _ | exact HP8.out))
  · (repeat (first | with_reducible refine GrowA.setR ?_ HRW.out _ _ | with_reducible refine GrowA.alloc ?_ _ | exact HG8.out))
end Go.Proofs.YteapocgpenokfaaGreatDoor
