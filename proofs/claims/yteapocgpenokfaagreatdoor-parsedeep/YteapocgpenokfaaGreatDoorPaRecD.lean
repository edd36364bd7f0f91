/-
  THE PARSER's binary, single, where only four tokens are seen.
-/
import Derived.Test.YteapocgpenokfaaGreatDoorPaRecM
set_option linter.unusedVariables false
namespace Go.Proofs.YteapocgpenokfaaGreatDoor
set_option maxRecDepth 100000
open Go.RowKit

theorem OpTab.allocI {w : World} (h : OpTab w) (o : Obj) : OpTab (w.alloc o) := h.below ((Below.refl _ _).alloc (Nat.le_refl _) o)
set_option maxHeartbeats 1600000 in
theorem binary_top {pb b c : Nat} {T : List Tok} {st st1 : Pst} (hpo : 4 ≠ pb) (HS : RunO pb b c T 76 #[] st st1) : RunO pb b c T 67 #[.int .i64 8] st st1 := by
  intro w h hot
  have HOT : Hid (OpTab w) := hot
  have HMM : Hid (∀ {W : World}, PaS W pb b c T st → GrowA pb w W → Calls Tryz.prog 76 #[.pointer (some ⟨pb, 0, none⟩)] W fun e w' => ∃ v, PhV v ∧ e = .returned v ∧ PaS w' pb b c T st1 ∧ GrowA pb W w') := fun {W} h hg => HS h (HOT.out.grow hg hpo)
  clear HS
  have hpl := h.pl
  have hbl := h.bl
  go_enter Tryz.func67, Tryz.ntmps67
  go_upto_region 1 with fail
  obtain ⟨W1, hW1⟩ : ∃ W, W = w.alloc (.cells #[.int .i64 0, .int .i64 0, .int .i64 0, .string ⟨#[]⟩, .string ⟨#[]⟩, .int .i64 0, .int .i64 0, .int .i64 0, .string ⟨#[]⟩, .slice none 0 0, .slice none 0 0] 35) := ⟨_, rfl⟩
  have HG1 : Hid (GrowA pb w W1) := by rw [hW1]; exact (GrowA.refl _ _).alloc _
  have HP1 : Hid (PaS W1 pb b c T st) := by rw [hW1]; exact h.allocI _
  have HR1 : Hid (PhB W1 w.heap.size #[.int .i64 0, .int .i64 0, .int .i64 0, .string ⟨#[]⟩, .string ⟨#[]⟩, .int .i64 0, .int .i64 0, .int .i64 0, .string ⟨#[]⟩, .slice none 0 0, .slice none 0 0]) := by rw [hW1]; exact PhB.new w _
  rw [← hW1]
  obtain ⟨r, hr⟩ : ∃ r, r = w.heap.size := ⟨_, rfl⟩
  have HRW : Hid (w.heap.size ≤ r) := Nat.le_of_eq hr.symm
  have hrp : r ≠ pb := by omega
  have hrb : r ≠ b := by omega
  rw [← hr] at HR1 ⊢
  clear hW1 hr h hpl hbl
  go_wp2_with (first
    | (go_at_call 76; (first | refine (HMM.out HP1.out HG1.out).mono ?_ | refine (HMM.out (HP1.out.allocI _) (HG1.out.alloc _)).mono ?_ | refine (HMM.out ((HP1.out.allocI _).allocI _) ((HG1.out.alloc _).alloc _)).mono ?_); rintro e w2 ⟨v, hv, rfl, hp, hg⟩; obtain ⟨k0, k1, k2, k5, k6, k7, s3, s4, s8, a9, a10, l9, c9, l10, c10, rfl⟩ := hv; have HG2 : Hid (GrowA pb w w2) := (by first | exact HG1.out.trans hg | exact (HG1.out.alloc _).trans hg | exact ((HG1.out.alloc _).alloc _).trans hg); have HP2 : Hid (PaS w2 pb b c T st1) := hp; have HR2 : Hid (PhB w2 r #[.int .i64 0, .int .i64 0, .int .i64 0, .string ⟨#[]⟩, .string ⟨#[]⟩, .int .i64 0, .int .i64 0, .int .i64 0, .string ⟨#[]⟩, .slice none 0 0, .slice none 0 0]) := (by first | exact HR1.out.grow hg hrp | exact (HR1.out.allocI _).grow hg hrp | exact ((HR1.out.allocI _).allocI _).grow hg hrp); obtain ⟨⟨y0, y1, y2, y3, y4, y5, y6, y7, y8, y9, y10⟩, z0, z1, z2, z3, z4, z5, z6, z7, z8, z9, z10⟩ := HR2.out.cells; clear hp hg HP1 HG1 HR1))
  refine bodyPost_ret (v := .agg #[.int .i64 k0, .int .i64 k1, .int .i64 k2, .string s3, .string s4, .int .i64 k5, .int .i64 k6, .int .i64 k7, .string s8, .slice a9 l9 c9, .slice a10 l10 c10]) (by simp [results, Tryz.results67, go_sem, y0, y1, y2, y3, y4, y5, y6, y7, y8, y9, y10]) rfl ⟨_, PhV.mk, rfl, ?_, ?_⟩
  · (repeat (first | with_reducible refine PaS.setR ?_ hrp hrb _ _ | with_reducible refine PaS.allocI ?_ _ | exact HP2.out))
  · (repeat (first | with_reducible refine GrowA.setR ?_ HRW.out _ _ | with_reducible refine GrowA.alloc ?_ _ | exact HG2.out))
set_option maxHeartbeats 1600000 in
theorem binary_more {pb b c bd : Nat} {T : List Tok} {st st1 : Pst} (hT : T.length ≤ 200) (hat1 : st1.at' ≤ 300) (hc1 : Cls (seeM T st1 0)) (hbd : bd < 8) {w : World} (h : PaS w pb b c T st) (hot : OpTab w) (hpo : 4 ≠ pb) (HS : ∀ {w : World}, PaS w pb b c T st → OpTab w → Calls Tryz.prog 67 #[.pointer (some ⟨pb, 0, none⟩), .int .i64 ((bd + 1 : Nat) : Int)] w fun e w' => ∃ v, PhV v ∧ e = .returned v ∧ PaS w' pb b c T st1 ∧ GrowA pb w w') : Calls Tryz.prog 67 #[.pointer (some ⟨pb, 0, none⟩), .int .i64 bd] w fun e w' => ∃ v, PhV v ∧ e = .returned v ∧ PaS w' pb b c T st1 ∧ GrowA pb w w' := by
  have HOT : Hid (OpTab w) := hot
  have HBB : Hid (∀ {W : World}, PaS W pb b c T st → GrowA pb w W → Calls Tryz.prog 67 #[.pointer (some ⟨pb, 0, none⟩), .int .i64 ((bd + 1 : Nat) : Int)] W fun e w' => ∃ v, PhV v ∧ e = .returned v ∧ PaS w' pb b c T st1 ∧ GrowA pb W w') := fun {W} h hg => HS h (HOT.out.grow hg hpo)
  have HON : Hid (∀ {W : World}, PaS W pb b c T st1 → OpTab W → Calls Tryz.prog 77 #[.pointer (some ⟨pb, 0, none⟩), .int .i64 bd] W fun e w' => e = .returned (.bool false) ∧ Below W.heap.size W w') := fun {W} h ho => operatorNext_is h hT hat1 hc1 bd ho
  have hwr : IntKind.i64.wrap ((bd : Int) + 1) = ((bd + 1 : Nat) : Int) := by rw [IntWalk.i64_in _ (by omega)]; simp
  obtain ⟨b1, hb1⟩ : ∃ b1 : Int, b1 = ((bd + 1 : Nat) : Int) := ⟨_, rfl⟩
  rw [← hb1] at hwr HBB
  have h8 : ((bd : Int) == 8) = false := by rw [beq_eq_false_iff_ne]; omega
  clear HS hot hb1 hc1
  have hpl := h.pl
  have hbl := h.bl
  go_enter Tryz.func67, Tryz.ntmps67
  go_upto_region 1 with fail
  obtain ⟨W1, hW1⟩ : ∃ W, W = w.alloc (.cells #[.int .i64 0, .int .i64 0, .int .i64 0, .string ⟨#[]⟩, .string ⟨#[]⟩, .int .i64 0, .int .i64 0, .int .i64 0, .string ⟨#[]⟩, .slice none 0 0, .slice none 0 0] 35) := ⟨_, rfl⟩
  have HG1 : Hid (GrowA pb w W1) := by rw [hW1]; exact (GrowA.refl _ _).alloc _
  have HP1 : Hid (PaS W1 pb b c T st) := by rw [hW1]; exact h.allocI _
  have HR1 : Hid (PhB W1 w.heap.size #[.int .i64 0, .int .i64 0, .int .i64 0, .string ⟨#[]⟩, .string ⟨#[]⟩, .int .i64 0, .int .i64 0, .int .i64 0, .string ⟨#[]⟩, .slice none 0 0, .slice none 0 0]) := by rw [hW1]; exact PhB.new w _
  rw [← hW1]
  obtain ⟨r, hr⟩ : ∃ r, r = w.heap.size := ⟨_, rfl⟩
  have HRW : Hid (w.heap.size ≤ r) := Nat.le_of_eq hr.symm
  have hrp : r ≠ pb := by omega
  have hrb : r ≠ b := by omega
  rw [← hr] at HR1 ⊢
  clear hW1 hr h hpl hbl
  go_upto_region 4 with (first
    | (go_at_call 67; (first | refine (HBB.out HP1.out HG1.out).mono ?_ | refine (HBB.out (HP1.out.allocI _) (HG1.out.alloc _)).mono ?_ | refine (HBB.out ((HP1.out.allocI _).allocI _) ((HG1.out.alloc _).alloc _)).mono ?_); rintro e w2 ⟨v, hv, rfl, hp, hg⟩; obtain ⟨k0, k1, k2, k5, k6, k7, s3, s4, s8, a9, a10, l9, c9, l10, c10, rfl⟩ := hv; have HG2 : Hid (GrowA pb w w2) := (by first | exact HG1.out.trans hg | exact (HG1.out.alloc _).trans hg | exact ((HG1.out.alloc _).alloc _).trans hg); have HP2 : Hid (PaS w2 pb b c T st1) := hp; have HR2 : Hid (PhB w2 r #[.int .i64 0, .int .i64 0, .int .i64 0, .string ⟨#[]⟩, .string ⟨#[]⟩, .int .i64 0, .int .i64 0, .int .i64 0, .string ⟨#[]⟩, .slice none 0 0, .slice none 0 0]) := (by first | exact HR1.out.grow hg hrp | exact (HR1.out.allocI _).grow hg hrp | exact ((HR1.out.allocI _).allocI _).grow hg hrp); have hxp : w2.heap.size ≠ pb := (by have := HP2.out.pl; omega); have HO2 : Hid (OpTab w2) := HOT.out.grow HG2.out hpo; clear hp hg HP1 HG1 HR1))
  go_loopw [] (fun wr => wr = w2.alloc (.cells #[.int .i64 k0, .int .i64 k1, .int .i64 k2, .string s3, .string s4, .int .i64 k5, .int .i64 k6, .int .i64 k7, .string s8, .slice a9 l9 c9, .slice a10 l10 c10] 35)) (fun _ => 0)
  case atStart => rfl
  case round =>
    subst hrel
    go_wp2_with (first
      | (go_at_call 77; refine (HON.out (HP2.out.allocI _) (HO2.out.allocI _)).mono ?_; rintro e w3 ⟨rfl, hb⟩; have HG3 : Hid (GrowA pb w w3) := (HG2.out.alloc _).below hb; have HP3 : Hid (PaS w3 pb b c T st1) := (HP2.out.allocI _).below hb; have HR3 : Hid (PhB w3 r #[.int .i64 0, .int .i64 0, .int .i64 0, .string ⟨#[]⟩, .string ⟨#[]⟩, .int .i64 0, .int .i64 0, .int .i64 0, .string ⟨#[]⟩, .slice none 0 0, .slice none 0 0]) := (HR2.out.allocI _).below hb; have HX3 : Hid (PhB w3 w2.heap.size #[.int .i64 k0, .int .i64 k1, .int .i64 k2, .string s3, .string s4, .int .i64 k5, .int .i64 k6, .int .i64 k7, .string s8, .slice a9 l9 c9, .slice a10 l10 c10]) := (PhB.new w2 _).below hb; obtain ⟨⟨y0, y1, y2, y3, y4, y5, y6, y7, y8, y9, y10⟩, z0, z1, z2, z3, z4, z5, z6, z7, z8, z9, z10⟩ := HR3.out.cells; obtain ⟨⟨m0, m1, m2, m3, m4, m5, m6, m7, m8, m9, m10⟩, j0, j1, j2, j3, j4, j5, j6, j7, j8, j9, j10⟩ := HX3.out.cells; clear hb))
    refine bodyPost_ret (v := .agg #[.int .i64 k0, .int .i64 k1, .int .i64 k2, .string s3, .string s4, .int .i64 k5, .int .i64 k6, .int .i64 k7, .string s8, .slice a9 l9 c9, .slice a10 l10 c10]) (by simp [results, Tryz.results67, go_sem, y0, y1, y2, y3, y4, y5, y6, y7, y8, y9, y10]) rfl ⟨_, PhV.mk, rfl, ?_, ?_⟩
    · (repeat (first | with_reducible refine PaS.setR ?_ hrp hrb _ _ | with_reducible refine PaS.allocI ?_ _ | exact HP3.out))
    · (repeat (first | with_reducible refine GrowA.setR ?_ HRW.out _ _ | with_reducible refine GrowA.alloc ?_ _ | exact HG3.out))
end Go.Proofs.YteapocgpenokfaaGreatDoor
