/-
  THE PARSER's steps, step, path, minus, where only four tokens are seen.
-/
import Derived.Test.YteapocgpenokfaaGreatDoorPaRecB
set_option linter.unusedVariables false
namespace Go.Proofs.YteapocgpenokfaaGreatDoor
set_option maxRecDepth 100000
open Go.RowKit

set_option maxHeartbeats 1600000 in
theorem steps_runs {pb b c : Nat} {T : List Tok} {st : Pst} (hT : T.length ≤ 200) (hat : st.at' ≤ 300) (hc : Cls (seeM T st 0)) {k0 k1 k2 k5 k6 k7 : Int} {s3 s4 s8 : ByteArray} {a9 a10 : Option Addr} {l9 c9 l10 c10 : Nat} : RunO pb b c T 89 #[.agg #[.int .i64 k0, .int .i64 k1, .int .i64 k2, .string s3, .string s4, .int .i64 k5, .int .i64 k6, .int .i64 k7, .string s8, .slice a9 l9 c9, .slice a10 l10 c10]] st st := by
  intro w h hot
  have HC0 := HidOf (cls_no hc).2.2.2.2.1
  have HC1 := HidOf (cls_no hc).2.2.2.2.2.1
  clear hc
  have hpl := h.pl
  have hbl := h.bl
  go_enter Tryz.func89, Tryz.ntmps89
  go_wp2
  obtain ⟨W1, hW1⟩ : ∃ W, W = (w.alloc (.cells #[.int .i64 k0, .int .i64 k1, .int .i64 k2, .string s3, .string s4, .int .i64 k5, .int .i64 k6, .int .i64 k7, .string s8, .slice a9 l9 c9, .slice a10 l10 c10] 35)).alloc (.cells #[.int .i64 0, .int .i64 0, .int .i64 0, .string ⟨#[]⟩, .string ⟨#[]⟩, .int .i64 0, .int .i64 0, .int .i64 0, .string ⟨#[]⟩, .slice none 0 0, .slice none 0 0] 35) := ⟨_, rfl⟩
  have HG1 : Hid (GrowA pb w W1) := by rw [hW1]; exact ((GrowA.refl _ _).alloc _).alloc _
  have HP1 : Hid (PaS W1 pb b c T st) := by rw [hW1]; exact (h.allocI _).allocI _
  have HR1 : Hid (PhB W1 (w.heap.size + 1) #[.int .i64 0, .int .i64 0, .int .i64 0, .string ⟨#[]⟩, .string ⟨#[]⟩, .int .i64 0, .int .i64 0, .int .i64 0, .string ⟨#[]⟩, .slice none 0 0, .slice none 0 0]) := by
    have k := PhB.new (w.alloc (.cells #[.int .i64 k0, .int .i64 k1, .int .i64 k2, .string s3, .string s4, .int .i64 k5, .int .i64 k6, .int .i64 k7, .string s8, .slice a9 l9 c9, .slice a10 l10 c10] 35)) #[.int .i64 0, .int .i64 0, .int .i64 0, .string ⟨#[]⟩, .string ⟨#[]⟩, .int .i64 0, .int .i64 0, .int .i64 0, .string ⟨#[]⟩, .slice none 0 0, .slice none 0 0]
    rw [show (w.alloc (.cells #[.int .i64 k0, .int .i64 k1, .int .i64 k2, .string s3, .string s4, .int .i64 k5, .int .i64 k6, .int .i64 k7, .string s8, .slice a9 l9 c9, .slice a10 l10 c10] 35)).heap.size = w.heap.size + 1 by simp] at k
    rw [hW1]; exact k
  have HY1 : Hid (PhB W1 w.heap.size #[.int .i64 k0, .int .i64 k1, .int .i64 k2, .string s3, .string s4, .int .i64 k5, .int .i64 k6, .int .i64 k7, .string s8, .slice a9 l9 c9, .slice a10 l10 c10]) := by rw [hW1]; exact (PhB.new w _).allocI _
  rw [← hW1]
  obtain ⟨r, hr⟩ : ∃ r, r = w.heap.size + 1 := ⟨_, rfl⟩
  have HRW : Hid (w.heap.size ≤ r) := show w.heap.size ≤ r by omega
  have hrp : r ≠ pb := by omega
  have htp : w.heap.size ≠ pb := by omega
  have hrb : r ≠ b := by omega
  rw [← hr] at HR1 ⊢
  clear hW1 hr h hpl hbl
  go_loopw [] (fun wr => wr = W1) (fun _ => 0)
  case atStart => rfl
  case round =>
    subst hrel
    go_wp2_with (first
      | (go_at_call 51; have HNX := HP1; refine (mark_is _ _).mono ?_; rintro e w2 ⟨rfl, hb⟩; have HG2 : Hid (GrowA pb w w2) := (by first | exact HG1.out.below hb | exact (HG1.out.alloc _).below hb | exact ((HG1.out.alloc _).alloc _).below hb); have HP2 : Hid (PaS w2 pb b c T st) := (by first | exact HP1.out.below hb | exact (HP1.out.allocI _).below hb | exact ((HP1.out.allocI _).allocI _).below hb); have HR2 : Hid (PhB w2 r #[.int .i64 0, .int .i64 0, .int .i64 0, .string ⟨#[]⟩, .string ⟨#[]⟩, .int .i64 0, .int .i64 0, .int .i64 0, .string ⟨#[]⟩, .slice none 0 0, .slice none 0 0]) := (by first | exact HR1.out.below hb | exact (HR1.out.allocI _).below hb | exact ((HR1.out.allocI _).allocI _).below hb); have HY2 : Hid (PhB w2 w.heap.size #[.int .i64 k0, .int .i64 k1, .int .i64 k2, .string s3, .string s4, .int .i64 k5, .int .i64 k6, .int .i64 k7, .string s8, .slice a9 l9 c9, .slice a10 l10 c10]) := (by first | exact HY1.out.below hb | exact (HY1.out.allocI _).below hb | exact ((HY1.out.allocI _).allocI _).below hb); clear hb HNX HP1 HG1 HR1 HY1)
      | (go_at_call 54; (first | refine (skip_no HP2.out hT hat _ _ _ HC0.out).mono ?_ | refine (skip_no (HP2.out.allocI _) hT hat _ _ _ HC0.out).mono ?_ | refine (skip_no ((HP2.out.allocI _).allocI _) hT hat _ _ _ HC0.out).mono ?_); rintro e w3 ⟨rfl, hp, hg⟩; have HG3 : Hid (GrowA pb w w3) := (by first | exact HG2.out.trans hg | exact (HG2.out.alloc _).trans hg | exact ((HG2.out.alloc _).alloc _).trans hg); have HP3 : Hid (PaS w3 pb b c T st) := hp; have HR3 : Hid (PhB w3 r #[.int .i64 0, .int .i64 0, .int .i64 0, .string ⟨#[]⟩, .string ⟨#[]⟩, .int .i64 0, .int .i64 0, .int .i64 0, .string ⟨#[]⟩, .slice none 0 0, .slice none 0 0]) := (by first | exact HR2.out.grow hg hrp | exact (HR2.out.allocI _).grow hg hrp | exact ((HR2.out.allocI _).allocI _).grow hg hrp); have HY3 : Hid (PhB w3 w.heap.size #[.int .i64 k0, .int .i64 k1, .int .i64 k2, .string s3, .string s4, .int .i64 k5, .int .i64 k6, .int .i64 k7, .string s8, .slice a9 l9 c9, .slice a10 l10 c10]) := (by first | exact HY2.out.grow hg htp | exact (HY2.out.allocI _).grow hg htp | exact ((HY2.out.allocI _).allocI _).grow hg htp); clear hp hg HP2 HG2 HR2 HY2)
      | (go_at_call 51; have HNX := HP3; refine (mark_is _ _).mono ?_; rintro e w4 ⟨rfl, hb⟩; have HG4 : Hid (GrowA pb w w4) := (by first | exact HG3.out.below hb | exact (HG3.out.alloc _).below hb | exact ((HG3.out.alloc _).alloc _).below hb); have HP4 : Hid (PaS w4 pb b c T st) := (by first | exact HP3.out.below hb | exact (HP3.out.allocI _).below hb | exact ((HP3.out.allocI _).allocI _).below hb); have HR4 : Hid (PhB w4 r #[.int .i64 0, .int .i64 0, .int .i64 0, .string ⟨#[]⟩, .string ⟨#[]⟩, .int .i64 0, .int .i64 0, .int .i64 0, .string ⟨#[]⟩, .slice none 0 0, .slice none 0 0]) := (by first | exact HR3.out.below hb | exact (HR3.out.allocI _).below hb | exact ((HR3.out.allocI _).allocI _).below hb); have HY4 : Hid (PhB w4 w.heap.size #[.int .i64 k0, .int .i64 k1, .int .i64 k2, .string s3, .string s4, .int .i64 k5, .int .i64 k6, .int .i64 k7, .string s8, .slice a9 l9 c9, .slice a10 l10 c10]) := (by first | exact HY3.out.below hb | exact (HY3.out.allocI _).below hb | exact ((HY3.out.allocI _).allocI _).below hb); clear hb HNX HP3 HG3 HR3 HY3)
      | (go_at_call 54; (first | refine (skip_no HP4.out hT hat _ _ _ HC1.out).mono ?_ | refine (skip_no (HP4.out.allocI _) hT hat _ _ _ HC1.out).mono ?_ | refine (skip_no ((HP4.out.allocI _).allocI _) hT hat _ _ _ HC1.out).mono ?_); rintro e w5 ⟨rfl, hp, hg⟩; have HG5 : Hid (GrowA pb w w5) := (by first | exact HG4.out.trans hg | exact (HG4.out.alloc _).trans hg | exact ((HG4.out.alloc _).alloc _).trans hg); have HP5 : Hid (PaS w5 pb b c T st) := hp; have HR5 : Hid (PhB w5 r #[.int .i64 0, .int .i64 0, .int .i64 0, .string ⟨#[]⟩, .string ⟨#[]⟩, .int .i64 0, .int .i64 0, .int .i64 0, .string ⟨#[]⟩, .slice none 0 0, .slice none 0 0]) := (by first | exact HR4.out.grow hg hrp | exact (HR4.out.allocI _).grow hg hrp | exact ((HR4.out.allocI _).allocI _).grow hg hrp); have HY5 : Hid (PhB w5 w.heap.size #[.int .i64 k0, .int .i64 k1, .int .i64 k2, .string s3, .string s4, .int .i64 k5, .int .i64 k6, .int .i64 k7, .string s8, .slice a9 l9 c9, .slice a10 l10 c10]) := (by first | exact HY4.out.grow hg htp | exact (HY4.out.allocI _).grow hg htp | exact ((HY4.out.allocI _).allocI _).grow hg htp); obtain ⟨⟨y0, y1, y2, y3, y4, y5, y6, y7, y8, y9, y10⟩, z0, z1, z2, z3, z4, z5, z6, z7, z8, z9, z10⟩ := HR5.out.cells; obtain ⟨⟨m0, m1, m2, m3, m4, m5, m6, m7, m8, m9, m10⟩, j0, j1, j2, j3, j4, j5, j6, j7, j8, j9, j10⟩ := HY5.out.cells; clear hp hg HP4 HG4 HR4 HY4))
    refine bodyPost_ret (v := .agg #[.int .i64 k0, .int .i64 k1, .int .i64 k2, .string s3, .string s4, .int .i64 k5, .int .i64 k6, .int .i64 k7, .string s8, .slice a9 l9 c9, .slice a10 l10 c10]) (by simp [results, Tryz.results89, go_sem, y0, y1, y2, y3, y4, y5, y6, y7, y8, y9, y10]) rfl ⟨_, PhV.mk, rfl, ?_, ?_⟩
    · (repeat (first | with_reducible refine PaS.setR ?_ hrp hrb _ _ | with_reducible refine PaS.allocI ?_ _ | exact HP5.out))
    · (repeat (first | with_reducible refine GrowA.setR ?_ HRW.out _ _ | with_reducible refine GrowA.alloc ?_ _ | exact HG5.out))
theorem PhB.put {w : World} {r : Nat} (h : PhB w r #[.int .i64 0, .int .i64 0, .int .i64 0, .string ⟨#[]⟩, .string ⟨#[]⟩, .int .i64 0, .int .i64 0, .int .i64 0, .string ⟨#[]⟩, .slice none 0 0, .slice none 0 0]) {k0 k1 k2 k5 k6 k7 : Int} {s3 s4 s8 : ByteArray} {a9 a10 : Option Addr} {l9 c9 l10 c10 : Nat} : PhB (((((((((((w.setCell ⟨r, 0, none⟩ (.int .i64 k0)).setCell ⟨r, 1, none⟩ (.int .i64 k1)).setCell ⟨r, 2, none⟩ (.int .i64 k2)).setCell ⟨r, 3, none⟩ (.string s3)).setCell ⟨r, 4, none⟩ (.string s4)).setCell ⟨r, 5, none⟩ (.int .i64 k5)).setCell ⟨r, 6, none⟩ (.int .i64 k6)).setCell ⟨r, 7, none⟩ (.int .i64 k7)).setCell ⟨r, 8, none⟩ (.string s8)).setCell ⟨r, 9, none⟩ (.slice a9 l9 c9)).setCell ⟨r, 10, none⟩ (.slice a10 l10 c10)) r #[.int .i64 k0, .int .i64 k1, .int .i64 k2, .string s3, .string s4, .int .i64 k5, .int .i64 k6, .int .i64 k7, .string s8, .slice a9 l9 c9, .slice a10 l10 c10] := by
  unfold PhB at h ⊢
  simp [World.setCell, Array.getElem?_modify, h]
end Go.Proofs.YteapocgpenokfaaGreatDoor
