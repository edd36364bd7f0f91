/-
  THE PARSER's constructor.
-/
import Derived.Test.YtcbpjgnbdpfiiaaGreatDoorPtBare
set_option linter.unusedVariables false
namespace Go.Proofs.YtcbpjgnbdpfiiaaGreatDoor
set_option maxRecDepth 100000
open Go.RowKit

set_option maxHeartbeats 1600000 in
theorem listUpTo_more {pb b c : Nat} {T : List Tok} {st : Pst} {ek : Int} {es : ByteArray} {s1 s2 : Pst} {p : Ph} (hT : T.length ≤ 200) (hat : st.at' ≤ 300) (hat1 : s1.at' ≤ 300) (hs : eqT (seeM T st 0) ⟨ek, es, 0⟩ = false) (hw : wantM T s1 ⟨ek, es, 0⟩ = s2) (hlu : RunT pb b c T 21 #[.pointer (some ⟨pb, 0, none⟩)] st s1 p) : RunT pb b c T 170 #[.pointer (some ⟨pb, 0, none⟩), .agg #[.int .i64 ek, .string es, .int .i64 0]] st s2 p := by
  intro w h htb
  have HTB : Hid (RTab w pb) := htb
  clear htb
  have HLU : Hid (RunT pb b c T 21 #[.pointer (some ⟨pb, 0, none⟩)] st s1 p) := hlu
  clear hlu
  have hpl := h.pl
  have hbl := h.bl
  go_enter Tryz.func170, Tryz.ntmps170
  go_upto_region 1 with fail
  obtain ⟨W1, hW1⟩ : ∃ W, W = (w.alloc (.cells #[.int .i64 ek, .string es, .int .i64 0] 50)).alloc (.cells #[.int .i64 0, .int .i64 0, .int .i64 0, .string ⟨#[]⟩, .string ⟨#[]⟩, .int .i64 0, .int .i64 0, .int .i64 0, .string ⟨#[]⟩, .slice none 0 0, .slice none 0 0] 38) := ⟨_, rfl⟩
  have HG1 : Hid (GrowA pb w W1) := by rw [hW1]; exact ((GrowA.refl _ _).alloc _).alloc _
  have HP1 : Hid (PaS W1 pb b c T st) := by rw [hW1]; exact (h.allocI _).allocI _
  have HR1 : Hid (PhB W1 (w.heap.size + 1) #[.int .i64 0, .int .i64 0, .int .i64 0, .string ⟨#[]⟩, .string ⟨#[]⟩, .int .i64 0, .int .i64 0, .int .i64 0, .string ⟨#[]⟩, .slice none 0 0, .slice none 0 0]) := by
    have k := PhB.new (w.alloc (.cells #[.int .i64 ek, .string es, .int .i64 0] 50)) #[.int .i64 0, .int .i64 0, .int .i64 0, .string ⟨#[]⟩, .string ⟨#[]⟩, .int .i64 0, .int .i64 0, .int .i64 0, .string ⟨#[]⟩, .slice none 0 0, .slice none 0 0]
    rw [show (w.alloc (.cells #[.int .i64 ek, .string es, .int .i64 0] 50)).heap.size = w.heap.size + 1 by simp] at k
    rw [hW1]; exact k
  have HY1 : Hid (TkB W1 w.heap.size #[.int .i64 ek, .string es, .int .i64 0]) := by rw [hW1]; exact (TkB.new w _).allocI _
  rw [← hW1]
  obtain ⟨r, hr⟩ : ∃ r, r = w.heap.size + 1 := ⟨_, rfl⟩
  have HRW : Hid (w.heap.size ≤ r) := (show w.heap.size ≤ r by omega)
  have hrp : r ≠ pb := by omega
  have htp : w.heap.size ≠ pb := by omega
  obtain ⟨d0, d1, d2⟩ := HY1.out.cells
  have hrb : r ≠ b := by omega
  rw [← hr] at HR1 ⊢
  clear hW1 hr h hpl hbl
  go_wp2_with (first
    | (go_at_call 74; (first | refine (skip_no HP1.out hT hat _ _ _ hs).mono ?_ | refine (skip_no (HP1.out.allocI _) hT hat _ _ _ hs).mono ?_ | refine (skip_no ((HP1.out.allocI _).allocI _) hT hat _ _ _ hs).mono ?_); rintro e w2 ⟨rfl, hp, hg⟩; have HG2 : Hid (GrowA pb w w2) := (by first | exact HG1.out.trans hg | exact (HG1.out.alloc _).trans hg | exact ((HG1.out.alloc _).alloc _).trans hg); have HP2 : Hid (PaS w2 pb b c T st) := hp; have HR2 : Hid (PhB w2 r #[.int .i64 0, .int .i64 0, .int .i64 0, .string ⟨#[]⟩, .string ⟨#[]⟩, .int .i64 0, .int .i64 0, .int .i64 0, .string ⟨#[]⟩, .slice none 0 0, .slice none 0 0]) := (by first | exact HR1.out.grow hg hrp | exact (HR1.out.allocI _).grow hg hrp | exact ((HR1.out.allocI _).allocI _).grow hg hrp); have HY2 : Hid (TkB w2 w.heap.size #[.int .i64 ek, .string es, .int .i64 0]) := (by first | exact HY1.out.grow hg htp | exact (HY1.out.allocI _).grow hg htp | exact ((HY1.out.allocI _).allocI _).grow hg htp); clear d0 d1 d2; clear hp hg HP1 HG1 HR1 HY1)
    | (go_at_call 21; (first | refine (HLU.out.use HTB.out HP2.out HG2.out (show r < _ from by have k := HR2.out.lt; first | exact k | (simp; omega))).mono ?_ | refine (HLU.out.use HTB.out (HP2.out.allocI _) (HG2.out.alloc _) (show r < _ from by have k := HR2.out.lt; first | exact k | (simp; omega))).mono ?_ | refine (HLU.out.use HTB.out ((HP2.out.allocI _).allocI _) ((HG2.out.alloc _).alloc _) (show r < _ from by have k := HR2.out.lt; first | exact k | (simp; omega))).mono ?_); rintro e w3 ⟨lo1, v, hlo, hv, rfl, hp, hg⟩; obtain ⟨k0_1, k1_1, k2_1, k5_1, k6_1, k7_1, s3_1, s4_1, s8_1, a9_1, a10_1, l9_1, c9_1, l10_1, c10_1, rfl⟩ := hv.form; have hlo1 := hlo.1; have hlp1 := hlo.2.1; have hlz1 := hlo.2.2; have HG3 : Hid (GrowA pb w w3) := (by first | exact HG2.out.trans hg | exact (HG2.out.alloc _).trans hg | exact ((HG2.out.alloc _).alloc _).trans hg); have HP3 : Hid (PaS w3 pb b c T s1) := hp; have HR3 : Hid (PhB w3 r #[.int .i64 0, .int .i64 0, .int .i64 0, .string ⟨#[]⟩, .string ⟨#[]⟩, .int .i64 0, .int .i64 0, .int .i64 0, .string ⟨#[]⟩, .slice none 0 0, .slice none 0 0]) := (by first | exact HR2.out.grow hg hrp | exact (HR2.out.allocI _).grow hg hrp | exact ((HR2.out.allocI _).allocI _).grow hg hrp); have HY3 : Hid (TkB w3 w.heap.size #[.int .i64 ek, .string es, .int .i64 0]) := (by first | exact HY2.out.grow hg htp | exact (HY2.out.allocI _).grow hg htp | exact ((HY2.out.allocI _).allocI _).grow hg htp); have HV1_3 : Hid (Tre w3 lo1 p [.int .i64 k0_1, .int .i64 k1_1, .int .i64 k2_1, .string s3_1, .string s4_1, .int .i64 k5_1, .int .i64 k6_1, .int .i64 k7_1, .string s8_1, .slice a9_1 l9_1 c9_1, .slice a10_1 l10_1 c10_1]) := hv; obtain ⟨e0, e1, e2⟩ := HY3.out.cells; have hy3 := HY3.out.lt; have hxp : w3.heap.size ≠ pb := (by have := HP3.out.pl; omega); clear hv hlo hp hg HP2 HG2 HR2 HY2)
    | (go_at_call 139; (first | refine (want_eq HP3.out hT hat1 hw).mono ?_ | refine (want_eq (HP3.out.allocI _) hT hat1 hw).mono ?_ | refine (want_eq ((HP3.out.allocI _).allocI _) hT hat1 hw).mono ?_); rintro e w4 ⟨rfl, hp, hg⟩; have HG4 : Hid (GrowA pb w w4) := (by first | exact HG3.out.trans hg | exact (HG3.out.alloc _).trans hg | exact ((HG3.out.alloc _).alloc _).trans hg); have HP4 : Hid (PaS w4 pb b c T s2) := hp; have HR4 : Hid (PhB w4 r #[.int .i64 0, .int .i64 0, .int .i64 0, .string ⟨#[]⟩, .string ⟨#[]⟩, .int .i64 0, .int .i64 0, .int .i64 0, .string ⟨#[]⟩, .slice none 0 0, .slice none 0 0]) := (by first | exact HR3.out.grow hg hrp | exact (HR3.out.allocI _).grow hg hrp | exact ((HR3.out.allocI _).allocI _).grow hg hrp); have HY4 : Hid (TkB w4 w.heap.size #[.int .i64 ek, .string es, .int .i64 0]) := (by first | exact HY3.out.grow hg htp | exact (HY3.out.allocI _).grow hg htp | exact ((HY3.out.allocI _).allocI _).grow hg htp); have HV1_4 : Hid (Tre w4 lo1 p [.int .i64 k0_1, .int .i64 k1_1, .int .i64 k2_1, .string s3_1, .string s4_1, .int .i64 k5_1, .int .i64 k6_1, .int .i64 k7_1, .string s8_1, .slice a9_1 l9_1 c9_1, .slice a10_1 l10_1 c10_1]) := (by first | exact HV1_3.out.grow hg hlp1 | exact (HV1_3.out.allocI _).grow hg hlp1 | exact ((HV1_3.out.allocI _).allocI _).grow hg hlp1); have HX4 : Hid (PhB w4 w3.heap.size #[.int .i64 k0_1, .int .i64 k1_1, .int .i64 k2_1, .string s3_1, .string s4_1, .int .i64 k5_1, .int .i64 k6_1, .int .i64 k7_1, .string s8_1, .slice a9_1 l9_1 c9_1, .slice a10_1 l10_1 c10_1]) := (PhB.new w3 #[.int .i64 k0_1, .int .i64 k1_1, .int .i64 k2_1, .string s3_1, .string s4_1, .int .i64 k5_1, .int .i64 k6_1, .int .i64 k7_1, .string s8_1, .slice a9_1 l9_1 c9_1, .slice a10_1 l10_1 c10_1]).grow hg hxp; obtain ⟨⟨y0, y1, y2, y3, y4, y5, y6, y7, y8, y9, y10⟩, z0, z1, z2, z3, z4, z5, z6, z7, z8, z9, z10⟩ := HR4.out.cells; obtain ⟨⟨m0, m1, m2, m3, m4, m5, m6, m7, m8, m9, m10⟩, j0, j1, j2, j3, j4, j5, j6, j7, j8, j9, j10⟩ := HX4.out.cells; clear hp hg HP3 HG3 HR3 HY3 HV1_3))
  refine bodyPost_ret (v := .agg #[.int .i64 k0_1, .int .i64 k1_1, .int .i64 k2_1, .string s3_1, .string s4_1, .int .i64 k5_1, .int .i64 k6_1, .int .i64 k7_1, .string s8_1, .slice a9_1 l9_1 c9_1, .slice a10_1 l10_1 c10_1]) (by simp [results, Tryz.results170, go_sem, y0, y1, y2, y3, y4, y5, y6, y7, y8, y9, y10]) rfl ⟨[.int .i64 k0_1, .int .i64 k1_1, .int .i64 k2_1, .string s3_1, .string s4_1, .int .i64 k5_1, .int .i64 k6_1, .int .i64 k7_1, .string s8_1, .slice a9_1 l9_1 c9_1, .slice a10_1 l10_1 c10_1], ?_, rfl, ?_, ?_⟩
  · (refine Tre.mono (lo := lo1) ?_ (by have := HRW.out; omega); (repeat (first | with_reducible refine Tre.setR ?_ hlo1 _ _ | with_reducible refine Tre.allocI ?_ _ | with_reducible exact HV1_4.out)))
  · (repeat (first | with_reducible refine PaS.setR ?_ hrp hrb _ _ | with_reducible refine PaS.allocI ?_ _ | exact HP4.out))
  · (repeat (first | with_reducible refine GrowA.setR ?_ HRW.out _ _ | with_reducible refine GrowA.alloc ?_ _ | exact HG4.out))
end Go.Proofs.YtcbpjgnbdpfiiaaGreatDoor
set_option linter.unusedVariables false
namespace Go.Proofs.YtcbpjgnbdpfiiaaGreatDoor
set_option maxRecDepth 100000
open Go.RowKit

set_option maxHeartbeats 1600000 in
theorem cons_text {pb b c : Nat} {T : List Tok} {st : Pst} {us : ByteArray} {un : Int} {s2 s3 : Pst} {p : Ph} (hT : T.length ≤ 200) (hat : st.at' ≤ 300) (hu : seeM T st 0 = ⟨1, us, un⟩) (hs : us.size ≤ 4000) (n1 : (us.toList == [101, 108, 101, 109, 101, 110, 116]) = false) (n2 : (us.toList == [97, 116, 116, 114, 105, 98, 117, 116, 101]) = false) (ha1 : st.at' + 1 ≤ 300) (hw : wantM T { st with at' := st.at' + 1 } ⟨5, ⟨#[123]⟩, 0⟩ = s2) (hlu : RunT pb b c T 170 #[.pointer (some ⟨pb, 0, none⟩), .agg #[.int .i64 5, .string ⟨#[125]⟩, .int .i64 0]] s2 s3 p) : RunT pb b c T 171 #[.pointer (some ⟨pb, 0, none⟩)] st s3 (phN 10 ⟨0, 0, ⟨#[]⟩⟩ ⟨#[]⟩ 3 0 0 ⟨#[]⟩ 1 (fun _ => p)) := by
  intro w h htb
  have HTB : Hid (RTab w pb) := htb
  clear htb
  have HLU : Hid (RunT pb b c T 170 #[.pointer (some ⟨pb, 0, none⟩), .agg #[.int .i64 5, .string ⟨#[125]⟩, .int .i64 0]] s2 s3 p) := hlu
  clear hlu
  have hpl := h.pl
  have hbl := h.bl
  go_enter Tryz.func171, Tryz.ntmps171
  go_upto_region 1 with fail
  obtain ⟨W1, hW1⟩ : ∃ W, W = w.alloc (.cells #[.int .i64 0, .int .i64 0, .int .i64 0, .string ⟨#[]⟩, .string ⟨#[]⟩, .int .i64 0, .int .i64 0, .int .i64 0, .string ⟨#[]⟩, .slice none 0 0, .slice none 0 0] 38) := ⟨_, rfl⟩
  have HG1 : Hid (GrowA pb w W1) := by rw [hW1]; exact (GrowA.refl _ _).alloc _
  have HP1 : Hid (PaS W1 pb b c T st) := by rw [hW1]; exact h.allocI _
  have HR1 : Hid (PhB W1 w.heap.size #[.int .i64 0, .int .i64 0, .int .i64 0, .string ⟨#[]⟩, .string ⟨#[]⟩, .int .i64 0, .int .i64 0, .int .i64 0, .string ⟨#[]⟩, .slice none 0 0, .slice none 0 0]) := by rw [hW1]; exact PhB.new w _
  rw [← hW1]
  obtain ⟨r, hr⟩ : ∃ r, r = w.heap.size := ⟨_, rfl⟩
  have HRW : Hid (w.heap.size ≤ r) := Nat.le_of_eq hr.symm
  have hrp : r ≠ pb := by omega
  have hrb : r ≠ b := by omega
  rw [← hr] at HR1 ⊢
  clear hW1 hr h hpl hbl
  have hxp : W1.heap.size ≠ pb := by have := HP1.out.pl; omega
  have hxb : W1.heap.size ≠ b := by have := HP1.out.bl; omega
  have hxw : w.heap.size ≤ W1.heap.size := HG1.out.1
  have hrx : r ≠ W1.heap.size := by have := HR1.out.lt; omega
  have hrx2 : r < W1.heap.size := HR1.out.lt
  go_upto_region 8 with (first
    | (go_at_call 140; (first | refine (text_yes HP1.out hT hat hu hs).mono ?_ | refine (text_yes (HP1.out.allocI _) hT hat hu hs).mono ?_); rintro e w2 ⟨rfl, hp, hg⟩; have HG2 : Hid (GrowA pb w w2) := (by first | exact HG1.out.trans hg | exact (HG1.out.alloc _).trans hg | exact ((HG1.out.alloc _).alloc _).trans hg); have HP2 : Hid (PaS w2 pb b c T { st with at' := st.at' + 1 }) := hp; have HR2 : Hid (PhB w2 r #[.int .i64 0, .int .i64 0, .int .i64 0, .string ⟨#[]⟩, .string ⟨#[]⟩, .int .i64 0, .int .i64 0, .int .i64 0, .string ⟨#[]⟩, .slice none 0 0, .slice none 0 0]) := (by first | exact HR1.out.grow hg hrp | exact (HR1.out.allocI _).grow hg hrp | exact ((HR1.out.allocI _).allocI _).grow hg hrp); have HX2 : Hid (PhB w2 W1.heap.size #[.int .i64 10, .int .i64 0, .int .i64 0, .string ⟨#[]⟩, .string ⟨#[]⟩, .int .i64 0, .int .i64 0, .int .i64 0, .string ⟨#[]⟩, .slice none 0 0, .slice none 0 0]) := (PhB.new W1 #[.int .i64 10, .int .i64 0, .int .i64 0, .string ⟨#[]⟩, .string ⟨#[]⟩, .int .i64 0, .int .i64 0, .int .i64 0, .string ⟨#[]⟩, .slice none 0 0, .slice none 0 0]).grow hg hxp; obtain ⟨⟨m0, m1, m2, m3, m4, m5, m6, m7, m8, m9, m10⟩, j0, j1, j2, j3, j4, j5, j6, j7, j8, j9, j10⟩ := HX2.out.cells; have hxl := HX2.out.lt; clear hp hg HP1 HG1 HR1))
  obtain ⟨W3, hW3⟩ : ∃ W, W = w2.setCell ⟨W1.heap.size, 5, none⟩ (.int .i64 3) := ⟨_, rfl⟩
  have HP3 : Hid (PaS W3 pb b c T { st with at' := st.at' + 1 }) := by rw [hW3]; exact HP2.out.setR hxp hxb 5 _
  have HG3 : Hid (GrowA pb w W3) := by rw [hW3]; exact HG2.out.setR hxw 5 _
  have HR3 : Hid (PhB W3 r #[.int .i64 0, .int .i64 0, .int .i64 0, .string ⟨#[]⟩, .string ⟨#[]⟩, .int .i64 0, .int .i64 0, .int .i64 0, .string ⟨#[]⟩, .slice none 0 0, .slice none 0 0]) := by rw [hW3]; exact HR2.out.setO hrx 5 _
  have HX3 : Hid (PhB W3 W1.heap.size #[.int .i64 10, .int .i64 0, .int .i64 0, .string ⟨#[]⟩, .string ⟨#[]⟩, .int .i64 3, .int .i64 0, .int .i64 0, .string ⟨#[]⟩, .slice none 0 0, .slice none 0 0]) := by rw [hW3]; exact HX2.out.setAt 5 (.int .i64 3)
  rw [← hW3]
  clear hW3 HP2 HG2 HR2 HX2 hxl m0 m1 m2 m3 m4 m5 m6 m7 m8 m9 m10 j0 j1 j2 j3 j4 j5 j6 j7 j8 j9 j10
  go_wp2_with (first
    | (go_at_call 71; have HNX := HP3; refine (mark_is _ _).mono ?_; rintro e w4 ⟨rfl, hb⟩; have HG4 : Hid (GrowA pb w w4) := (by first | exact HG3.out.below hb | exact (HG3.out.alloc _).below hb | exact ((HG3.out.alloc _).alloc _).below hb); have HP4 : Hid (PaS w4 pb b c T { st with at' := st.at' + 1 }) := (by first | exact HP3.out.below hb | exact (HP3.out.allocI _).below hb | exact ((HP3.out.allocI _).allocI _).below hb); have HR4 : Hid (PhB w4 r #[.int .i64 0, .int .i64 0, .int .i64 0, .string ⟨#[]⟩, .string ⟨#[]⟩, .int .i64 0, .int .i64 0, .int .i64 0, .string ⟨#[]⟩, .slice none 0 0, .slice none 0 0]) := (by first | exact HR3.out.below hb | exact (HR3.out.allocI _).below hb | exact ((HR3.out.allocI _).allocI _).below hb); have HX4 : Hid (PhB w4 W1.heap.size #[.int .i64 10, .int .i64 0, .int .i64 0, .string ⟨#[]⟩, .string ⟨#[]⟩, .int .i64 3, .int .i64 0, .int .i64 0, .string ⟨#[]⟩, .slice none 0 0, .slice none 0 0]) := (by first | exact HX3.out.below hb | exact (HX3.out.allocI _).below hb | exact ((HX3.out.allocI _).allocI _).below hb); clear hb HNX HP3 HG3 HR3 HX3)
    | (go_at_call 139; (first | refine (want_eq HP4.out hT ha1 hw).mono ?_ | refine (want_eq (HP4.out.allocI _) hT ha1 hw).mono ?_ | refine (want_eq ((HP4.out.allocI _).allocI _) hT ha1 hw).mono ?_); rintro e w5 ⟨rfl, hp, hg⟩; have HG5 : Hid (GrowA pb w w5) := (by first | exact HG4.out.trans hg | exact (HG4.out.alloc _).trans hg | exact ((HG4.out.alloc _).alloc _).trans hg); have HP5 : Hid (PaS w5 pb b c T s2) := hp; have HR5 : Hid (PhB w5 r #[.int .i64 0, .int .i64 0, .int .i64 0, .string ⟨#[]⟩, .string ⟨#[]⟩, .int .i64 0, .int .i64 0, .int .i64 0, .string ⟨#[]⟩, .slice none 0 0, .slice none 0 0]) := (by first | exact HR4.out.grow hg hrp | exact (HR4.out.allocI _).grow hg hrp | exact ((HR4.out.allocI _).allocI _).grow hg hrp); have HX5 : Hid (PhB w5 W1.heap.size #[.int .i64 10, .int .i64 0, .int .i64 0, .string ⟨#[]⟩, .string ⟨#[]⟩, .int .i64 3, .int .i64 0, .int .i64 0, .string ⟨#[]⟩, .slice none 0 0, .slice none 0 0]) := (by first | exact HX4.out.grow hg hxp | exact (HX4.out.allocI _).grow hg hxp | exact ((HX4.out.allocI _).allocI _).grow hg hxp); clear hp hg HP4 HG4 HR4 HX4)
    | (go_at_call 71; have HNX := HP5; refine (mark_is _ _).mono ?_; rintro e w6 ⟨rfl, hb⟩; have HG6 : Hid (GrowA pb w w6) := (by first | exact HG5.out.below hb | exact (HG5.out.alloc _).below hb | exact ((HG5.out.alloc _).alloc _).below hb); have HP6 : Hid (PaS w6 pb b c T s2) := (by first | exact HP5.out.below hb | exact (HP5.out.allocI _).below hb | exact ((HP5.out.allocI _).allocI _).below hb); have HR6 : Hid (PhB w6 r #[.int .i64 0, .int .i64 0, .int .i64 0, .string ⟨#[]⟩, .string ⟨#[]⟩, .int .i64 0, .int .i64 0, .int .i64 0, .string ⟨#[]⟩, .slice none 0 0, .slice none 0 0]) := (by first | exact HR5.out.below hb | exact (HR5.out.allocI _).below hb | exact ((HR5.out.allocI _).allocI _).below hb); have HX6 : Hid (PhB w6 W1.heap.size #[.int .i64 10, .int .i64 0, .int .i64 0, .string ⟨#[]⟩, .string ⟨#[]⟩, .int .i64 3, .int .i64 0, .int .i64 0, .string ⟨#[]⟩, .slice none 0 0, .slice none 0 0]) := (by first | exact HX5.out.below hb | exact (HX5.out.allocI _).below hb | exact ((HX5.out.allocI _).allocI _).below hb); clear hb HNX HP5 HG5 HR5 HX5)
    | (go_at_call 170; (first | refine (HLU.out.use HTB.out HP6.out HG6.out (show W1.heap.size < _ from by have k := HX6.out.lt; first | exact k | (simp; omega))).mono ?_ | refine (HLU.out.use HTB.out (HP6.out.allocI _) (HG6.out.alloc _) (show W1.heap.size < _ from by have k := HX6.out.lt; first | exact k | (simp; omega))).mono ?_ | refine (HLU.out.use HTB.out ((HP6.out.allocI _).allocI _) ((HG6.out.alloc _).alloc _) (show W1.heap.size < _ from by have k := HX6.out.lt; first | exact k | (simp; omega))).mono ?_); rintro e w7 ⟨lo1, v, hlo, hv, rfl, hp, hg⟩; obtain ⟨k0_1, k1_1, k2_1, k5_1, k6_1, k7_1, s3_1, s4_1, s8_1, a9_1, a10_1, l9_1, c9_1, l10_1, c10_1, rfl⟩ := hv.form; have hlo1 := hlo.1; have hlp1 := hlo.2.1; have hlz1 := hlo.2.2; have HG7 : Hid (GrowA pb w w7) := (by first | exact HG6.out.trans hg | exact (HG6.out.alloc _).trans hg | exact ((HG6.out.alloc _).alloc _).trans hg); have HP7 : Hid (PaS w7 pb b c T s3) := hp; have HR7 : Hid (PhB w7 r #[.int .i64 0, .int .i64 0, .int .i64 0, .string ⟨#[]⟩, .string ⟨#[]⟩, .int .i64 0, .int .i64 0, .int .i64 0, .string ⟨#[]⟩, .slice none 0 0, .slice none 0 0]) := (by first | exact HR6.out.grow hg hrp | exact (HR6.out.allocI _).grow hg hrp | exact ((HR6.out.allocI _).allocI _).grow hg hrp); have HX7 : Hid (PhB w7 W1.heap.size #[.int .i64 10, .int .i64 0, .int .i64 0, .string ⟨#[]⟩, .string ⟨#[]⟩, .int .i64 3, .int .i64 0, .int .i64 0, .string ⟨#[]⟩, .slice none 0 0, .slice none 0 0]) := (by first | exact HX6.out.grow hg hxp | exact (HX6.out.allocI _).grow hg hxp | exact ((HX6.out.allocI _).allocI _).grow hg hxp); have HV1_7 : Hid (Tre w7 lo1 p [.int .i64 k0_1, .int .i64 k1_1, .int .i64 k2_1, .string s3_1, .string s4_1, .int .i64 k5_1, .int .i64 k6_1, .int .i64 k7_1, .string s8_1, .slice a9_1 l9_1 c9_1, .slice a10_1 l10_1 c10_1]) := hv; obtain ⟨⟨y0, y1, y2, y3, y4, y5, y6, y7, y8, y9, y10⟩, z0, z1, z2, z3, z4, z5, z6, z7, z8, z9, z10⟩ := HR7.out.cells; obtain ⟨⟨m0, m1, m2, m3, m4, m5, m6, m7, m8, m9, m10⟩, j0, j1, j2, j3, j4, j5, j6, j7, j8, j9, j10⟩ := HX7.out.cells; have hxz := HX7.out.lt; have hrz := HR7.out.lt; clear hv hlo hp hg HP6 HG6 HR6 HX6))
  refine bodyPost_ret (v := .agg #[.int .i64 10, .int .i64 0, .int .i64 0, .string ⟨#[]⟩, .string ⟨#[]⟩, .int .i64 3, .int .i64 0, .int .i64 0, .string ⟨#[]⟩, .slice (some ⟨w7.heap.size, 0, none⟩) 1 1, .slice none 0 0]) (by simp [results, Tryz.results171, go_sem, hrz, y0, y1, y2, y3, y4, y5, y6, y7, y8, y9, y10]) rfl ⟨[.int .i64 10, .int .i64 0, .int .i64 0, .string ⟨#[]⟩, .string ⟨#[]⟩, .int .i64 3, .int .i64 0, .int .i64 0, .string ⟨#[]⟩, .slice (some ⟨w7.heap.size, 0, none⟩) 1 1, .slice none 0 0], ?_, rfl, ?_, ?_⟩
  · (have hlr1 : r < lo1 := by omega)
    refine Tre.mono (lo := lo1) ?_ (by have := HRW.out; omega)
    refine Phs.tre (A := fun _ => p) (v := .slice (some ⟨w7.heap.size, 0, none⟩) 1 1) ?_
    (repeat (first | with_reducible refine Phs.setR ?_ hlr1 _ _ | with_reducible refine Phs.setR ?_ hlo1 _ _))
    refine phs_at (by simp) ?_ hlz1 rfl
    (repeat (first | with_reducible refine Tre.setR ?_ hlr1 _ _ | with_reducible refine Tre.setR ?_ hlo1 _ _ | with_reducible refine Tre.allocI ?_ _ | with_reducible exact HV1_7.out))
  · (repeat (first | with_reducible refine PaS.setR ?_ hrp hrb _ _ | with_reducible refine PaS.setR ?_ hxp hxb _ _ | with_reducible refine PaS.allocI ?_ _ | exact HP7.out))
  · (repeat (first | with_reducible refine GrowA.setR ?_ HRW.out _ _ | with_reducible refine GrowA.setR ?_ hxw _ _ | with_reducible refine GrowA.alloc ?_ _ | exact HG7.out))
end Go.Proofs.YtcbpjgnbdpfiiaaGreatDoor
