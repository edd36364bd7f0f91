import Derived.Test.YtbnlekhjgkojlaaGreatDoorQoQry
set_option linter.unusedVariables false
namespace Go.Proofs.YtbnlekhjgkojlaaGreatDoor
set_option maxRecDepth 100000
open Go.RowKit
set_option maxHeartbeats 1600000 in
theorem minus_none {pb b c : Nat} {T : List Tok} {st : Pst} {us : ByteArray} {uk un : Int} {s1 : Pst} {p : Ph} (hT : T.length ≤ 200) (hat : st.at' ≤ 300) (hu : seeM T st 0 = ⟨uk, us, un⟩) (n1 : eqT ⟨uk, us, un⟩ ⟨5, ⟨#[45]⟩, 0⟩ = false) (hlu : RunT pb b c T 113 #[.pointer (some ⟨pb, 0, none⟩)] st s1 p) : RunT pb b c T 98 #[.pointer (some ⟨pb, 0, none⟩)] st s1 p := by
 intro w h htb
 have HTB : Hid (RTab w pb) := htb
 clear htb
 have HLU : Hid (RunT pb b c T 113 #[.pointer (some ⟨pb, 0, none⟩)] st s1 p) := hlu
 clear hlu
 have E1 := neT_run n1
 have hpl := h.pl
 have hbl := h.bl
 go_enter_defers Tryz.func98, Tryz.ntmps98
 go_upto_region 1 with fail
 obtain ⟨W1, hW1⟩ : ∃ W, W = w.alloc (.cells #[.int .i64 0, .int .i64 0, .int .i64 0, .string ⟨#[]⟩, .string ⟨#[]⟩, .int .i64 0, .int .i64 0, .int .i64 0, .string ⟨#[]⟩, .slice none 0 0, .slice none 0 0] 36) := ⟨_, rfl⟩
 have HG1 : Hid (GrowA pb w W1) := by rw [hW1]; exact (GrowA.refl _ _).alloc _
 have HP1 : Hid (PaS W1 pb b c T st) := by rw [hW1]; exact h.allocI _
 have HR1 : Hid (PhZ W1 w.heap.size) := by rw [hW1]; exact PhB.new w _
 rw [← hW1]
 obtain ⟨r, hr⟩ : ∃ r, r = w.heap.size := ⟨_, rfl⟩
 have HRW : Hid (w.heap.size ≤ r) := Nat.le_of_eq hr.symm
 have hrp : r ≠ pb := by omega
 have hrb : r ≠ b := by omega
 rw [← hr] at HR1 ⊢
 clear hW1 hr h hpl hbl
 go_wp2_with (first
  | (go_at_call 65; (refine (see_lit HP1.out 0 (by omega) hT hat hu).mono ?_); rintro e w2 ⟨rfl, hb⟩; have HG2 : Hid (GrowA pb w w2) := (HG1.out.below hb); have HP2 : Hid (PaS w2 pb b c T st) := (HP1.out.below hb); have HR2 : Hid (PhZ w2 r) := (HR1.out.below hb); clear hb HP1 HG1 HR1)
  | (go_at_call 66; have HNX := HP2; refine (mark_is _ _).mono ?_; rintro e w3 ⟨rfl, hb⟩; have HG3 : Hid (GrowA pb w w3) := (HG2.out.below hb); have HP3 : Hid (PaS w3 pb b c T st) := (HP2.out.below hb); have HR3 : Hid (PhZ w3 r) := (HR2.out.below hb); clear hb HNX HP2 HG2 HR2)
  | (go_at_call 113; (first | refine (HLU.out.use HTB.out HP3.out HG3.out (show r < _ from by have k := HR3.out.lt; first | exact k | (simp; omega))).mono ?_ | refine (HLU.out.use HTB.out (HP3.out.allocI _) (HG3.out.alloc _) (show r < _ from by have k := HR3.out.lt; first | exact k | (simp; omega))).mono ?_ | refine (HLU.out.use HTB.out ((HP3.out.allocI _).allocI _) ((HG3.out.alloc _).alloc _) (show r < _ from by have k := HR3.out.lt; first | exact k | (simp; omega))).mono ?_); rintro e w4 ⟨lo1, v, hlo, hv, rfl, hp, hg⟩; obtain ⟨k0_1, k1_1, k2_1, k5_1, k6_1, k7_1, s3_1, s4_1, s8_1, a9_1, a10_1, l9_1, c9_1, l10_1, c10_1, rfl⟩ := hv.form; have hlo1 := hlo.1; have hlp1 := hlo.2.1; have hlz1 := hlo.2.2; have HG4 : Hid (GrowA pb w w4) := (HG3.out.trans hg); have HP4 : Hid (PaS w4 pb b c T s1) := hp; have HR4 : Hid (PhZ w4 r) := (HR3.out.grow hg hrp); have HV1_4 : Hid (Tre w4 lo1 p [.int .i64 k0_1, .int .i64 k1_1, .int .i64 k2_1, .string s3_1, .string s4_1, .int .i64 k5_1, .int .i64 k6_1, .int .i64 k7_1, .string s8_1, .slice a9_1 l9_1 c9_1, .slice a10_1 l10_1 c10_1]) := hv; obtain ⟨⟨y0, y1, y2, y3, y4, y5, y6, y7, y8, y9, y10⟩, z0, z1, z2, z3, z4, z5, z6, z7, z8, z9, z10⟩ := HR4.out.cells; clear hv hlo hp hg HP3 HG3 HR3))
 refine ⟨.agg #[.int .i64 k0_1, .int .i64 k1_1, .int .i64 k2_1, .string s3_1, .string s4_1, .int .i64 k5_1, .int .i64 k6_1, .int .i64 k7_1, .string s8_1, .slice a9_1 l9_1 c9_1, .slice a10_1 l10_1 c10_1], by simp [results, Tryz.results98, go_sem, y0, y1, y2, y3, y4, y5, y6, y7, y8, y9, y10], ⟨[.int .i64 k0_1, .int .i64 k1_1, .int .i64 k2_1, .string s3_1, .string s4_1, .int .i64 k5_1, .int .i64 k6_1, .int .i64 k7_1, .string s8_1, .slice a9_1 l9_1 c9_1, .slice a10_1 l10_1 c10_1], ?_, rfl, ?_, ?_⟩⟩
 · (refine Tre.mono (lo := lo1) ?_ (by have := HRW.out; omega); (repeat (first | with_reducible refine Tre.setR ?_ hlo1 _ _ | with_reducible refine Tre.allocI ?_ _ | with_reducible exact HV1_4.out)))
 · (repeat (first | with_reducible refine PaS.setR ?_ hrp hrb _ _ | with_reducible refine PaS.allocI ?_ _ | exact HP4.out))
 · (repeat (first | with_reducible refine GrowA.setR ?_ HRW.out _ _ | with_reducible refine GrowA.alloc ?_ _ | exact HG4.out))
end Go.Proofs.YtbnlekhjgkojlaaGreatDoor
