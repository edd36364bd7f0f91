import Derived.Test.YtbnlekhjgkojlaaGreatDoorPtChild
import Derived.Test.YtbnlekhjgkojlaaGreatDoorPtNo2
import Derived.Test.YtbnlekhjgkojlaaGreatDoorQoAst
import Derived.Laws.Concat
set_option linter.unusedVariables false
namespace Go.Proofs.YtbnlekhjgkojlaaGreatDoor
set_option maxRecDepth 100000
open Go.RowKit
theorem childBegins_use {pb b c : Nat} {T : List Tok} {st : Pst} {w W : World} (ht : RTab w pb) (h : PaS W pb b c T st) (hg : GrowA pb w W) (hT : T.length ≤ 200) (hat : st.at' ≤ 300) {v : Bool} (hc : childB (seeM T st 0) (seeM T st 1) (seeM T st 2) = v) :
 Calls Tryz.prog 125 #[.pointer (some ⟨pb, 0, none⟩)] W fun e w' => e = .returned (.bool v) ∧ Below W.heap.size W w' := by
 have := childBegins_any h hT hat (ht.grow hg).2.1
 rw [hc] at this
 exact this
set_option maxHeartbeats 1600000 in
theorem bareStep_word {pb b c : Nat} {T : List Tok} {st : Pst} {us u1s : ByteArray} {un u1k u1n : Int} {s2 : Pst} {p : Ph} (hT : T.length ≤ 200) (hat : st.at' ≤ 300) (hu : seeM T st 0 = ⟨1, us, un⟩) (hu1 : seeM T st 1 = ⟨u1k, u1s, u1n⟩) (n1 : eqT ⟨u1k, u1s, u1n⟩ ⟨5, ⟨#[58, 58]⟩, 0⟩ = false) (n2 : eqT ⟨1, us, un⟩ ⟨5, ⟨#[64]⟩, 0⟩ = false) (n3 : eqT ⟨1, us, un⟩ ⟨5, ⟨#[46, 46]⟩, 0⟩ = false) (hc : childB (seeM T st 0) (seeM T st 1) (seeM T st 2) = false) (hlu : RunT pb b c T 126 #[.pointer (some ⟨pb, 0, none⟩)] st s2 p) : RunT pb b c T 122 #[.pointer (some ⟨pb, 0, none⟩)] st s2 p := by
 intro w h htb
 have HTB : Hid (RTab w pb) := htb
 clear htb
 have HLU : Hid (RunT pb b c T 126 #[.pointer (some ⟨pb, 0, none⟩)] st s2 p) := hlu
 clear hlu
 have EF := field_kind 1 un us
 have E1 := eqT_run n1
 have hpl := h.pl
 have hbl := h.bl
 go_enter Tryz.func122, Tryz.ntmps122
 go_upto_region 1 with fail
 obtain ⟨W1, hW1⟩ : ∃ W, W = w.alloc (.cells #[.int .i64 0, .int .i64 0, .int .i64 0, .string ⟨#[]⟩, .string ⟨#[]⟩, .int .i64 0, .int .i64 0, .int .i64 0, .string ⟨#[]⟩, .slice none 0 0, .slice none 0 0] 36) := ⟨_, rfl⟩
 have HG1 : Hid (GrowA pb w W1) := by rw [hW1]; exact (GrowA.refl _ _).alloc _
 have HP1 : Hid (PaS W1 pb b c T st) := by rw [hW1]; exact h.allocI _
 have HR1 : Hid (PhZ W1 w.heap.size) := by rw [hW1]; exact PhB.new w _
 rw [← hW1]
 obtain ⟨r, hr⟩ : ∃ r, r = w.heap.size := ⟨_, rfl⟩
 have HRW : Hid (w.heap.size ≤ r) := Nat.le_of_eq hr.symm
 have hrp : r ≠ pb := by omega
 have hrb : r ≠ b := by omega
 rw [← hr] at HR1 ⊢
 clear hW1 hr h hpl hbl
 go_wp2_with (first
  | (go_at_call 65; (refine (see_lit HP1.out 0 (by omega) hT hat hu).mono ?_); rintro e w2 ⟨rfl, hb⟩; have HG2 : Hid (GrowA pb w w2) := (HG1.out.below hb); have HP2 : Hid (PaS w2 pb b c T st) := (HP1.out.below hb); have HR2 : Hid (PhZ w2 r) := (HR1.out.below hb); clear hb HP1 HG1 HR1)
  | (go_at_call 65; (refine (see_lit HP2.out 1 (by omega) hT hat hu1).mono ?_); rintro e w3 ⟨rfl, hb⟩; have HG3 : Hid (GrowA pb w w3) := (HG2.out.below hb); have HP3 : Hid (PaS w3 pb b c T st) := (HP2.out.below hb); have HR3 : Hid (PhZ w3 r) := (HR2.out.below hb); clear hb HP2 HG2 HR2)
  | (go_at_call 66; have HNX := HP3; refine (mark_is _ _).mono ?_; rintro e w4 ⟨rfl, hb⟩; have HG4 : Hid (GrowA pb w w4) := (HG3.out.below hb); have HP4 : Hid (PaS w4 pb b c T st) := (HP3.out.below hb); have HR4 : Hid (PhZ w4 r) := (HR3.out.below hb); clear hb HNX HP3 HG3 HR3)
  | (go_at_call 66; have HNX := HP4; refine (mark_is _ _).mono ?_; rintro e w5 ⟨rfl, hb⟩; have HG5 : Hid (GrowA pb w w5) := (HG4.out.below hb); have HP5 : Hid (PaS w5 pb b c T st) := (HP4.out.below hb); have HR5 : Hid (PhZ w5 r) := (HR4.out.below hb); clear hb HNX HP4 HG4 HR4)
  | (go_at_call 69; (refine (skip_no HP5.out hT hat _ _ _ (by rw [hu]; exact n2)).mono ?_); rintro e w6 ⟨rfl, hp, hg⟩; have HG6 : Hid (GrowA pb w w6) := (HG5.out.trans hg); have HP6 : Hid (PaS w6 pb b c T st) := hp; have HR6 : Hid (PhZ w6 r) := (HR5.out.grow hg hrp); clear hp hg HP5 HG5 HR5)
  | (go_at_call 66; have HNX := HP6; refine (mark_is _ _).mono ?_; rintro e w7 ⟨rfl, hb⟩; have HG7 : Hid (GrowA pb w w7) := (HG6.out.below hb); have HP7 : Hid (PaS w7 pb b c T st) := (HP6.out.below hb); have HR7 : Hid (PhZ w7 r) := (HR6.out.below hb); clear hb HNX HP6 HG6 HR6)
  | (go_at_call 69; (refine (skip_no HP7.out hT hat _ _ _ (by rw [hu]; exact n3)).mono ?_); rintro e w8 ⟨rfl, hp, hg⟩; have HG8 : Hid (GrowA pb w w8) := (HG7.out.trans hg); have HP8 : Hid (PaS w8 pb b c T st) := hp; have HR8 : Hid (PhZ w8 r) := (HR7.out.grow hg hrp); clear hp hg HP7 HG7 HR7)
  | (go_at_call 125; (refine (childBegins_use HTB.out HP8.out HG8.out hT hat hc).mono ?_); rintro e w9 ⟨rfl, hb⟩; have HG9 : Hid (GrowA pb w w9) := (HG8.out.below hb); have HP9 : Hid (PaS w9 pb b c T st) := (HP8.out.below hb); have HR9 : Hid (PhZ w9 r) := (HR8.out.below hb); clear hb HP8 HG8 HR8)
  | (go_at_call 126; (first | refine (HLU.out.use HTB.out HP9.out HG9.out (show r < _ from by have k := HR9.out.lt; first | exact k | (simp; omega))).mono ?_ | refine (HLU.out.use HTB.out (HP9.out.allocI _) (HG9.out.alloc _) (show r < _ from by have k := HR9.out.lt; first | exact k | (simp; omega))).mono ?_ | refine (HLU.out.use HTB.out ((HP9.out.allocI _).allocI _) ((HG9.out.alloc _).alloc _) (show r < _ from by have k := HR9.out.lt; first | exact k | (simp; omega))).mono ?_); rintro e w10 ⟨lo1, v, hlo, hv, rfl, hp, hg⟩; obtain ⟨k0_1, k1_1, k2_1, k5_1, k6_1, k7_1, s3_1, s4_1, s8_1, a9_1, a10_1, l9_1, c9_1, l10_1, c10_1, rfl⟩ := hv.form; have hlo1 := hlo.1; have hlp1 := hlo.2.1; have hlz1 := hlo.2.2; have HG10 : Hid (GrowA pb w w10) := (HG9.out.trans hg); have HP10 : Hid (PaS w10 pb b c T s2) := hp; have HR10 : Hid (PhZ w10 r) := (HR9.out.grow hg hrp); have HV1_10 : Hid (Tre w10 lo1 p [.int .i64 k0_1, .int .i64 k1_1, .int .i64 k2_1, .string s3_1, .string s4_1, .int .i64 k5_1, .int .i64 k6_1, .int .i64 k7_1, .string s8_1, .slice a9_1 l9_1 c9_1, .slice a10_1 l10_1 c10_1]) := hv; obtain ⟨⟨y0, y1, y2, y3, y4, y5, y6, y7, y8, y9, y10⟩, z0, z1, z2, z3, z4, z5, z6, z7, z8, z9, z10⟩ := HR10.out.cells; clear hv hlo hp hg HP9 HG9 HR9))
 refine bodyPost_ret (v := .agg #[.int .i64 k0_1, .int .i64 k1_1, .int .i64 k2_1, .string s3_1, .string s4_1, .int .i64 k5_1, .int .i64 k6_1, .int .i64 k7_1, .string s8_1, .slice a9_1 l9_1 c9_1, .slice a10_1 l10_1 c10_1]) (by simp [results, Tryz.results122, go_sem, y0, y1, y2, y3, y4, y5, y6, y7, y8, y9, y10]) rfl ⟨[.int .i64 k0_1, .int .i64 k1_1, .int .i64 k2_1, .string s3_1, .string s4_1, .int .i64 k5_1, .int .i64 k6_1, .int .i64 k7_1, .string s8_1, .slice a9_1 l9_1 c9_1, .slice a10_1 l10_1 c10_1], ?_, rfl, ?_, ?_⟩
 · (refine Tre.mono (lo := lo1) ?_ (by have := HRW.out; omega); (repeat (first | with_reducible refine Tre.setR ?_ hlo1 _ _ | with_reducible refine Tre.allocI ?_ _ | with_reducible exact HV1_10.out)))
 · (repeat (first | with_reducible refine PaS.setR ?_ hrp hrb _ _ | with_reducible refine PaS.allocI ?_ _ | exact HP10.out))
 · (repeat (first | with_reducible refine GrowA.setR ?_ HRW.out _ _ | with_reducible refine GrowA.alloc ?_ _ | exact HG10.out))
set_option maxHeartbeats 1600000 in
theorem bareStep_other {pb b c : Nat} {T : List Tok} {st : Pst} {us : ByteArray} {uk un : Int} {s2 : Pst} {p : Ph} (hT : T.length ≤ 200) (hat : st.at' ≤ 300) (hu : seeM T st 0 = ⟨uk, us, un⟩) (k1 : (uk == 1) = false) (n2 : eqT ⟨uk, us, un⟩ ⟨5, ⟨#[64]⟩, 0⟩ = false) (n3 : eqT ⟨uk, us, un⟩ ⟨5, ⟨#[46, 46]⟩, 0⟩ = false) (hc : childB (seeM T st 0) (seeM T st 1) (seeM T st 2) = false) (hlu : RunT pb b c T 126 #[.pointer (some ⟨pb, 0, none⟩)] st s2 p) : RunT pb b c T 122 #[.pointer (some ⟨pb, 0, none⟩)] st s2 p := by
 intro w h htb
 have HTB : Hid (RTab w pb) := htb
 clear htb
 have HLU : Hid (RunT pb b c T 126 #[.pointer (some ⟨pb, 0, none⟩)] st s2 p) := hlu
 clear hlu
 have EF := field_kind uk un us
 have hpl := h.pl
 have hbl := h.bl
 go_enter Tryz.func122, Tryz.ntmps122
 go_upto_region 1 with fail
 obtain ⟨W1, hW1⟩ : ∃ W, W = w.alloc (.cells #[.int .i64 0, .int .i64 0, .int .i64 0, .string ⟨#[]⟩, .string ⟨#[]⟩, .int .i64 0, .int .i64 0, .int .i64 0, .string ⟨#[]⟩, .slice none 0 0, .slice none 0 0] 36) := ⟨_, rfl⟩
 have HG1 : Hid (GrowA pb w W1) := by rw [hW1]; exact (GrowA.refl _ _).alloc _
 have HP1 : Hid (PaS W1 pb b c T st) := by rw [hW1]; exact h.allocI _
 have HR1 : Hid (PhZ W1 w.heap.size) := by rw [hW1]; exact PhB.new w _
 rw [← hW1]
 obtain ⟨r, hr⟩ : ∃ r, r = w.heap.size := ⟨_, rfl⟩
 have HRW : Hid (w.heap.size ≤ r) := Nat.le_of_eq hr.symm
 have hrp : r ≠ pb := by omega
 have hrb : r ≠ b := by omega
 rw [← hr] at HR1 ⊢
 clear hW1 hr h hpl hbl
 go_wp2_with (first
  | (go_at_call 65; (refine (see_lit HP1.out 0 (by omega) hT hat hu).mono ?_); rintro e w2 ⟨rfl, hb⟩; have HG2 : Hid (GrowA pb w w2) := (HG1.out.below hb); have HP2 : Hid (PaS w2 pb b c T st) := (HP1.out.below hb); have HR2 : Hid (PhZ w2 r) := (HR1.out.below hb); clear hb HP1 HG1 HR1)
  | (go_at_call 66; have HNX := HP2; refine (mark_is _ _).mono ?_; rintro e w3 ⟨rfl, hb⟩; have HG3 : Hid (GrowA pb w w3) := (HG2.out.below hb); have HP3 : Hid (PaS w3 pb b c T st) := (HP2.out.below hb); have HR3 : Hid (PhZ w3 r) := (HR2.out.below hb); clear hb HNX HP2 HG2 HR2)
  | (go_at_call 69; (refine (skip_no HP3.out hT hat _ _ _ (by rw [hu]; exact n2)).mono ?_); rintro e w4 ⟨rfl, hp, hg⟩; have HG4 : Hid (GrowA pb w w4) := (HG3.out.trans hg); have HP4 : Hid (PaS w4 pb b c T st) := hp; have HR4 : Hid (PhZ w4 r) := (HR3.out.grow hg hrp); clear hp hg HP3 HG3 HR3)
  | (go_at_call 66; have HNX := HP4; refine (mark_is _ _).mono ?_; rintro e w5 ⟨rfl, hb⟩; have HG5 : Hid (GrowA pb w w5) := (HG4.out.below hb); have HP5 : Hid (PaS w5 pb b c T st) := (HP4.out.below hb); have HR5 : Hid (PhZ w5 r) := (HR4.out.below hb); clear hb HNX HP4 HG4 HR4)
  | (go_at_call 69; (refine (skip_no HP5.out hT hat _ _ _ (by rw [hu]; exact n3)).mono ?_); rintro e w6 ⟨rfl, hp, hg⟩; have HG6 : Hid (GrowA pb w w6) := (HG5.out.trans hg); have HP6 : Hid (PaS w6 pb b c T st) := hp; have HR6 : Hid (PhZ w6 r) := (HR5.out.grow hg hrp); clear hp hg HP5 HG5 HR5)
  | (go_at_call 125; (refine (childBegins_use HTB.out HP6.out HG6.out hT hat hc).mono ?_); rintro e w7 ⟨rfl, hb⟩; have HG7 : Hid (GrowA pb w w7) := (HG6.out.below hb); have HP7 : Hid (PaS w7 pb b c T st) := (HP6.out.below hb); have HR7 : Hid (PhZ w7 r) := (HR6.out.below hb); clear hb HP6 HG6 HR6)
  | (go_at_call 126; (first | refine (HLU.out.use HTB.out HP7.out HG7.out (show r < _ from by have k := HR7.out.lt; first | exact k | (simp; omega))).mono ?_ | refine (HLU.out.use HTB.out (HP7.out.allocI _) (HG7.out.alloc _) (show r < _ from by have k := HR7.out.lt; first | exact k | (simp; omega))).mono ?_ | refine (HLU.out.use HTB.out ((HP7.out.allocI _).allocI _) ((HG7.out.alloc _).alloc _) (show r < _ from by have k := HR7.out.lt; first | exact k | (simp; omega))).mono ?_); rintro e w8 ⟨lo1, v, hlo, hv, rfl, hp, hg⟩; obtain ⟨k0_1, k1_1, k2_1, k5_1, k6_1, k7_1, s3_1, s4_1, s8_1, a9_1, a10_1, l9_1, c9_1, l10_1, c10_1, rfl⟩ := hv.form; have hlo1 := hlo.1; have hlp1 := hlo.2.1; have hlz1 := hlo.2.2; have HG8 : Hid (GrowA pb w w8) := (HG7.out.trans hg); have HP8 : Hid (PaS w8 pb b c T s2) := hp; have HR8 : Hid (PhZ w8 r) := (HR7.out.grow hg hrp); have HV1_8 : Hid (Tre w8 lo1 p [.int .i64 k0_1, .int .i64 k1_1, .int .i64 k2_1, .string s3_1, .string s4_1, .int .i64 k5_1, .int .i64 k6_1, .int .i64 k7_1, .string s8_1, .slice a9_1 l9_1 c9_1, .slice a10_1 l10_1 c10_1]) := hv; obtain ⟨⟨y0, y1, y2, y3, y4, y5, y6, y7, y8, y9, y10⟩, z0, z1, z2, z3, z4, z5, z6, z7, z8, z9, z10⟩ := HR8.out.cells; clear hv hlo hp hg HP7 HG7 HR7))
 refine bodyPost_ret (v := .agg #[.int .i64 k0_1, .int .i64 k1_1, .int .i64 k2_1, .string s3_1, .string s4_1, .int .i64 k5_1, .int .i64 k6_1, .int .i64 k7_1, .string s8_1, .slice a9_1 l9_1 c9_1, .slice a10_1 l10_1 c10_1]) (by simp [results, Tryz.results122, go_sem, y0, y1, y2, y3, y4, y5, y6, y7, y8, y9, y10]) rfl ⟨[.int .i64 k0_1, .int .i64 k1_1, .int .i64 k2_1, .string s3_1, .string s4_1, .int .i64 k5_1, .int .i64 k6_1, .int .i64 k7_1, .string s8_1, .slice a9_1 l9_1 c9_1, .slice a10_1 l10_1 c10_1], ?_, rfl, ?_, ?_⟩
 · (refine Tre.mono (lo := lo1) ?_ (by have := HRW.out; omega); (repeat (first | with_reducible refine Tre.setR ?_ hlo1 _ _ | with_reducible refine Tre.allocI ?_ _ | with_reducible exact HV1_8.out)))
 · (repeat (first | with_reducible refine PaS.setR ?_ hrp hrb _ _ | with_reducible refine PaS.allocI ?_ _ | exact HP8.out))
 · (repeat (first | with_reducible refine GrowA.setR ?_ HRW.out _ _ | with_reducible refine GrowA.alloc ?_ _ | exact HG8.out))
open Go.RowKit
set_option maxHeartbeats 1600000 in
theorem listUpTo_end {pb b c : Nat} {T : List Tok} {st : Pst} {ek : Int} {es : ByteArray} (hT : T.length ≤ 200) (hat : st.at' ≤ 300) (hs : eqT (seeM T st 0) ⟨ek, es, 0⟩ = true) : RunT pb b c T 130 #[.pointer (some ⟨pb, 0, none⟩), .agg #[.int .i64 ek, .string es, .int .i64 0]] st { st with at' := st.at' + 1 } (ph0 3 ⟨0, 0, ⟨#[]⟩⟩ ⟨#[]⟩ 0 0 0 ⟨#[]⟩) := by
 intro w h htb
 have HTB : Hid (RTab w pb) := htb
 clear htb
 have hpl := h.pl
 have hbl := h.bl
 go_enter Tryz.func130, Tryz.ntmps130
 go_upto_region 1 with fail
 obtain ⟨W1, hW1⟩ : ∃ W, W = (w.alloc (.cells #[.int .i64 ek, .string es, .int .i64 0] 41)).alloc (.cells #[.int .i64 0, .int .i64 0, .int .i64 0, .string ⟨#[]⟩, .string ⟨#[]⟩, .int .i64 0, .int .i64 0, .int .i64 0, .string ⟨#[]⟩, .slice none 0 0, .slice none 0 0] 36) := ⟨_, rfl⟩
 have HG1 : Hid (GrowA pb w W1) := by rw [hW1]; exact ((GrowA.refl _ _).alloc _).alloc _
 have HP1 : Hid (PaS W1 pb b c T st) := by rw [hW1]; exact (h.allocI _).allocI _
 have HR1 : Hid (PhZ W1 (w.heap.size + 1)) := by
  have k := PhB.new (w.alloc (.cells #[.int .i64 ek, .string es, .int .i64 0] 41)) #[.int .i64 0, .int .i64 0, .int .i64 0, .string ⟨#[]⟩, .string ⟨#[]⟩, .int .i64 0, .int .i64 0, .int .i64 0, .string ⟨#[]⟩, .slice none 0 0, .slice none 0 0]
  rw [show (w.alloc (.cells #[.int .i64 ek, .string es, .int .i64 0] 41)).heap.size = w.heap.size + 1 by simp] at k
  rw [hW1]; exact k
 have HY1 : Hid (TkB W1 w.heap.size #[.int .i64 ek, .string es, .int .i64 0]) := by rw [hW1]; exact (TkB.new w _).allocI _
 rw [← hW1]
 obtain ⟨r, hr⟩ : ∃ r, r = w.heap.size + 1 := ⟨_, rfl⟩
 have HRW : Hid (w.heap.size ≤ r) := (show w.heap.size ≤ r by omega)
 have hrp : r ≠ pb := by omega
 have htp : w.heap.size ≠ pb := by omega
 obtain ⟨d0, d1, d2⟩ := HY1.out.cells
 have hrb : r ≠ b := by omega
 rw [← hr] at HR1 ⊢
 clear hW1 hr h hpl hbl
 go_wp2_with (first
  | (go_at_call 69; (refine (skip_yes HP1.out hT hat _ _ _ hs).mono ?_); rintro e w2 ⟨rfl, hp, hg⟩; have HG2 : Hid (GrowA pb w w2) := (HG1.out.trans hg); have HP2 : Hid (PaS w2 pb b c T { st with at' := st.at' + 1 }) := hp; have HR2 : Hid (PhZ w2 r) := (HR1.out.grow hg hrp); have HY2 : Hid (TkB w2 w.heap.size #[.int .i64 ek, .string es, .int .i64 0]) := (HY1.out.grow hg htp); clear d0 d1 d2; obtain ⟨⟨y0, y1, y2, y3, y4, y5, y6, y7, y8, y9, y10⟩, z0, z1, z2, z3, z4, z5, z6, z7, z8, z9, z10⟩ := HR2.out.cells; clear hp hg HP1 HG1 HR1 HY1))
 refine bodyPost_ret (v := .agg #[.int .i64 3, .int .i64 0, .int .i64 0, .string ⟨#[]⟩, .string ⟨#[]⟩, .int .i64 0, .int .i64 0, .int .i64 0, .string ⟨#[]⟩, .slice none 0 0, .slice none 0 0]) (by simp [results, Tryz.results130, go_sem, y0, y1, y2, y3, y4, y5, y6, y7, y8, y9, y10]) rfl ⟨[.int .i64 3, .int .i64 0, .int .i64 0, .string ⟨#[]⟩, .string ⟨#[]⟩, .int .i64 0, .int .i64 0, .int .i64 0, .string ⟨#[]⟩, .slice none 0 0, .slice none 0 0], ?_, rfl, ?_, ?_⟩
 · exact tre_ph0
 · (repeat (first | with_reducible refine PaS.setR ?_ hrp hrb _ _ | with_reducible refine PaS.allocI ?_ _ | exact HP2.out))
 · (repeat (first | with_reducible refine GrowA.setR ?_ HRW.out _ _ | with_reducible refine GrowA.alloc ?_ _ | exact HG2.out))
set_option maxHeartbeats 1600000 in
theorem listUpTo_more {pb b c : Nat} {T : List Tok} {st : Pst} {ek : Int} {es : ByteArray} {s1 s2 : Pst} {p : Ph} (hT : T.length ≤ 200) (hat : st.at' ≤ 300) (hat1 : s1.at' ≤ 300) (hs : eqT (seeM T st 0) ⟨ek, es, 0⟩ = false) (hw : wantM T s1 ⟨ek, es, 0⟩ = s2) (hlu : RunT pb b c T 18 #[.pointer (some ⟨pb, 0, none⟩)] st s1 p) : RunT pb b c T 130 #[.pointer (some ⟨pb, 0, none⟩), .agg #[.int .i64 ek, .string es, .int .i64 0]] st s2 p := by
 intro w h htb
 have HTB : Hid (RTab w pb) := htb
 clear htb
 have HLU : Hid (RunT pb b c T 18 #[.pointer (some ⟨pb, 0, none⟩)] st s1 p) := hlu
 clear hlu
 have hpl := h.pl
 have hbl := h.bl
 go_enter Tryz.func130, Tryz.ntmps130
 go_upto_region 1 with fail
 obtain ⟨W1, hW1⟩ : ∃ W, W = (w.alloc (.cells #[.int .i64 ek, .string es, .int .i64 0] 41)).alloc (.cells #[.int .i64 0, .int .i64 0, .int .i64 0, .string ⟨#[]⟩, .string ⟨#[]⟩, .int .i64 0, .int .i64 0, .int .i64 0, .string ⟨#[]⟩, .slice none 0 0, .slice none 0 0] 36) := ⟨_, rfl⟩
 have HG1 : Hid (GrowA pb w W1) := by rw [hW1]; exact ((GrowA.refl _ _).alloc _).alloc _
 have HP1 : Hid (PaS W1 pb b c T st) := by rw [hW1]; exact (h.allocI _).allocI _
 have HR1 : Hid (PhZ W1 (w.heap.size + 1)) := by
  have k := PhB.new (w.alloc (.cells #[.int .i64 ek, .string es, .int .i64 0] 41)) #[.int .i64 0, .int .i64 0, .int .i64 0, .string ⟨#[]⟩, .string ⟨#[]⟩, .int .i64 0, .int .i64 0, .int .i64 0, .string ⟨#[]⟩, .slice none 0 0, .slice none 0 0]
  rw [show (w.alloc (.cells #[.int .i64 ek, .string es, .int .i64 0] 41)).heap.size = w.heap.size + 1 by simp] at k
  rw [hW1]; exact k
 have HY1 : Hid (TkB W1 w.heap.size #[.int .i64 ek, .string es, .int .i64 0]) := by rw [hW1]; exact (TkB.new w _).allocI _
 rw [← hW1]
 obtain ⟨r, hr⟩ : ∃ r, r = w.heap.size + 1 := ⟨_, rfl⟩
 have HRW : Hid (w.heap.size ≤ r) := (show w.heap.size ≤ r by omega)
 have hrp : r ≠ pb := by omega
 have htp : w.heap.size ≠ pb := by omega
 obtain ⟨d0, d1, d2⟩ := HY1.out.cells
 have hrb : r ≠ b := by omega
 rw [← hr] at HR1 ⊢
 clear hW1 hr h hpl hbl
 go_wp2_with (first
  | (go_at_call 69; (refine (skip_no HP1.out hT hat _ _ _ hs).mono ?_); rintro e w2 ⟨rfl, hp, hg⟩; have HG2 : Hid (GrowA pb w w2) := (HG1.out.trans hg); have HP2 : Hid (PaS w2 pb b c T st) := hp; have HR2 : Hid (PhZ w2 r) := (HR1.out.grow hg hrp); have HY2 : Hid (TkB w2 w.heap.size #[.int .i64 ek, .string es, .int .i64 0]) := (HY1.out.grow hg htp); clear d0 d1 d2; clear hp hg HP1 HG1 HR1 HY1)
  | (go_at_call 18; (first | refine (HLU.out.use HTB.out HP2.out HG2.out (show r < _ from by have k := HR2.out.lt; first | exact k | (simp; omega))).mono ?_ | refine (HLU.out.use HTB.out (HP2.out.allocI _) (HG2.out.alloc _) (show r < _ from by have k := HR2.out.lt; first | exact k | (simp; omega))).mono ?_ | refine (HLU.out.use HTB.out ((HP2.out.allocI _).allocI _) ((HG2.out.alloc _).alloc _) (show r < _ from by have k := HR2.out.lt; first | exact k | (simp; omega))).mono ?_); rintro e w3 ⟨lo1, v, hlo, hv, rfl, hp, hg⟩; obtain ⟨k0_1, k1_1, k2_1, k5_1, k6_1, k7_1, s3_1, s4_1, s8_1, a9_1, a10_1, l9_1, c9_1, l10_1, c10_1, rfl⟩ := hv.form; have hlo1 := hlo.1; have hlp1 := hlo.2.1; have hlz1 := hlo.2.2; have HG3 : Hid (GrowA pb w w3) := (HG2.out.trans hg); have HP3 : Hid (PaS w3 pb b c T s1) := hp; have HR3 : Hid (PhZ w3 r) := (HR2.out.grow hg hrp); have HY3 : Hid (TkB w3 w.heap.size #[.int .i64 ek, .string es, .int .i64 0]) := (HY2.out.grow hg htp); have HV1_3 : Hid (Tre w3 lo1 p [.int .i64 k0_1, .int .i64 k1_1, .int .i64 k2_1, .string s3_1, .string s4_1, .int .i64 k5_1, .int .i64 k6_1, .int .i64 k7_1, .string s8_1, .slice a9_1 l9_1 c9_1, .slice a10_1 l10_1 c10_1]) := hv; obtain ⟨e0, e1, e2⟩ := HY3.out.cells; have hy3 := HY3.out.lt; have hxp : w3.heap.size ≠ pb := (by have := HP3.out.pl; omega); clear hv hlo hp hg HP2 HG2 HR2 HY2)
  | (go_at_call 96; (refine (want_eq (HP3.out.allocI _) hT hat1 hw).mono ?_); rintro e w4 ⟨rfl, hp, hg⟩; have HG4 : Hid (GrowA pb w w4) := ((HG3.out.alloc _).trans hg); have HP4 : Hid (PaS w4 pb b c T s2) := hp; have HR4 : Hid (PhZ w4 r) := ((HR3.out.allocI _).grow hg hrp); have HY4 : Hid (TkB w4 w.heap.size #[.int .i64 ek, .string es, .int .i64 0]) := ((HY3.out.allocI _).grow hg htp); have HV1_4 : Hid (Tre w4 lo1 p [.int .i64 k0_1, .int .i64 k1_1, .int .i64 k2_1, .string s3_1, .string s4_1, .int .i64 k5_1, .int .i64 k6_1, .int .i64 k7_1, .string s8_1, .slice a9_1 l9_1 c9_1, .slice a10_1 l10_1 c10_1]) := ((HV1_3.out.allocI _).grow hg hlp1); have HX4 : Hid (PhB w4 w3.heap.size #[.int .i64 k0_1, .int .i64 k1_1, .int .i64 k2_1, .string s3_1, .string s4_1, .int .i64 k5_1, .int .i64 k6_1, .int .i64 k7_1, .string s8_1, .slice a9_1 l9_1 c9_1, .slice a10_1 l10_1 c10_1]) := (PhB.new w3 #[.int .i64 k0_1, .int .i64 k1_1, .int .i64 k2_1, .string s3_1, .string s4_1, .int .i64 k5_1, .int .i64 k6_1, .int .i64 k7_1, .string s8_1, .slice a9_1 l9_1 c9_1, .slice a10_1 l10_1 c10_1]).grow hg hxp; obtain ⟨⟨y0, y1, y2, y3, y4, y5, y6, y7, y8, y9, y10⟩, z0, z1, z2, z3, z4, z5, z6, z7, z8, z9, z10⟩ := HR4.out.cells; obtain ⟨⟨m0, m1, m2, m3, m4, m5, m6, m7, m8, m9, m10⟩, j0, j1, j2, j3, j4, j5, j6, j7, j8, j9, j10⟩ := HX4.out.cells; clear hp hg HP3 HG3 HR3 HY3 HV1_3))
 refine bodyPost_ret (v := .agg #[.int .i64 k0_1, .int .i64 k1_1, .int .i64 k2_1, .string s3_1, .string s4_1, .int .i64 k5_1, .int .i64 k6_1, .int .i64 k7_1, .string s8_1, .slice a9_1 l9_1 c9_1, .slice a10_1 l10_1 c10_1]) (by simp [results, Tryz.results130, go_sem, y0, y1, y2, y3, y4, y5, y6, y7, y8, y9, y10]) rfl ⟨[.int .i64 k0_1, .int .i64 k1_1, .int .i64 k2_1, .string s3_1, .string s4_1, .int .i64 k5_1, .int .i64 k6_1, .int .i64 k7_1, .string s8_1, .slice a9_1 l9_1 c9_1, .slice a10_1 l10_1 c10_1], ?_, rfl, ?_, ?_⟩
 · (refine Tre.mono (lo := lo1) ?_ (by have := HRW.out; omega); (repeat (first | with_reducible refine Tre.setR ?_ hlo1 _ _ | with_reducible refine Tre.allocI ?_ _ | with_reducible exact HV1_4.out)))
 · (repeat (first | with_reducible refine PaS.setR ?_ hrp hrb _ _ | with_reducible refine PaS.allocI ?_ _ | exact HP4.out))
 · (repeat (first | with_reducible refine GrowA.setR ?_ HRW.out _ _ | with_reducible refine GrowA.alloc ?_ _ | exact HG4.out))
open Go.RowKit
set_option maxHeartbeats 1600000 in
theorem cons_text {pb b c : Nat} {T : List Tok} {st : Pst} {us : ByteArray} {un : Int} {s2 s3 : Pst} {p : Ph} (hT : T.length ≤ 200) (hat : st.at' ≤ 300) (hu : seeM T st 0 = ⟨1, us, un⟩) (hs : us.size ≤ 4000) (n1 : (us.toList == [101, 108, 101, 109, 101, 110, 116]) = false) (n2 : (us.toList == [97, 116, 116, 114, 105, 98, 117, 116, 101]) = false) (ha1 : st.at' + 1 ≤ 300) (hw : wantM T { st with at' := st.at' + 1 } ⟨5, ⟨#[123]⟩, 0⟩ = s2) (hlu : RunT pb b c T 130 #[.pointer (some ⟨pb, 0, none⟩), .agg #[.int .i64 5, .string ⟨#[125]⟩, .int .i64 0]] s2 s3 p) : RunT pb b c T 131 #[.pointer (some ⟨pb, 0, none⟩)] st s3 (phN 10 ⟨0, 0, ⟨#[]⟩⟩ ⟨#[]⟩ 3 0 0 ⟨#[]⟩ 1 (fun _ => p)) := by
 intro w h htb
 have HTB : Hid (RTab w pb) := htb
 clear htb
 have HLU : Hid (RunT pb b c T 130 #[.pointer (some ⟨pb, 0, none⟩), .agg #[.int .i64 5, .string ⟨#[125]⟩, .int .i64 0]] s2 s3 p) := hlu
 clear hlu
 have hpl := h.pl
 have hbl := h.bl
 go_enter Tryz.func131, Tryz.ntmps131
 go_upto_region 1 with fail
 obtain ⟨W1, hW1⟩ : ∃ W, W = w.alloc (.cells #[.int .i64 0, .int .i64 0, .int .i64 0, .string ⟨#[]⟩, .string ⟨#[]⟩, .int .i64 0, .int .i64 0, .int .i64 0, .string ⟨#[]⟩, .slice none 0 0, .slice none 0 0] 36) := ⟨_, rfl⟩
 have HG1 : Hid (GrowA pb w W1) := by rw [hW1]; exact (GrowA.refl _ _).alloc _
 have HP1 : Hid (PaS W1 pb b c T st) := by rw [hW1]; exact h.allocI _
 have HR1 : Hid (PhZ W1 w.heap.size) := by rw [hW1]; exact PhB.new w _
 rw [← hW1]
 obtain ⟨r, hr⟩ : ∃ r, r = w.heap.size := ⟨_, rfl⟩
 have HRW : Hid (w.heap.size ≤ r) := Nat.le_of_eq hr.symm
 have hrp : r ≠ pb := by omega
 have hrb : r ≠ b := by omega
 rw [← hr] at HR1 ⊢
 clear hW1 hr h hpl hbl
 have hxp : W1.heap.size ≠ pb := by have := HP1.out.pl; omega
 have hxb : W1.heap.size ≠ b := by have := HP1.out.bl; omega
 have hxw : w.heap.size ≤ W1.heap.size := HG1.out.1
 have hrx : r ≠ W1.heap.size := by have := HR1.out.lt; omega
 have hrx2 : r < W1.heap.size := HR1.out.lt
 go_upto_region 8 with (first
  | (go_at_call 97; (refine (text_yes (HP1.out.allocI _) hT hat hu hs).mono ?_); rintro e w2 ⟨rfl, hp, hg⟩; have HG2 : Hid (GrowA pb w w2) := ((HG1.out.alloc _).trans hg); have HP2 : Hid (PaS w2 pb b c T { st with at' := st.at' + 1 }) := hp; have HR2 : Hid (PhZ w2 r) := ((HR1.out.allocI _).grow hg hrp); have HX2 : Hid (PhB w2 W1.heap.size #[.int .i64 10, .int .i64 0, .int .i64 0, .string ⟨#[]⟩, .string ⟨#[]⟩, .int .i64 0, .int .i64 0, .int .i64 0, .string ⟨#[]⟩, .slice none 0 0, .slice none 0 0]) := (PhB.new W1 #[.int .i64 10, .int .i64 0, .int .i64 0, .string ⟨#[]⟩, .string ⟨#[]⟩, .int .i64 0, .int .i64 0, .int .i64 0, .string ⟨#[]⟩, .slice none 0 0, .slice none 0 0]).grow hg hxp; obtain ⟨⟨m0, m1, m2, m3, m4, m5, m6, m7, m8, m9, m10⟩, j0, j1, j2, j3, j4, j5, j6, j7, j8, j9, j10⟩ := HX2.out.cells; have hxl := HX2.out.lt; clear hp hg HP1 HG1 HR1))
 obtain ⟨W3, hW3⟩ : ∃ W, W = w2.setCell ⟨W1.heap.size, 5, none⟩ (.int .i64 3) := ⟨_, rfl⟩
 have HP3 : Hid (PaS W3 pb b c T { st with at' := st.at' + 1 }) := by rw [hW3]; exact HP2.out.setR hxp hxb 5 _
 have HG3 : Hid (GrowA pb w W3) := by rw [hW3]; exact HG2.out.setR hxw 5 _
 have HR3 : Hid (PhZ W3 r) := by rw [hW3]; exact HR2.out.setO hrx 5 _
 have HX3 : Hid (PhB W3 W1.heap.size #[.int .i64 10, .int .i64 0, .int .i64 0, .string ⟨#[]⟩, .string ⟨#[]⟩, .int .i64 3, .int .i64 0, .int .i64 0, .string ⟨#[]⟩, .slice none 0 0, .slice none 0 0]) := by rw [hW3]; exact HX2.out.setAt 5 (.int .i64 3)
 rw [← hW3]
 clear hW3 HP2 HG2 HR2 HX2 hxl m0 m1 m2 m3 m4 m5 m6 m7 m8 m9 m10 j0 j1 j2 j3 j4 j5 j6 j7 j8 j9 j10
 go_wp2_with (first
  | (go_at_call 66; have HNX := HP3; refine (mark_is _ _).mono ?_; rintro e w4 ⟨rfl, hb⟩; have HG4 : Hid (GrowA pb w w4) := (HG3.out.below hb); have HP4 : Hid (PaS w4 pb b c T { st with at' := st.at' + 1 }) := (HP3.out.below hb); have HR4 : Hid (PhZ w4 r) := (HR3.out.below hb); have HX4 : Hid (PhB w4 W1.heap.size #[.int .i64 10, .int .i64 0, .int .i64 0, .string ⟨#[]⟩, .string ⟨#[]⟩, .int .i64 3, .int .i64 0, .int .i64 0, .string ⟨#[]⟩, .slice none 0 0, .slice none 0 0]) := (HX3.out.below hb); clear hb HNX HP3 HG3 HR3 HX3)
  | (go_at_call 96; (refine (want_eq HP4.out hT ha1 hw).mono ?_); rintro e w5 ⟨rfl, hp, hg⟩; have HG5 : Hid (GrowA pb w w5) := (HG4.out.trans hg); have HP5 : Hid (PaS w5 pb b c T s2) := hp; have HR5 : Hid (PhZ w5 r) := (HR4.out.grow hg hrp); have HX5 : Hid (PhB w5 W1.heap.size #[.int .i64 10, .int .i64 0, .int .i64 0, .string ⟨#[]⟩, .string ⟨#[]⟩, .int .i64 3, .int .i64 0, .int .i64 0, .string ⟨#[]⟩, .slice none 0 0, .slice none 0 0]) := (HX4.out.grow hg hxp); clear hp hg HP4 HG4 HR4 HX4)
  | (go_at_call 66; have HNX := HP5; refine (mark_is _ _).mono ?_; rintro e w6 ⟨rfl, hb⟩; have HG6 : Hid (GrowA pb w w6) := (HG5.out.below hb); have HP6 : Hid (PaS w6 pb b c T s2) := (HP5.out.below hb); have HR6 : Hid (PhZ w6 r) := (HR5.out.below hb); have HX6 : Hid (PhB w6 W1.heap.size #[.int .i64 10, .int .i64 0, .int .i64 0, .string ⟨#[]⟩, .string ⟨#[]⟩, .int .i64 3, .int .i64 0, .int .i64 0, .string ⟨#[]⟩, .slice none 0 0, .slice none 0 0]) := (HX5.out.below hb); clear hb HNX HP5 HG5 HR5 HX5)
  | (go_at_call 130; (first | refine (HLU.out.use HTB.out HP6.out HG6.out (show W1.heap.size < _ from by have k := HX6.out.lt; first | exact k | (simp; omega))).mono ?_ | refine (HLU.out.use HTB.out (HP6.out.allocI _) (HG6.out.alloc _) (show W1.heap.size < _ from by have k := HX6.out.lt; first | exact k | (simp; omega))).mono ?_ | refine (HLU.out.use HTB.out ((HP6.out.allocI _).allocI _) ((HG6.out.alloc _).alloc _) (show W1.heap.size < _ from by have k := HX6.out.lt; first | exact k | (simp; omega))).mono ?_); rintro e w7 ⟨lo1, v, hlo, hv, rfl, hp, hg⟩; obtain ⟨k0_1, k1_1, k2_1, k5_1, k6_1, k7_1, s3_1, s4_1, s8_1, a9_1, a10_1, l9_1, c9_1, l10_1, c10_1, rfl⟩ := hv.form; have hlo1 := hlo.1; have hlp1 := hlo.2.1; have hlz1 := hlo.2.2; have HG7 : Hid (GrowA pb w w7) := (HG6.out.trans hg); have HP7 : Hid (PaS w7 pb b c T s3) := hp; have HR7 : Hid (PhZ w7 r) := (HR6.out.grow hg hrp); have HX7 : Hid (PhB w7 W1.heap.size #[.int .i64 10, .int .i64 0, .int .i64 0, .string ⟨#[]⟩, .string ⟨#[]⟩, .int .i64 3, .int .i64 0, .int .i64 0, .string ⟨#[]⟩, .slice none 0 0, .slice none 0 0]) := (HX6.out.grow hg hxp); have HV1_7 : Hid (Tre w7 lo1 p [.int .i64 k0_1, .int .i64 k1_1, .int .i64 k2_1, .string s3_1, .string s4_1, .int .i64 k5_1, .int .i64 k6_1, .int .i64 k7_1, .string s8_1, .slice a9_1 l9_1 c9_1, .slice a10_1 l10_1 c10_1]) := hv; obtain ⟨⟨y0, y1, y2, y3, y4, y5, y6, y7, y8, y9, y10⟩, z0, z1, z2, z3, z4, z5, z6, z7, z8, z9, z10⟩ := HR7.out.cells; obtain ⟨⟨m0, m1, m2, m3, m4, m5, m6, m7, m8, m9, m10⟩, j0, j1, j2, j3, j4, j5, j6, j7, j8, j9, j10⟩ := HX7.out.cells; have hxz := HX7.out.lt; have hrz := HR7.out.lt; clear hv hlo hp hg HP6 HG6 HR6 HX6))
 refine bodyPost_ret (v := .agg #[.int .i64 10, .int .i64 0, .int .i64 0, .string ⟨#[]⟩, .string ⟨#[]⟩, .int .i64 3, .int .i64 0, .int .i64 0, .string ⟨#[]⟩, .slice (some ⟨w7.heap.size, 0, none⟩) 1 1, .slice none 0 0]) (by simp [results, Tryz.results131, go_sem, hrz, y0, y1, y2, y3, y4, y5, y6, y7, y8, y9, y10]) rfl ⟨[.int .i64 10, .int .i64 0, .int .i64 0, .string ⟨#[]⟩, .string ⟨#[]⟩, .int .i64 3, .int .i64 0, .int .i64 0, .string ⟨#[]⟩, .slice (some ⟨w7.heap.size, 0, none⟩) 1 1, .slice none 0 0], ?_, rfl, ?_, ?_⟩
 · (have hlr1 : r < lo1 := by omega)
   refine Tre.mono (lo := lo1) ?_ (by have := HRW.out; omega)
   refine Phs.tre (A := fun _ => p) (v := .slice (some ⟨w7.heap.size, 0, none⟩) 1 1) ?_
   (repeat (first | with_reducible refine Phs.setR ?_ hlr1 _ _ | with_reducible refine Phs.setR ?_ hlo1 _ _))
   refine phs_at (by simp) ?_ hlz1 rfl
   (repeat (first | with_reducible refine Tre.setR ?_ hlr1 _ _ | with_reducible refine Tre.setR ?_ hlo1 _ _ | with_reducible refine Tre.allocI ?_ _ | with_reducible exact HV1_7.out))
 · (repeat (first | with_reducible refine PaS.setR ?_ hrp hrb _ _ | with_reducible refine PaS.setR ?_ hxp hxb _ _ | with_reducible refine PaS.allocI ?_ _ | exact HP7.out))
 · (repeat (first | with_reducible refine GrowA.setR ?_ HRW.out _ _ | with_reducible refine GrowA.setR ?_ hxw _ _ | with_reducible refine GrowA.alloc ?_ _ | exact HG7.out))
open Go.RowKit
set_option maxHeartbeats 6400000 in
theorem qtext_is (d : Int) (n : Nat) (hd : -10 ≤ d ∧ d ≤ 10) (hn : n ≤ 100000) (HN : 0 < d → NumOk (d - 1) n) : TextOk d (n + 40) := by
 intro w0 w pb dt h
 have hpw := h.lt
 have CN : Hid (Calls Tryz.prog 34 #[.pointer (some ⟨pb, 0, none⟩)] w fun e w' => ∃ r, e = .returned (.agg #[.int .i64 r.k, .int .i64 r.a, .int .i64 r.b, .int .i64 r.c, .string r.t]) ∧ RwFine r ∧ GrowQ pb w w' ∧ PoS w0 w' pb dt) := next_is h
 clear h
 go_enter Tryz.func37, Tryz.ntmps37
 go_upto_region 2 with (first
  | (go_at_call 34; refine CN.out.mono ?_; rintro e w1 ⟨r, rfl, hr, hg1, hp1⟩; have HG1 : Hid (GrowQ pb w w1) := hg1; have HP1 : Hid (PoS w0 w1 pb dt) := hp1; have HR : Hid (RwFine r) := hr; clear hg1 hp1 hr))
 obtain ⟨⟨rk, ra, rb', rc, rt⟩, hre⟩ : ∃ q, q = r := ⟨_, rfl⟩
 subst hre
 obtain ⟨W2, hW2⟩ : ∃ W, W = w1.alloc (.cells #[.int .i64 rk, .int .i64 ra, .int .i64 rb', .int .i64 rc, .string rt] 81) := ⟨_, rfl⟩
 have hx0 : W2.cell? ⟨w1.heap.size, 0, none⟩ = some (.int .i64 rk) := by rw [hW2]; simp
 have hx1 : W2.cell? ⟨w1.heap.size, 1, none⟩ = some (.int .i64 ra) := by rw [hW2]; simp
 have hx2 : W2.cell? ⟨w1.heap.size, 2, none⟩ = some (.int .i64 rb') := by rw [hW2]; simp
 have hx4 : W2.cell? ⟨w1.heap.size, 4, none⟩ = some (.string rt) := by rw [hW2]; simp
 have hxs : W2.heap.size = w1.heap.size + 1 := by rw [hW2]; simp
 have HP2 : Hid (PoS w0 W2 pb dt) := by rw [hW2]; exact HP1.out.below ((Below.refl _ _).alloc (Nat.le_refl _) _)
 have HG2 : Hid (GrowQ pb w W2) := by rw [hW2]; exact HG1.out.alloc _
 dsimp only
 rw [← hW2]
 clear hW2
 obtain ⟨ri, hri⟩ : ∃ b, b = w1.heap.size := ⟨_, rfl⟩
 rw [← hri] at hx0 hx1 hx2 hx4 hxs ⊢
 have hpri : pb < ri := by rw [hri]; exact HP1.out.lt
 clear hri HP1 HG1 CN
 obtain ⟨v0, n0, X0, hpo, _, _⟩ := HP2.out.st
 obtain ⟨y0, y1, y2, y3, y4⟩ := hpo
 have hlt : ri < W2.heap.size := by omega
 obtain ⟨q5, hq5, q5_lt⟩ := pk_nat (n := rk) (m := 5) (by omega)
 have Cq5 : Hid (∀ W, Calls Tryz.prog 10 #[.int .i64 rk, .int .i64 5] W fun e w' => e = .returned (.int .i64 q5) ∧ W = w') := fun W => (picked_is rk 5 W HR.out.1 (by omega) (by omega)).mono fun e w' ⟨k1, k2⟩ => ⟨by rw [k1]; exact ret_int hq5, k2.symm⟩
 clear hq5
 have CP3 : Hid (∀ W, Calls Tryz.prog 61 #[.string rt, .int .i64 3] W fun e w' => ∃ x : ByteArray, Let x.data.toList ∧ x.size ≤ 6 ∧ e = .returned (.string x) ∧ Below W.heap.size W w') := fun W => by
  have k := plain_any rt 3 W HR.out.2.2.2.2 (by omega)
  exact k.mono fun e w' ⟨k1, k2⟩ => ⟨_, pl_let _ _, by rw [pl_size]; omega, k1, k2⟩
 have CP4 : Hid (∀ W, Calls Tryz.prog 61 #[.string rt, .int .i64 4] W fun e w' => ∃ x : ByteArray, Let x.data.toList ∧ x.size ≤ 6 ∧ e = .returned (.string x) ∧ Below W.heap.size W w') := fun W => by
  have k := plain_any rt 4 W HR.out.2.2.2.2 (by omega)
  exact k.mono fun e w' ⟨k1, k2⟩ => ⟨_, pl_let _ _, by rw [pl_size]; omega, k1, k2⟩
 have CP6 : Hid (∀ W, Calls Tryz.prog 61 #[.string rt, .int .i64 6] W fun e w' => ∃ x : ByteArray, Let x.data.toList ∧ x.size ≤ 6 ∧ e = .returned (.string x) ∧ Below W.heap.size W w') := fun W => by
  have k := plain_any rt 6 W HR.out.2.2.2.2 (by omega)
  exact k.mono fun e w' ⟨k1, k2⟩ => ⟨_, pl_let _ _, by rw [pl_size]; omega, k1, k2⟩
 have e5 : q5 = 0 ∨ q5 = 1 ∨ q5 = 2 ∨ q5 = 3 ∨ q5 = 4 := by omega
 rcases e5 with rfl | rfl | rfl | rfl | rfl
 · go_wp2_with (first
    | (go_at_call 10; refine (Cq5.out _).mono ?_; rintro e w4 ⟨rfl, rfl⟩; clear Cq5)
    | (go_at_call 61; refine (CP3.out _).mono ?_; rintro e w3 ⟨x, hx, hxl, rfl, hb⟩; have HX : Hid (Let x.data.toList) := hx; have HG3 : Hid (GrowQ pb w w3) := (HG2.out.below hb); have HP3 : Hid (PoS w0 w3 pb _) := (HP2.out.below hb); clear hx hb))
   all_goals
    go_ret
    exact ⟨_, (tx_concat HX.out hxl).more (by omega), rfl, HG3.out, HP3.out⟩
 · cases dt
   · 
     go_wp2_with (first
      | (go_at_call 10; refine (Cq5.out _).mono ?_; rintro e w4 ⟨rfl, rfl⟩; clear Cq5)
      | (go_at_call 61; refine (CP4.out _).mono ?_; rintro e w3 ⟨x, hx, hxl, rfl, hb⟩; have HX : Hid (Let x.data.toList) := hx; have HG3 : Hid (GrowQ pb w w3) := (HG2.out.below hb); have HP3 : Hid (PoS w0 w3 pb _) := (HP2.out.below hb); clear hx hb))
     all_goals
      go_ret
      exact ⟨_, (tx_quoted HX.out hxl).more (by omega), rfl, HG3.out, HP3.out⟩
   · go_wp2_with (first | (go_at_call 10; refine (Cq5.out _).mono ?_; rintro e w4 ⟨rfl, rfl⟩; clear Cq5))
     all_goals
      go_ret
      exact ⟨_, tx_name.more (by omega), rfl, HG2.out, HP2.out⟩
 · obtain ⟨ia, hia, ia_lt⟩ := pk_nat (n := ra) (m := 5) (by omega)
   have CA : Hid (∀ W, Calls Tryz.prog 10 #[.int .i64 ra, .int .i64 5] W fun e w' => e = .returned (.int .i64 ia) ∧ W = w') := fun W => (picked_is ra 5 W HR.out.2.1 (by omega) (by omega)).mono fun e w' ⟨k1, k2⟩ => ⟨by rw [k1]; exact ret_int hia, k2.symm⟩
   obtain ⟨ib, hib, ib_lt⟩ := pk_nat (n := rb') (m := 5) (by omega)
   have CB : Hid (∀ W, Calls Tryz.prog 10 #[.int .i64 rb', .int .i64 5] W fun e w' => e = .returned (.int .i64 ib) ∧ W = w') := fun W => (picked_is rb' 5 W HR.out.2.2.1 (by omega) (by omega)).mono fun e w' ⟨k1, k2⟩ => ⟨by rw [k1]; exact ret_int hib, k2.symm⟩
   obtain ⟨zi, hzi⟩ : ∃ z : ByteArray, z = ⟨(Lib.decDigits ia).toArray⟩ := ⟨_, rfl⟩
   obtain ⟨zj, hzj⟩ : ∃ z : ByteArray, z = ⟨(Lib.decDigits ib).toArray⟩ := ⟨_, rfl⟩
   have CI : Hid (∀ W, Calls Tryz.prog 39 #[.int .i64 ia] W fun e w' => e = .returned (.string zi) ∧ W = w') := fun W => (Tryz.strconv_Itoa_small ia (by omega) W).mono fun e w' ⟨k1, k2⟩ => ⟨by rw [hzi]; exact k1, k2.symm⟩
   have CJ : Hid (∀ W, Calls Tryz.prog 39 #[.int .i64 ib] W fun e w' => e = .returned (.string zj) ∧ W = w') := fun W => (Tryz.strconv_Itoa_small ib (by omega) W).mono fun e w' ⟨k1, k2⟩ => ⟨by rw [hzj]; exact k1, k2.symm⟩
   have hzl : zi.size ≤ 2 := by rw [hzi]; exact dec_len (by omega)
   have hzm : zj.size ≤ 2 := by rw [hzj]; exact dec_len (by omega)
   have HT : Hid (∀ x : ByteArray, Let x.data.toList → x.size ≤ 6 → TextP .txt dt d (⟨#[115, 117, 98, 115, 116, 114, 105, 110, 103, 40, 34]⟩ ++ x ++ ⟨#[34, 44, 32]⟩ ++ zi ++ ⟨#[44, 32]⟩ ++ zj ++ ⟨#[41]⟩) 40) := fun x hx hl => by rw [hzi, hzj]; exact tx_substr hx hl (by omega) (by omega)
   clear hia hib hzi hzj
   have CPX : Hid (∀ W, Below W2.heap.size W2 W → Calls Tryz.prog 61 #[.string rt, .int .i64 6] W fun e w' => ∃ x : ByteArray, Let x.data.toList ∧ x.size ≤ 6 ∧ e = .returned (.string x) ∧ Below W2.heap.size W2 w') := fun W hW => (CP6.out W).mono fun e w' ⟨x, k1, k2, k3, k4⟩ => ⟨x, k1, k2, k3, hW.trans (k4.mono hW.size)⟩
   have HSS : Hid (∀ W, Below W2.heap.size W2 W → W.cell? ⟨ri, 1, none⟩ = some (.int .i64 ra) ∧ W.cell? ⟨ri, 2, none⟩ = some (.int .i64 rb') ∧ W.cell? ⟨ri, 4, none⟩ = some (.string rt) ∧ ri < W.heap.size) := fun W h => ⟨(h.cell (p := ⟨ri, 1, none⟩) hlt).trans hx1, (h.cell (p := ⟨ri, 2, none⟩) hlt).trans hx2, (h.cell (p := ⟨ri, 4, none⟩) hlt).trans hx4, Nat.lt_of_lt_of_le hlt h.size⟩
   go_upto_region 9 with (first | (go_at_call 10; refine (Cq5.out _).mono ?_; rintro e w4 ⟨rfl, rfl⟩; clear Cq5))
   go_region_held3 (fun W => W.cell? ⟨ri, 1, none⟩ = some (.int .i64 ra) ∧ W.cell? ⟨ri, 2, none⟩ = some (.int .i64 rb') ∧ W.cell? ⟨ri, 4, none⟩ = some (.string rt) ∧ ri < W.heap.size)
    ((refine HSS.out _ ?_; repeat (first | exact Hid.out (by assumption) | exact Below.refl _ _ | refine Below.drew ?_)))
    (first
     | (go_at_call 61; refine (CPX.out _ ?_).mono ?_; (focus (repeat (first | exact Below.refl _ _ | refine Below.drew ?_))); rintro e w3 ⟨x, hx, hxl, rfl, hb⟩; have HX : Hid (Let x.data.toList) := hx; have HB3 : Hid (Below W2.heap.size W2 w3) := hb; have hq1 : ¬ 9223372036854775807 < 11 + x.size := (by omega); have hq2 : ¬ 9223372036854775807 < 11 + x.size + 3 := (by omega); have hq3 : ¬ 9223372036854775807 < 11 + x.size + 3 + zi.size := (by omega); have hq4 : ¬ 9223372036854775807 < 11 + x.size + 3 + zi.size + 2 := (by omega); have hq5 : ¬ 9223372036854775807 < 11 + x.size + 3 + zi.size + 2 + zj.size := (by omega); have hq6 : ¬ 9223372036854775807 < 11 + x.size + 3 + zi.size + 2 + zj.size + 1 := (by omega); clear hx hb)
     | (go_at_call_has 10 (Value.int .i64 ra); refine (CA.out _).mono ?_; rintro e w4 ⟨rfl, rfl⟩)
     | (go_at_call_has 10 (Value.int .i64 rb'); refine (CB.out _).mono ?_; rintro e w4 ⟨rfl, rfl⟩)
     | (go_at_call_has 39 (Value.int .i64 ia); refine (CI.out _).mono ?_; rintro e w4 ⟨rfl, rfl⟩)
     | (go_at_call_has 39 (Value.int .i64 ib); refine (CJ.out _).mono ?_; rintro e w4 ⟨rfl, rfl⟩))
   all_goals
    go_wp2_with fail
    go_ret
    exact ⟨_, (HT.out x HX.out hxl).more (by omega), rfl, HG2.out.below HB3.out, HP2.out.below HB3.out⟩
 · by_cases hd0 : 0 < d
   · have CM : Hid (Calls Tryz.prog 36 #[.pointer (some ⟨pb, 0, none⟩), .int .i64 (d - 1)] W2 fun e w' => ∃ s, TextP .num dt (d - 1) s n ∧ e = .returned (.string s) ∧ GrowQ pb w w' ∧ PoS w0 w' pb dt) := (HN hd0 HP2.out).mono fun e w' ⟨s, k1, k2, k3, k4⟩ => ⟨s, k1, k2, HG2.out.trans k3, k4⟩
     have hwr : IntKind.i64.wrap (d - 1) = d - 1 := IntWalk.i64_in _ (by omega)
     go_wp2_with (first
      | (go_at_call 10; refine (Cq5.out _).mono ?_; rintro e w4 ⟨rfl, rfl⟩; clear Cq5)
      | (go_at_call 36; refine CM.out.mono ?_; rintro e w3 ⟨s, hs, rfl, hg, hp⟩; have HS : Hid (TextP .num dt (d - 1) s n) := hs; have HG3 : Hid (GrowQ pb w w3) := hg; have HP3 : Hid (PoS w0 w3 pb dt) := hp; have hs1 : s.size ≤ 100000 := (Nat.le_trans hs.2.2 hn); clear hs hg hp))
     all_goals
      go_ret
      exact ⟨_, (tx_string HS.out).more (by omega), rfl, HG3.out, HP3.out⟩
   · 
     go_wp2_with (first
      | (go_at_call 10; refine (Cq5.out _).mono ?_; rintro e w4 ⟨rfl, rfl⟩; clear Cq5)
      | (go_at_call 61; refine (CP4.out _).mono ?_; rintro e w3 ⟨x, hx, hxl, rfl, hb⟩; have HX : Hid (Let x.data.toList) := hx; have HG3 : Hid (GrowQ pb w w3) := (HG2.out.below hb); have HP3 : Hid (PoS w0 w3 pb _) := (HP2.out.below hb); clear hx hb))
     all_goals
      go_ret
      exact ⟨_, (tx_quoted HX.out hxl).more (by omega), rfl, HG3.out, HP3.out⟩
 · 
   go_wp2_with (first
    | (go_at_call 10; refine (Cq5.out _).mono ?_; rintro e w4 ⟨rfl, rfl⟩; clear Cq5)
    | (go_at_call 61; refine (CP4.out _).mono ?_; rintro e w3 ⟨x, hx, hxl, rfl, hb⟩; have HX : Hid (Let x.data.toList) := hx; have HG3 : Hid (GrowQ pb w w3) := (HG2.out.below hb); have HP3 : Hid (PoS w0 w3 pb _) := (HP2.out.below hb); clear hx hb))
   all_goals
    go_ret
    exact ⟨_, (tx_quoted HX.out hxl).more (by omega), rfl, HG3.out, HP3.out⟩
open Go.RowKit
set_option maxHeartbeats 6400000 in
theorem number0_is (d : Int) (n : Nat) (hd : -10 ≤ d ∧ d ≤ 0) (hn : n ≤ 50000) (HNo : NodOk (d - 1) n) (HTx : TextOk (d - 1) n) : NumOk d (n + 40) := by
 intro w0 w pb dt h
 have hpw := h.lt
 have CN : Hid (Calls Tryz.prog 34 #[.pointer (some ⟨pb, 0, none⟩)] w fun e w' => ∃ r, e = .returned (.agg #[.int .i64 r.k, .int .i64 r.a, .int .i64 r.b, .int .i64 r.c, .string r.t]) ∧ RwFine r ∧ GrowQ pb w w' ∧ PoS w0 w' pb dt) := next_is h
 clear h
 go_enter Tryz.func36, Tryz.ntmps36
 go_upto_region 2 with (first
  | (go_at_call 34; refine CN.out.mono ?_; rintro e w1 ⟨r, rfl, hr, hg1, hp1⟩; have HG1 : Hid (GrowQ pb w w1) := hg1; have HP1 : Hid (PoS w0 w1 pb dt) := hp1; have HR : Hid (RwFine r) := hr; clear hg1 hp1 hr))
 obtain ⟨⟨rk, ra, rb', rc, rt⟩, hre⟩ : ∃ q, q = r := ⟨_, rfl⟩
 subst hre
 obtain ⟨W2, hW2⟩ : ∃ W, W = w1.alloc (.cells #[.int .i64 rk, .int .i64 ra, .int .i64 rb', .int .i64 rc, .string rt] 81) := ⟨_, rfl⟩
 have hx0 : W2.cell? ⟨w1.heap.size, 0, none⟩ = some (.int .i64 rk) := by rw [hW2]; simp
 have hx1 : W2.cell? ⟨w1.heap.size, 1, none⟩ = some (.int .i64 ra) := by rw [hW2]; simp
 have hx2 : W2.cell? ⟨w1.heap.size, 2, none⟩ = some (.int .i64 rb') := by rw [hW2]; simp
 have hx4 : W2.cell? ⟨w1.heap.size, 4, none⟩ = some (.string rt) := by rw [hW2]; simp
 have hxs : W2.heap.size = w1.heap.size + 1 := by rw [hW2]; simp
 have HP2 : Hid (PoS w0 W2 pb dt) := by rw [hW2]; exact HP1.out.below ((Below.refl _ _).alloc (Nat.le_refl _) _)
 have HG2 : Hid (GrowQ pb w W2) := by rw [hW2]; exact HG1.out.alloc _
 dsimp only
 rw [← hW2]
 clear hW2
 obtain ⟨ri, hri⟩ : ∃ b, b = w1.heap.size := ⟨_, rfl⟩
 rw [← hri] at hx0 hx1 hx2 hx4 hxs ⊢
 have hpri : pb < ri := by rw [hri]; exact HP1.out.lt
 clear hri HP1 HG1 CN
 obtain ⟨v0, n0, X0, hpo, _, _⟩ := HP2.out.st
 obtain ⟨y0, y1, y2, y3, y4⟩ := hpo
 have hlt : ri < W2.heap.size := by omega
 obtain ⟨q7, hq7, q7_lt⟩ := pk_nat (n := rk) (m := 7) (by omega)
 have Cq7 : Hid (∀ W, Calls Tryz.prog 10 #[.int .i64 rk, .int .i64 7] W fun e w' => e = .returned (.int .i64 q7) ∧ W = w') := fun W => (picked_is rk 7 W HR.out.1 (by omega) (by omega)).mono fun e w' ⟨k1, k2⟩ => ⟨by rw [k1]; exact ret_int hq7, k2.symm⟩
 clear hq7
 have CP4 : Hid (∀ W, Calls Tryz.prog 61 #[.string rt, .int .i64 4] W fun e w' => ∃ x : ByteArray, Let x.data.toList ∧ x.size ≤ 6 ∧ e = .returned (.string x) ∧ Below W.heap.size W w') := fun W => by
  have k := plain_any rt 4 W HR.out.2.2.2.2 (by omega)
  exact k.mono fun e w' ⟨k1, k2⟩ => ⟨_, pl_let _ _, by rw [pl_size]; omega, k1, k2⟩
 have hwr : IntKind.i64.wrap (d - 1) = d - 1 := IntWalk.i64_in _ (by omega)
 have hd0 : ¬ 0 < d := by omega
 have e7 : q7 = 0 ∨ q7 = 1 ∨ q7 = 2 ∨ q7 = 3 ∨ q7 = 4 ∨ q7 = 5 ∨ q7 = 6 := by omega
 rcases e7 with rfl | rfl | rfl | rfl | rfl | rfl | rfl
 · skip
   obtain ⟨ia, hia, ia_lt⟩ := pk_nat (n := ra) (m := 12) (by omega)
   have CA : Hid (∀ W, Calls Tryz.prog 10 #[.int .i64 ra, .int .i64 12] W fun e w' => e = .returned (.int .i64 ia) ∧ W = w') := fun W => (picked_is ra 12 W HR.out.2.1 (by omega) (by omega)).mono fun e w' ⟨k1, k2⟩ => ⟨by rw [k1]; exact ret_int hia, k2.symm⟩
   obtain ⟨zi, hzi⟩ : ∃ z : ByteArray, z = ⟨(Lib.decDigits ia).toArray⟩ := ⟨_, rfl⟩
   have CI : Hid (∀ W, Calls Tryz.prog 39 #[.int .i64 ia] W fun e w' => e = .returned (.string zi) ∧ W = w') := fun W => (Tryz.strconv_Itoa_small ia (by omega) W).mono fun e w' ⟨k1, k2⟩ => ⟨by rw [hzi]; exact k1, k2.symm⟩
   have hzl : zi.size ≤ 2 := by rw [hzi]; exact dec_len (by omega)
   have HT : Hid (TextP .num dt d zi 2) := by rw [hzi]; exact nu_dec (by omega)
   clear hia hzi
   go_wp2_with (first
    | (go_at_call 10; refine (Cq7.out _).mono ?_; rintro e w4 ⟨rfl, rfl⟩; clear Cq7)
    | (go_at_call 10; refine (CA.out _).mono ?_; rintro e w4 ⟨rfl, rfl⟩; clear CA)
    | (go_at_call 39; refine (CI.out _).mono ?_; rintro e w4 ⟨rfl, rfl⟩; clear CI))
   all_goals
    go_ret
    exact ⟨_, HT.out.more (by omega), rfl, HG2.out, HP2.out⟩
 · skip
   obtain ⟨ia, hia, ia_lt⟩ := pk_nat (n := ra) (m := 12) (by omega)
   have CA : Hid (∀ W, Calls Tryz.prog 10 #[.int .i64 ra, .int .i64 12] W fun e w' => e = .returned (.int .i64 ia) ∧ W = w') := fun W => (picked_is ra 12 W HR.out.2.1 (by omega) (by omega)).mono fun e w' ⟨k1, k2⟩ => ⟨by rw [k1]; exact ret_int hia, k2.symm⟩
   obtain ⟨zi, hzi⟩ : ∃ z : ByteArray, z = ⟨(Lib.decDigits ia).toArray⟩ := ⟨_, rfl⟩
   have CI : Hid (∀ W, Calls Tryz.prog 39 #[.int .i64 ia] W fun e w' => e = .returned (.string zi) ∧ W = w') := fun W => (Tryz.strconv_Itoa_small ia (by omega) W).mono fun e w' ⟨k1, k2⟩ => ⟨by rw [hzi]; exact k1, k2.symm⟩
   have hzl : zi.size ≤ 2 := by rw [hzi]; exact dec_len (by omega)
   have HT : Hid (TextP .num dt d zi 2) := by rw [hzi]; exact nu_dec (by omega)
   clear hia hzi
   go_wp2_with (first
    | (go_at_call 10; refine (Cq7.out _).mono ?_; rintro e w4 ⟨rfl, rfl⟩; clear Cq7)
    | (go_at_call 10; refine (CA.out _).mono ?_; rintro e w4 ⟨rfl, rfl⟩; clear CA)
    | (go_at_call 39; refine (CI.out _).mono ?_; rintro e w4 ⟨rfl, rfl⟩; clear CI))
   all_goals
    go_ret
    exact ⟨_, HT.out.more (by omega), rfl, HG2.out, HP2.out⟩
 · skip
   have CM : Hid (Calls Tryz.prog 35 #[.pointer (some ⟨pb, 0, none⟩), .int .i64 (d - 1)] W2 fun e w' => ∃ s, TextP .nod dt (d - 1) s n ∧ e = .returned (.string s) ∧ GrowQ pb w w' ∧ PoS w0 w' pb dt) := (HNo HP2.out).mono fun e w' ⟨s, k1, k2, k3, k4⟩ => ⟨s, k1, k2, HG2.out.trans k3, k4⟩
   go_wp2_with (first
    | (go_at_call 10; refine (Cq7.out _).mono ?_; rintro e w4 ⟨rfl, rfl⟩; clear Cq7)
    | (go_at_call 35; refine CM.out.mono ?_; rintro e w3 ⟨s, hs, rfl, hg, hp⟩; have HS : Hid (TextP .nod dt (d - 1) s n) := hs; have HG3 : Hid (GrowQ pb w w3) := hg; have HP3 : Hid (PoS w0 w3 pb dt) := hp; have hs1 : s.size ≤ 100000 := (Nat.le_trans hs.2.2 (by omega)); clear hs hg hp))
   all_goals
    go_ret
    exact ⟨_, (nu_count HS.out).more (by omega), rfl, HG3.out, HP3.out⟩
 · cases dt
   · skip
     go_wp2_with (first
      | (go_at_call 10; refine (Cq7.out _).mono ?_; rintro e w4 ⟨rfl, rfl⟩; clear Cq7)
      | (go_at_call 61; refine (CP4.out _).mono ?_; rintro e w3 ⟨x, hx, hxl, rfl, hb⟩; have HX : Hid (Let x.data.toList) := hx; have HG3 : Hid (GrowQ pb w w3) := (HG2.out.below hb); have HP3 : Hid (PoS w0 w3 pb _) := (HP2.out.below hb); clear hx hb))
     all_goals
      go_ret
      exact ⟨_, (nu_len HX.out hxl).more (by omega), rfl, HG3.out, HP3.out⟩
   · skip
     obtain ⟨ia, hia, ia_lt⟩ := pk_nat (n := ra) (m := 2) (by omega)
     have CA : Hid (∀ W, Calls Tryz.prog 10 #[.int .i64 ra, .int .i64 2] W fun e w' => e = .returned (.int .i64 ia) ∧ W = w') := fun W => (picked_is ra 2 W HR.out.2.1 (by omega) (by omega)).mono fun e w' ⟨k1, k2⟩ => ⟨by rw [k1]; exact ret_int hia, k2.symm⟩
     clear hia
     have e2 : ia = 0 ∨ ia = 1 := by omega
     rcases e2 with rfl | rfl
     · go_wp2_with (first
        | (go_at_call 10; refine (Cq7.out _).mono ?_; rintro e w4 ⟨rfl, rfl⟩; clear Cq7)
        | (go_at_call 10; refine (CA.out _).mono ?_; rintro e w4 ⟨rfl, rfl⟩; clear CA))
       all_goals
        go_ret
        exact ⟨_, nu_pos.more (by omega), rfl, HG2.out.alloc _, HP2.out.below ((Below.refl _ _).alloc (Nat.le_refl _) _)⟩
     · go_wp2_with (first
        | (go_at_call 10; refine (Cq7.out _).mono ?_; rintro e w4 ⟨rfl, rfl⟩; clear Cq7)
        | (go_at_call 10; refine (CA.out _).mono ?_; rintro e w4 ⟨rfl, rfl⟩; clear CA))
       all_goals
        go_ret
        exact ⟨_, nu_last.more (by omega), rfl, HG2.out.alloc _, HP2.out.below ((Below.refl _ _).alloc (Nat.le_refl _) _)⟩
 · skip
   go_wp2_with (first
    | (go_at_call 10; refine (Cq7.out _).mono ?_; rintro e w4 ⟨rfl, rfl⟩; clear Cq7))
   all_goals
    go_ret
    exact ⟨_, nu_m3.more (by omega), rfl, HG2.out, HP2.out⟩
 · skip
   obtain ⟨ia, hia, ia_lt⟩ := pk_nat (n := ra) (m := 9) (by omega)
   have CA : Hid (∀ W, Calls Tryz.prog 10 #[.int .i64 ra, .int .i64 9] W fun e w' => e = .returned (.int .i64 ia) ∧ W = w') := fun W => (picked_is ra 9 W HR.out.2.1 (by omega) (by omega)).mono fun e w' ⟨k1, k2⟩ => ⟨by rw [k1]; exact ret_int hia, k2.symm⟩
   obtain ⟨zi, hzi⟩ : ∃ z : ByteArray, z = ⟨(Lib.decDigits ia).toArray⟩ := ⟨_, rfl⟩
   have CI : Hid (∀ W, Calls Tryz.prog 39 #[.int .i64 ia] W fun e w' => e = .returned (.string zi) ∧ W = w') := fun W => (Tryz.strconv_Itoa_small ia (by omega) W).mono fun e w' ⟨k1, k2⟩ => ⟨by rw [hzi]; exact k1, k2.symm⟩
   have hzl : zi.size ≤ 2 := by rw [hzi]; exact dec_len (by omega)
   obtain ⟨ib, hib, ib_lt⟩ := pk_nat (n := rb') (m := 9) (by omega)
   have CB : Hid (∀ W, Calls Tryz.prog 10 #[.int .i64 rb', .int .i64 9] W fun e w' => e = .returned (.int .i64 ib) ∧ W = w') := fun W => (picked_is rb' 9 W HR.out.2.2.1 (by omega) (by omega)).mono fun e w' ⟨k1, k2⟩ => ⟨by rw [k1]; exact ret_int hib, k2.symm⟩
   obtain ⟨zj, hzj⟩ : ∃ z : ByteArray, z = ⟨(Lib.decDigits ib).toArray⟩ := ⟨_, rfl⟩
   have CJ : Hid (∀ W, Calls Tryz.prog 39 #[.int .i64 ib] W fun e w' => e = .returned (.string zj) ∧ W = w') := fun W => (Tryz.strconv_Itoa_small ib (by omega) W).mono fun e w' ⟨k1, k2⟩ => ⟨by rw [hzj]; exact k1, k2.symm⟩
   have hzm : zj.size ≤ 2 := by rw [hzj]; exact dec_len (by omega)
   have HT : Hid (TextP .num dt d (⟨#[115, 117, 109, 40, 40]⟩ ++ zi ++ ⟨#[44, 32]⟩ ++ zj ++ ⟨#[41, 41]⟩) 40) := by rw [hzi, hzj]; exact nu_sum (by omega) (by omega)
   have hq1 : ¬ 9223372036854775807 < 5 + zi.size := by omega
   have hq2 : ¬ 9223372036854775807 < 5 + zi.size + 2 := by omega
   have hq3 : ¬ 9223372036854775807 < 5 + zi.size + 2 + zj.size := by omega
   have hq4 : ¬ 9223372036854775807 < 5 + zi.size + 2 + zj.size + 2 := by omega
   clear hia hib hzi hzj
   go_upto_region 17 with (first | (go_at_call 10; refine (Cq7.out _).mono ?_; rintro e w4 ⟨rfl, rfl⟩; clear Cq7))
   go_region_held3 (fun W => W.cell? ⟨ri, 1, none⟩ = some (.int .i64 ra) ∧ W.cell? ⟨ri, 2, none⟩ = some (.int .i64 rb'))
    (exact ⟨hx1, hx2⟩)
    (first
     | (go_at_call_has 10 (Value.int .i64 ra); refine (CA.out _).mono ?_; rintro e w4 ⟨rfl, rfl⟩)
     | (go_at_call_has 10 (Value.int .i64 rb'); refine (CB.out _).mono ?_; rintro e w4 ⟨rfl, rfl⟩)
     | (go_at_call_has 39 (Value.int .i64 ia); refine (CI.out _).mono ?_; rintro e w4 ⟨rfl, rfl⟩)
     | (go_at_call_has 39 (Value.int .i64 ib); refine (CJ.out _).mono ?_; rintro e w4 ⟨rfl, rfl⟩))
   all_goals
    go_wp2_with fail
    go_ret
    exact ⟨_, HT.out.more (by omega), rfl, HG2.out, HP2.out.below (Below.refl _ _).drew⟩
 · skip
   have CM : Hid (Calls Tryz.prog 37 #[.pointer (some ⟨pb, 0, none⟩), .int .i64 (d - 1)] W2 fun e w' => ∃ s, TextP .txt dt (d - 1) s n ∧ e = .returned (.string s) ∧ GrowQ pb w w' ∧ PoS w0 w' pb dt) := (HTx HP2.out).mono fun e w' ⟨s, k1, k2, k3, k4⟩ => ⟨s, k1, k2, HG2.out.trans k3, k4⟩
   go_wp2_with (first
    | (go_at_call 10; refine (Cq7.out _).mono ?_; rintro e w4 ⟨rfl, rfl⟩; clear Cq7)
    | (go_at_call 37; refine CM.out.mono ?_; rintro e w3 ⟨s, hs, rfl, hg, hp⟩; have HS : Hid (TextP .txt dt (d - 1) s n) := hs; have HG3 : Hid (GrowQ pb w w3) := hg; have HP3 : Hid (PoS w0 w3 pb dt) := hp; have hs1 : s.size ≤ 100000 := (Nat.le_trans hs.2.2 (by omega)); clear hs hg hp))
   all_goals
    go_ret
    exact ⟨_, (nu_slen HS.out).more (by omega), rfl, HG3.out, HP3.out⟩
open Go.RowKit
theorem arrBox {pb ia : Nat} {z : ByteArray} {O : Obj} {V w1 : World} (hsc : ∀ w : World, (w.alloc O).cell? ⟨w.heap.size, ia, none⟩ = some (.string z)) (h : GrowQ pb (V.alloc O) w1) (hp : pb < V.heap.size) : w1.cell? ⟨V.heap.size, ia, none⟩ = some (.string z) ∧ V.heap.size < w1.heap.size ∧ pb < V.heap.size := by
 have hl := h.1
 simp at hl
 exact ⟨(h.cell (by simp) (by omega)).trans (hsc V), by omega, hp⟩
theorem arrBoxD {pb ia : Nat} {z : ByteArray} {O : Obj} {V w1 : World} (hsc : ∀ w : World, (w.alloc O).cell? ⟨w.heap.size, ia, none⟩ = some (.string z)) (h : GrowQ pb (V.alloc O).drew w1) (hp : pb < V.heap.size) : w1.cell? ⟨V.heap.size, ia, none⟩ = some (.string z) ∧ V.heap.size < w1.heap.size ∧ pb < V.heap.size := arrBox hsc h hp
theorem arrKept {pb ia g : Nat} {z : ByteArray} {V w1 : World} (h : GrowQ pb V w1) (z0 : V.cell? ⟨g, ia, none⟩ = some (.string z)) (z1 : g < V.heap.size) (z2 : pb < g) : w1.cell? ⟨g, ia, none⟩ = some (.string z) ∧ g < w1.heap.size ∧ pb < g := by
 have hl := h.1
 exact ⟨(h.cell z1 (by omega)).trans z0, by omega, z2⟩
theorem num_arr (dt : Bool) (d : Int) (hd : 0 < d) (i : Nat) (hi : i < 5) : ∃ z : ByteArray, z.size ≤ 20 ∧ (∀ (s u : ByteArray) (n : Nat), TextP .num dt (d - 1) s n → TextP .num dt (d - 1) u n → TextP .num dt d (⟨#[40]⟩ ++ s ++ z ++ u ++ ⟨#[41]⟩) (n + n + 7)) ∧ ∀ w : World, (w.alloc (.cells #[.string ⟨#[32, 43, 32]⟩, .string ⟨#[32, 45, 32]⟩, .string ⟨#[32, 42, 32]⟩, .string ⟨#[32, 100, 105, 118, 32]⟩, .string ⟨#[32, 109, 111, 100, 32]⟩] 9)).cell? ⟨w.heap.size, i, none⟩ = some (.string z) := by
 have e : i = 0 ∨ i = 1 ∨ i = 2 ∨ i = 3 ∨ i = 4 := by omega
 rcases e with rfl | rfl | rfl | rfl | rfl
 · exact ⟨⟨#[32, 43, 32]⟩, by decide, fun s u n h h' => nu_op0 h h', fun w => by simp⟩
 · exact ⟨⟨#[32, 45, 32]⟩, by decide, fun s u n h h' => nu_op1 h h', fun w => by simp⟩
 · exact ⟨⟨#[32, 42, 32]⟩, by decide, fun s u n h h' => nu_op2 h h', fun w => by simp⟩
 · exact ⟨⟨#[32, 100, 105, 118, 32]⟩, by decide, fun s u n h h' => nu_op3 h h', fun w => by simp⟩
 · exact ⟨⟨#[32, 109, 111, 100, 32]⟩, by decide, fun s u n h h' => nu_op4 h h', fun w => by simp⟩
theorem tru_arr (dt : Bool) (d : Int) (hd : 0 < d) (i : Nat) (hi : i < 5) : ∃ z : ByteArray, z.size ≤ 20 ∧ (∀ (s u : ByteArray) (n : Nat), TextP .num dt (d - 1) s n → TextP .num dt (d - 1) u n → TextP .tru dt d (s ++ z ++ u) (n + n + 4)) ∧ ∀ w : World, (w.alloc (.cells #[.string ⟨#[32, 60, 32]⟩, .string ⟨#[32, 60, 61, 32]⟩, .string ⟨#[32, 62, 32]⟩, .string ⟨#[32, 62, 61, 32]⟩, .string ⟨#[32, 33, 61, 32]⟩] 9)).cell? ⟨w.heap.size, i, none⟩ = some (.string z) := by
 have e : i = 0 ∨ i = 1 ∨ i = 2 ∨ i = 3 ∨ i = 4 := by omega
 rcases e with rfl | rfl | rfl | rfl | rfl
 · exact ⟨⟨#[32, 60, 32]⟩, by decide, fun s u n h h' => (tr_op0 h h').more (by omega), fun w => by simp⟩
 · exact ⟨⟨#[32, 60, 61, 32]⟩, by decide, fun s u n h h' => (tr_op1 h h').more (by omega), fun w => by simp⟩
 · exact ⟨⟨#[32, 62, 32]⟩, by decide, fun s u n h h' => (tr_op2 h h').more (by omega), fun w => by simp⟩
 · exact ⟨⟨#[32, 62, 61, 32]⟩, by decide, fun s u n h h' => (tr_op3 h h').more (by omega), fun w => by simp⟩
 · exact ⟨⟨#[32, 33, 61, 32]⟩, by decide, fun s u n h h' => (tr_op4 h h').more (by omega), fun w => by simp⟩
theorem fn_arr (dt : Bool) (d : Int) (hd : 0 < d) (i : Nat) (hi : i < 3) : ∃ z : ByteArray, z.size ≤ 20 ∧ (∀ (s : ByteArray) (n i : Nat), TextP .que dt (d - 1) s n → i < 20 → TextP .que dt d (z ++ ⟨#[40, 40]⟩ ++ s ++ ⟨#[44, 32, 49, 32, 116, 111, 32]⟩ ++ ⟨(Lib.decDigits i).toArray⟩ ++ ⟨#[41, 41]⟩) (n + 30)) ∧ ∀ w : World, (w.alloc (.cells #[.string ⟨#[114, 101, 118, 101, 114, 115, 101]⟩, .string ⟨#[100, 105, 115, 116, 105, 110, 99, 116, 45, 118, 97, 108, 117, 101, 115]⟩, .string ⟨#[100, 97, 116, 97]⟩] 9)).cell? ⟨w.heap.size, i, none⟩ = some (.string z) := by
 have e : i = 0 ∨ i = 1 ∨ i = 2 := by omega
 rcases e with rfl | rfl | rfl
 · exact ⟨⟨#[114, 101, 118, 101, 114, 115, 101]⟩, by decide, fun s n i h hi => (qu_fn0 h hi).more (by omega), fun w => by simp⟩
 · exact ⟨⟨#[100, 105, 115, 116, 105, 110, 99, 116, 45, 118, 97, 108, 117, 101, 115]⟩, by decide, fun s n i h hi => (qu_fn1 h hi).more (by omega), fun w => by simp⟩
 · exact ⟨⟨#[100, 97, 116, 97]⟩, by decide, fun s n i h hi => (qu_fn2 h hi).more (by omega), fun w => by simp⟩
theorem ord_arr (dt : Bool) (d : Int) (hd : 0 < d) (i : Nat) (hi : i < 2) : ∃ z : ByteArray, z.size ≤ 20 ∧ (∀ (s : ByteArray) (n : Nat), TextP .que dt (d - 1) s n → TextP .que dt d (⟨#[40, 102, 111, 114, 32, 36, 118, 32, 97, 116, 32, 36, 105, 32, 105, 110, 32]⟩ ++ s ++ ⟨#[32, 119, 104, 101, 114, 101, 32, 36, 105, 32, 60, 32, 51, 32, 111, 114, 100, 101, 114, 32, 98, 121, 32, 36, 105]⟩ ++ z ++ ⟨#[32, 114, 101, 116, 117, 114, 110, 32, 40, 36, 105, 44, 32, 36, 118, 41, 41]⟩) (n + 80)) ∧ ∀ w : World, (w.alloc (.cells #[.string ⟨#[]⟩, .string ⟨#[32, 100, 101, 115, 99, 101, 110, 100, 105, 110, 103]⟩] 9)).cell? ⟨w.heap.size, i, none⟩ = some (.string z) := by
 have e : i = 0 ∨ i = 1 := by omega
 rcases e with rfl | rfl
 · exact ⟨⟨#[]⟩, by decide, fun s n h => (qu_ord0 h).more (by omega), fun w => by simp⟩
 · exact ⟨⟨#[32, 100, 101, 115, 99, 101, 110, 100, 105, 110, 103]⟩, by decide, fun s n h => (qu_ord1 h).more (by omega), fun w => by simp⟩
end Go.Proofs.YtbnlekhjgkojlaaGreatDoor
