import Derived.Test.YtbnlekhjgkojlaaGreatDoorPrQua
set_option linter.unusedVariables false
namespace Go.Proofs.YtbnlekhjgkojlaaGreatDoor
set_option maxRecDepth 100000
open Go.RowKit
set_option maxHeartbeats 6400000 in
theorem conditional_is {pb b c : Nat} {T : List Tok} {st : Pst} {s1 s2 s3 s4 s5 s6 : Pst} {p p2 p3 : Ph} (hT : T.length ≤ 200) (hat : st.at' ≤ 300) (ha1 : st.at' + 2 ≤ 300) (hat1 : s1.at' ≤ 300) (hw1 : wantM T s1 ⟨5, ⟨#[41]⟩, 0⟩ = s2) (hat2 : s2.at' ≤ 300) (hw2 : wantM T s2 ⟨1, ⟨#[116, 104, 101, 110]⟩, 0⟩ = s3) (hat4 : s4.at' ≤ 300) (hw4 : wantM T s4 ⟨1, ⟨#[101, 108, 115, 101]⟩, 0⟩ = s5) (hlu : RunT pb b c T 18 #[.pointer (some ⟨pb, 0, none⟩)] { st with at' := st.at' + 2 } s1 p) (hlv : RunT pb b c T 68 #[.pointer (some ⟨pb, 0, none⟩)] s3 s4 p2) (hlx : RunT pb b c T 68 #[.pointer (some ⟨pb, 0, none⟩)] s5 s6 p3) : RunT pb b c T 84 #[.pointer (some ⟨pb, 0, none⟩)] st s6 (phN 7 ⟨0, 0, ⟨#[]⟩⟩ ⟨#[]⟩ 0 0 0 ⟨#[]⟩ 3 (fun i => if i = 0 then p else if i = 1 then p2 else p3)) := by
 intro w h htb
 have HTB : Hid (RTab w pb) := htb
 clear htb
 have HLU : Hid (RunT pb b c T 18 #[.pointer (some ⟨pb, 0, none⟩)] { st with at' := st.at' + 2 } s1 p) := hlu
 clear hlu
 have HLV : Hid (RunT pb b c T 68 #[.pointer (some ⟨pb, 0, none⟩)] s3 s4 p2) := hlv
 clear hlv
 have HLX : Hid (RunT pb b c T 68 #[.pointer (some ⟨pb, 0, none⟩)] s5 s6 p3) := hlx
 clear hlx
 have hwr : IntKind.i64.wrap ((st.at' : Int) + 2) = ((st.at' + 2 : Nat) : Int) := by rw [IntWalk.i64_in _ (by omega)]; simp
 have hpl := h.pl
 have hbl := h.bl
 go_enter Tryz.func84, Tryz.ntmps84
 go_upto_region 1 with fail
 obtain ⟨W1, hW1⟩ : ∃ W, W = w.alloc (.cells #[.int .i64 0, .int .i64 0, .int .i64 0, .string ⟨#[]⟩, .string ⟨#[]⟩, .int .i64 0, .int .i64 0, .int .i64 0, .string ⟨#[]⟩, .slice none 0 0, .slice none 0 0] 36) := ⟨_, rfl⟩
 have HG1 : Hid (GrowA pb w W1) := by rw [hW1]; exact (GrowA.refl _ _).alloc _
 have HP1 : Hid (PaS W1 pb b c T st) := by rw [hW1]; exact h.allocI _
 have HR1 : Hid (PhZ W1 w.heap.size) := by rw [hW1]; exact PhB.new w _
 rw [← hW1]
 obtain ⟨r, hr⟩ : ∃ r, r = w.heap.size := ⟨_, rfl⟩
 have HRW : Hid (w.heap.size ≤ r) := Nat.le_of_eq hr.symm
 have hrp : r ≠ pb := by omega
 have hrb : r ≠ b := by omega
 rw [← hr] at HR1 ⊢
 clear hW1 hr h hpl hbl
 have x1 := HP1.out.a
 have f1 := HP1.out.fa
 have hl3 := HP1.out.pl
 obtain ⟨Wa, hWa⟩ : ∃ W, W = W1.setCell ⟨pb, 1, none⟩ (.int .i64 ((st.at' : Int) + 2)) := ⟨_, rfl⟩
 have HPa : Hid (PaS Wa pb b c T { st with at' := st.at' + 2 }) := by rw [hWa]; exact HP1.out.setA (st.at' + 2)
 have HGa : Hid (GrowA pb w Wa) := by rw [hWa]; exact HG1.out.set 1 _
 have HRa : Hid (PhZ Wa r) := by rw [hWa]; exact HR1.out.grow ((GrowA.refl _ _).set 1 _) hrp
 go_upto_region 2 with fail
 rw [← hWa]
 clear hWa x1 f1 hl3 HP1 HG1 HR1
 go_upto_region 3 with (first
  | (go_at_call 18; (first | refine (HLU.out.use HTB.out HPa.out HGa.out (show r < _ from by have k := HRa.out.lt; first | exact k | (simp; omega))).mono ?_ | refine (HLU.out.use HTB.out (HPa.out.allocI _) (HGa.out.alloc _) (show r < _ from by have k := HRa.out.lt; first | exact k | (simp; omega))).mono ?_ | refine (HLU.out.use HTB.out ((HPa.out.allocI _).allocI _) ((HGa.out.alloc _).alloc _) (show r < _ from by have k := HRa.out.lt; first | exact k | (simp; omega))).mono ?_); rintro e w2 ⟨lo1, v, hlo, hv, rfl, hp, hg⟩; obtain ⟨k0_1, k1_1, k2_1, k5_1, k6_1, k7_1, s3_1, s4_1, s8_1, a9_1, a10_1, l9_1, c9_1, l10_1, c10_1, rfl⟩ := hv.form; have hlo1 := hlo.1; have hlp1 := hlo.2.1; have hlz1 := hlo.2.2; have HG2 : Hid (GrowA pb w w2) := (HGa.out.trans hg); have HP2 : Hid (PaS w2 pb b c T s1) := hp; have HR2 : Hid (PhZ w2 r) := (HRa.out.grow hg hrp); have HV1_2 : Hid (Tre w2 lo1 p [.int .i64 k0_1, .int .i64 k1_1, .int .i64 k2_1, .string s3_1, .string s4_1, .int .i64 k5_1, .int .i64 k6_1, .int .i64 k7_1, .string s8_1, .slice a9_1 l9_1 c9_1, .slice a10_1 l10_1 c10_1]) := hv; clear hv hlo hp hg HPa HGa HRa))
 obtain ⟨ya, hya0⟩ : ∃ y, y = w2.heap.size := ⟨_, rfl⟩
 obtain ⟨W3, hW3⟩ : ∃ W, W = w2.alloc (.cells #[.int .i64 k0_1, .int .i64 k1_1, .int .i64 k2_1, .string s3_1, .string s4_1, .int .i64 k5_1, .int .i64 k6_1, .int .i64 k7_1, .string s8_1, .slice a9_1 l9_1 c9_1, .slice a10_1 l10_1 c10_1] 36) := ⟨_, rfl⟩
 have HP3 : Hid (PaS W3 pb b c T s1) := by rw [hW3]; exact HP2.out.allocI _
 have HG3 : Hid (GrowA pb w W3) := by rw [hW3]; exact HG2.out.alloc _
 have Hya3 : Hid (PhB W3 ya #[.int .i64 k0_1, .int .i64 k1_1, .int .i64 k2_1, .string s3_1, .string s4_1, .int .i64 k5_1, .int .i64 k6_1, .int .i64 k7_1, .string s8_1, .slice a9_1 l9_1 c9_1, .slice a10_1 l10_1 c10_1]) := by rw [hW3, hya0]; exact PhB.new w2 _
 have hyap : ya ≠ pb := by have := HP2.out.pl; omega
 have hlz1 : lo1 ≤ ya := by rw [hya0]; exact hlz1
 have HR3 : Hid (PhZ W3 r) := by rw [hW3]; exact HR2.out.allocI _
 have HV1_3 : Hid (Tre W3 lo1 p [.int .i64 k0_1, .int .i64 k1_1, .int .i64 k2_1, .string s3_1, .string s4_1, .int .i64 k5_1, .int .i64 k6_1, .int .i64 k7_1, .string s8_1, .slice a9_1 l9_1 c9_1, .slice a10_1 l10_1 c10_1]) := by rw [hW3]; exact HV1_2.out.allocI _
 rw [← hW3, ← hya0]
 clear hW3 HP2 HG2 HR2 HV1_2 hya0
 go_upto_region 6 with (first
  | (go_at_call 66; have HNX := HP3; refine (mark_is _ _).mono ?_; rintro e w4 ⟨rfl, hb⟩; have HG4 : Hid (GrowA pb w w4) := (HG3.out.below hb); have HP4 : Hid (PaS w4 pb b c T s1) := (HP3.out.below hb); have HR4 : Hid (PhZ w4 r) := (HR3.out.below hb); have HV1_4 : Hid (Tre w4 lo1 p [.int .i64 k0_1, .int .i64 k1_1, .int .i64 k2_1, .string s3_1, .string s4_1, .int .i64 k5_1, .int .i64 k6_1, .int .i64 k7_1, .string s8_1, .slice a9_1 l9_1 c9_1, .slice a10_1 l10_1 c10_1]) := (HV1_3.out.below hb); have Hya4 : Hid (PhB w4 ya #[.int .i64 k0_1, .int .i64 k1_1, .int .i64 k2_1, .string s3_1, .string s4_1, .int .i64 k5_1, .int .i64 k6_1, .int .i64 k7_1, .string s8_1, .slice a9_1 l9_1 c9_1, .slice a10_1 l10_1 c10_1]) := (Hya3.out.below hb); clear hb HNX HP3 HG3 HR3 HV1_3 Hya3)
  | (go_at_call 96; (refine (want_eq HP4.out hT hat1 hw1).mono ?_); rintro e w5 ⟨rfl, hp, hg⟩; have HG5 : Hid (GrowA pb w w5) := (HG4.out.trans hg); have HP5 : Hid (PaS w5 pb b c T s2) := hp; have HR5 : Hid (PhZ w5 r) := (HR4.out.grow hg hrp); have HV1_5 : Hid (Tre w5 lo1 p [.int .i64 k0_1, .int .i64 k1_1, .int .i64 k2_1, .string s3_1, .string s4_1, .int .i64 k5_1, .int .i64 k6_1, .int .i64 k7_1, .string s8_1, .slice a9_1 l9_1 c9_1, .slice a10_1 l10_1 c10_1]) := (HV1_4.out.grow hg hlp1); have Hya5 : Hid (PhB w5 ya #[.int .i64 k0_1, .int .i64 k1_1, .int .i64 k2_1, .string s3_1, .string s4_1, .int .i64 k5_1, .int .i64 k6_1, .int .i64 k7_1, .string s8_1, .slice a9_1 l9_1 c9_1, .slice a10_1 l10_1 c10_1]) := (Hya4.out.grow hg hyap); clear hp hg HP4 HG4 HR4 HV1_4 Hya4)
  | (go_at_call 81; have HNX := HP5; refine (word_is _ _).mono ?_; rintro e w6 ⟨rfl, hb⟩; have HG6 : Hid (GrowA pb w w6) := (HG5.out.below hb); have HP6 : Hid (PaS w6 pb b c T s2) := (HP5.out.below hb); have HR6 : Hid (PhZ w6 r) := (HR5.out.below hb); have HV1_6 : Hid (Tre w6 lo1 p [.int .i64 k0_1, .int .i64 k1_1, .int .i64 k2_1, .string s3_1, .string s4_1, .int .i64 k5_1, .int .i64 k6_1, .int .i64 k7_1, .string s8_1, .slice a9_1 l9_1 c9_1, .slice a10_1 l10_1 c10_1]) := (HV1_5.out.below hb); have Hya6 : Hid (PhB w6 ya #[.int .i64 k0_1, .int .i64 k1_1, .int .i64 k2_1, .string s3_1, .string s4_1, .int .i64 k5_1, .int .i64 k6_1, .int .i64 k7_1, .string s8_1, .slice a9_1 l9_1 c9_1, .slice a10_1 l10_1 c10_1]) := (Hya5.out.below hb); clear hb HNX HP5 HG5 HR5 HV1_5 Hya5)
  | (go_at_call 96; (refine (want_eq HP6.out hT hat2 hw2).mono ?_); rintro e w7 ⟨rfl, hp, hg⟩; have HG7 : Hid (GrowA pb w w7) := (HG6.out.trans hg); have HP7 : Hid (PaS w7 pb b c T s3) := hp; have HR7 : Hid (PhZ w7 r) := (HR6.out.grow hg hrp); have HV1_7 : Hid (Tre w7 lo1 p [.int .i64 k0_1, .int .i64 k1_1, .int .i64 k2_1, .string s3_1, .string s4_1, .int .i64 k5_1, .int .i64 k6_1, .int .i64 k7_1, .string s8_1, .slice a9_1 l9_1 c9_1, .slice a10_1 l10_1 c10_1]) := (HV1_6.out.grow hg hlp1); have Hya7 : Hid (PhB w7 ya #[.int .i64 k0_1, .int .i64 k1_1, .int .i64 k2_1, .string s3_1, .string s4_1, .int .i64 k5_1, .int .i64 k6_1, .int .i64 k7_1, .string s8_1, .slice a9_1 l9_1 c9_1, .slice a10_1 l10_1 c10_1]) := (Hya6.out.grow hg hyap); clear hp hg HP6 HG6 HR6 HV1_6 Hya6)
  | (go_at_call 68; (first | refine (HLV.out.use HTB.out HP7.out HG7.out (show ya < _ from by have k := Hya7.out.lt; first | exact k | (simp; omega))).mono ?_ | refine (HLV.out.use HTB.out (HP7.out.allocI _) (HG7.out.alloc _) (show ya < _ from by have k := Hya7.out.lt; first | exact k | (simp; omega))).mono ?_ | refine (HLV.out.use HTB.out ((HP7.out.allocI _).allocI _) ((HG7.out.alloc _).alloc _) (show ya < _ from by have k := Hya7.out.lt; first | exact k | (simp; omega))).mono ?_); rintro e w8 ⟨lo2, v, hlo, hv, rfl, hp, hg⟩; obtain ⟨k0_2, k1_2, k2_2, k5_2, k6_2, k7_2, s3_2, s4_2, s8_2, a9_2, a10_2, l9_2, c9_2, l10_2, c10_2, rfl⟩ := hv.form; have hlo2 := hlo.1; have hlp2 := hlo.2.1; have hlz2 := hlo.2.2; have HG8 : Hid (GrowA pb w w8) := (HG7.out.trans hg); have HP8 : Hid (PaS w8 pb b c T s4) := hp; have HR8 : Hid (PhZ w8 r) := (HR7.out.grow hg hrp); have HV1_8 : Hid (Tre w8 lo1 p [.int .i64 k0_1, .int .i64 k1_1, .int .i64 k2_1, .string s3_1, .string s4_1, .int .i64 k5_1, .int .i64 k6_1, .int .i64 k7_1, .string s8_1, .slice a9_1 l9_1 c9_1, .slice a10_1 l10_1 c10_1]) := (HV1_7.out.grow hg hlp1); have Hya8 : Hid (PhB w8 ya #[.int .i64 k0_1, .int .i64 k1_1, .int .i64 k2_1, .string s3_1, .string s4_1, .int .i64 k5_1, .int .i64 k6_1, .int .i64 k7_1, .string s8_1, .slice a9_1 l9_1 c9_1, .slice a10_1 l10_1 c10_1]) := (Hya7.out.grow hg hyap); have HV2_8 : Hid (Tre w8 lo2 p2 [.int .i64 k0_2, .int .i64 k1_2, .int .i64 k2_2, .string s3_2, .string s4_2, .int .i64 k5_2, .int .i64 k6_2, .int .i64 k7_2, .string s8_2, .slice a9_2 l9_2 c9_2, .slice a10_2 l10_2 c10_2]) := hv; clear hv hlo hp hg HP7 HG7 HR7 HV1_7 Hya7))
 obtain ⟨yb, hyb0⟩ : ∃ y, y = w8.heap.size := ⟨_, rfl⟩
 obtain ⟨W9, hW9⟩ : ∃ W, W = w8.alloc (.cells #[.int .i64 k0_2, .int .i64 k1_2, .int .i64 k2_2, .string s3_2, .string s4_2, .int .i64 k5_2, .int .i64 k6_2, .int .i64 k7_2, .string s8_2, .slice a9_2 l9_2 c9_2, .slice a10_2 l10_2 c10_2] 36) := ⟨_, rfl⟩
 have HP9 : Hid (PaS W9 pb b c T s4) := by rw [hW9]; exact HP8.out.allocI _
 have HG9 : Hid (GrowA pb w W9) := by rw [hW9]; exact HG8.out.alloc _
 have Hyb9 : Hid (PhB W9 yb #[.int .i64 k0_2, .int .i64 k1_2, .int .i64 k2_2, .string s3_2, .string s4_2, .int .i64 k5_2, .int .i64 k6_2, .int .i64 k7_2, .string s8_2, .slice a9_2 l9_2 c9_2, .slice a10_2 l10_2 c10_2]) := by rw [hW9, hyb0]; exact PhB.new w8 _
 have hybp : yb ≠ pb := by have := HP8.out.pl; omega
 have hlz2 : lo2 ≤ yb := by rw [hyb0]; exact hlz2
 have HR9 : Hid (PhZ W9 r) := by rw [hW9]; exact HR8.out.allocI _
 have HV1_9 : Hid (Tre W9 lo1 p [.int .i64 k0_1, .int .i64 k1_1, .int .i64 k2_1, .string s3_1, .string s4_1, .int .i64 k5_1, .int .i64 k6_1, .int .i64 k7_1, .string s8_1, .slice a9_1 l9_1 c9_1, .slice a10_1 l10_1 c10_1]) := by rw [hW9]; exact HV1_8.out.allocI _
 have Hya9 : Hid (PhB W9 ya #[.int .i64 k0_1, .int .i64 k1_1, .int .i64 k2_1, .string s3_1, .string s4_1, .int .i64 k5_1, .int .i64 k6_1, .int .i64 k7_1, .string s8_1, .slice a9_1 l9_1 c9_1, .slice a10_1 l10_1 c10_1]) := by rw [hW9]; exact Hya8.out.allocI _
 have HV2_9 : Hid (Tre W9 lo2 p2 [.int .i64 k0_2, .int .i64 k1_2, .int .i64 k2_2, .string s3_2, .string s4_2, .int .i64 k5_2, .int .i64 k6_2, .int .i64 k7_2, .string s8_2, .slice a9_2 l9_2 c9_2, .slice a10_2 l10_2 c10_2]) := by rw [hW9]; exact HV2_8.out.allocI _
 rw [← hW9, ← hyb0]
 clear hW9 HP8 HG8 HR8 HV1_8 Hya8 HV2_8 hyb0
 go_upto_region 7 with (first
  | (go_at_call 81; have HNX := HP9; refine (word_is _ _).mono ?_; rintro e w10 ⟨rfl, hb⟩; have HG10 : Hid (GrowA pb w w10) := (HG9.out.below hb); have HP10 : Hid (PaS w10 pb b c T s4) := (HP9.out.below hb); have HR10 : Hid (PhZ w10 r) := (HR9.out.below hb); have HV1_10 : Hid (Tre w10 lo1 p [.int .i64 k0_1, .int .i64 k1_1, .int .i64 k2_1, .string s3_1, .string s4_1, .int .i64 k5_1, .int .i64 k6_1, .int .i64 k7_1, .string s8_1, .slice a9_1 l9_1 c9_1, .slice a10_1 l10_1 c10_1]) := (HV1_9.out.below hb); have Hya10 : Hid (PhB w10 ya #[.int .i64 k0_1, .int .i64 k1_1, .int .i64 k2_1, .string s3_1, .string s4_1, .int .i64 k5_1, .int .i64 k6_1, .int .i64 k7_1, .string s8_1, .slice a9_1 l9_1 c9_1, .slice a10_1 l10_1 c10_1]) := (Hya9.out.below hb); have HV2_10 : Hid (Tre w10 lo2 p2 [.int .i64 k0_2, .int .i64 k1_2, .int .i64 k2_2, .string s3_2, .string s4_2, .int .i64 k5_2, .int .i64 k6_2, .int .i64 k7_2, .string s8_2, .slice a9_2 l9_2 c9_2, .slice a10_2 l10_2 c10_2]) := (HV2_9.out.below hb); have Hyb10 : Hid (PhB w10 yb #[.int .i64 k0_2, .int .i64 k1_2, .int .i64 k2_2, .string s3_2, .string s4_2, .int .i64 k5_2, .int .i64 k6_2, .int .i64 k7_2, .string s8_2, .slice a9_2 l9_2 c9_2, .slice a10_2 l10_2 c10_2]) := (Hyb9.out.below hb); clear hb HNX HP9 HG9 HR9 HV1_9 Hya9 HV2_9 Hyb9)
  | (go_at_call 96; (refine (want_eq HP10.out hT hat4 hw4).mono ?_); rintro e w11 ⟨rfl, hp, hg⟩; have HG11 : Hid (GrowA pb w w11) := (HG10.out.trans hg); have HP11 : Hid (PaS w11 pb b c T s5) := hp; have HR11 : Hid (PhZ w11 r) := (HR10.out.grow hg hrp); have HV1_11 : Hid (Tre w11 lo1 p [.int .i64 k0_1, .int .i64 k1_1, .int .i64 k2_1, .string s3_1, .string s4_1, .int .i64 k5_1, .int .i64 k6_1, .int .i64 k7_1, .string s8_1, .slice a9_1 l9_1 c9_1, .slice a10_1 l10_1 c10_1]) := (HV1_10.out.grow hg hlp1); have Hya11 : Hid (PhB w11 ya #[.int .i64 k0_1, .int .i64 k1_1, .int .i64 k2_1, .string s3_1, .string s4_1, .int .i64 k5_1, .int .i64 k6_1, .int .i64 k7_1, .string s8_1, .slice a9_1 l9_1 c9_1, .slice a10_1 l10_1 c10_1]) := (Hya10.out.grow hg hyap); have HV2_11 : Hid (Tre w11 lo2 p2 [.int .i64 k0_2, .int .i64 k1_2, .int .i64 k2_2, .string s3_2, .string s4_2, .int .i64 k5_2, .int .i64 k6_2, .int .i64 k7_2, .string s8_2, .slice a9_2 l9_2 c9_2, .slice a10_2 l10_2 c10_2]) := (HV2_10.out.grow hg hlp2); have Hyb11 : Hid (PhB w11 yb #[.int .i64 k0_2, .int .i64 k1_2, .int .i64 k2_2, .string s3_2, .string s4_2, .int .i64 k5_2, .int .i64 k6_2, .int .i64 k7_2, .string s8_2, .slice a9_2 l9_2 c9_2, .slice a10_2 l10_2 c10_2]) := (Hyb10.out.grow hg hybp); clear hp hg HP10 HG10 HR10 HV1_10 Hya10 HV2_10 Hyb10))
 have hlz9 : lo1 ≤ w11.heap.size := Nat.le_trans hlz1 (Nat.le_of_lt Hya11.out.lt)
 have hlz8 : lo2 ≤ w11.heap.size := Nat.le_trans hlz2 (Nat.le_of_lt Hyb11.out.lt)
 have hl12 : lo1 ≤ lo2 := by omega
 have CS : Hid (∀ W, GrowA pb w11 W → PaS W pb b c T s5 → Calls Tryz.prog 68 #[.pointer (some ⟨pb, 0, none⟩)] W fun e w' => ∃ v, (w11.heap.size ≤ w'.heap.size) ∧ Tre w' w11.heap.size p3 v ∧ e = .returned (.agg v.toArray) ∧ PaS w' pb b c T s6 ∧ GrowA pb w11 w') := fun W h1 h2 => HLX.out.useD HTB.out HG11.out h1 h2
 have HAY : Hid (∀ W, PhB W ya #[.int .i64 k0_1, .int .i64 k1_1, .int .i64 k2_1, .string s3_1, .string s4_1, .int .i64 k5_1, .int .i64 k6_1, .int .i64 k7_1, .string s8_1, .slice a9_1 l9_1 c9_1, .slice a10_1 l10_1 c10_1] ∧ PhB W yb #[.int .i64 k0_2, .int .i64 k1_2, .int .i64 k2_2, .string s3_2, .string s4_2, .int .i64 k5_2, .int .i64 k6_2, .int .i64 k7_2, .string s8_2, .slice a9_2 l9_2 c9_2, .slice a10_2 l10_2 c10_2] → W.cell? ⟨ya, 0, none⟩ = some (.int .i64 k0_1) ∧ W.cell? ⟨ya, 1, none⟩ = some (.int .i64 k1_1) ∧ W.cell? ⟨ya, 2, none⟩ = some (.int .i64 k2_1) ∧ W.cell? ⟨ya, 3, none⟩ = some (.string s3_1) ∧ W.cell? ⟨ya, 4, none⟩ = some (.string s4_1) ∧ W.cell? ⟨ya, 5, none⟩ = some (.int .i64 k5_1) ∧ W.cell? ⟨ya, 6, none⟩ = some (.int .i64 k6_1) ∧ W.cell? ⟨ya, 7, none⟩ = some (.int .i64 k7_1) ∧ W.cell? ⟨ya, 8, none⟩ = some (.string s8_1) ∧ W.cell? ⟨ya, 9, none⟩ = some (.slice a9_1 l9_1 c9_1) ∧ W.cell? ⟨ya, 10, none⟩ = some (.slice a10_1 l10_1 c10_1) ∧ W.cell? ⟨yb, 0, none⟩ = some (.int .i64 k0_2) ∧ W.cell? ⟨yb, 1, none⟩ = some (.int .i64 k1_2) ∧ W.cell? ⟨yb, 2, none⟩ = some (.int .i64 k2_2) ∧ W.cell? ⟨yb, 3, none⟩ = some (.string s3_2) ∧ W.cell? ⟨yb, 4, none⟩ = some (.string s4_2) ∧ W.cell? ⟨yb, 5, none⟩ = some (.int .i64 k5_2) ∧ W.cell? ⟨yb, 6, none⟩ = some (.int .i64 k6_2) ∧ W.cell? ⟨yb, 7, none⟩ = some (.int .i64 k7_2) ∧ W.cell? ⟨yb, 8, none⟩ = some (.string s8_2) ∧ W.cell? ⟨yb, 9, none⟩ = some (.slice a9_2 l9_2 c9_2) ∧ W.cell? ⟨yb, 10, none⟩ = some (.slice a10_2 l10_2 c10_2)) := fun W h => by
  obtain ⟨a0, a1, a2, a3, a4, a5, a6, a7, a8, a9, a10⟩ := h.1.cells.1
  obtain ⟨b0, b1, b2, b3, b4, b5, b6, b7, b8, b9, b10⟩ := h.2.cells.1
  exact ⟨a0, a1, a2, a3, a4, a5, a6, a7, a8, a9, a10, b0, b1, b2, b3, b4, b5, b6, b7, b8, b9, b10⟩
 have HYS : Hid (∀ W, GrowA pb w11 W → PhB W ya #[.int .i64 k0_1, .int .i64 k1_1, .int .i64 k2_1, .string s3_1, .string s4_1, .int .i64 k5_1, .int .i64 k6_1, .int .i64 k7_1, .string s8_1, .slice a9_1 l9_1 c9_1, .slice a10_1 l10_1 c10_1] ∧ PhB W yb #[.int .i64 k0_2, .int .i64 k1_2, .int .i64 k2_2, .string s3_2, .string s4_2, .int .i64 k5_2, .int .i64 k6_2, .int .i64 k7_2, .string s8_2, .slice a9_2 l9_2 c9_2, .slice a10_2 l10_2 c10_2]) := fun W h => ⟨Hya11.out.grow h hyap, Hyb11.out.grow h hybp⟩
 have HY0 : Hid (PhB w11 ya #[.int .i64 k0_1, .int .i64 k1_1, .int .i64 k2_1, .string s3_1, .string s4_1, .int .i64 k5_1, .int .i64 k6_1, .int .i64 k7_1, .string s8_1, .slice a9_1 l9_1 c9_1, .slice a10_1 l10_1 c10_1] ∧ PhB w11 yb #[.int .i64 k0_2, .int .i64 k1_2, .int .i64 k2_2, .string s3_2, .string s4_2, .int .i64 k5_2, .int .i64 k6_2, .int .i64 k7_2, .string s8_2, .slice a9_2 l9_2 c9_2, .slice a10_2 l10_2 c10_2]) := ⟨Hya11.out, Hyb11.out⟩
 have har : ya ≠ r := by omega
 have hbr : yb ≠ r := by omega
 go_region_held3 (fun W => W.cell? ⟨ya, 0, none⟩ = some (.int .i64 k0_1) ∧ W.cell? ⟨ya, 1, none⟩ = some (.int .i64 k1_1) ∧ W.cell? ⟨ya, 2, none⟩ = some (.int .i64 k2_1) ∧ W.cell? ⟨ya, 3, none⟩ = some (.string s3_1) ∧ W.cell? ⟨ya, 4, none⟩ = some (.string s4_1) ∧ W.cell? ⟨ya, 5, none⟩ = some (.int .i64 k5_1) ∧ W.cell? ⟨ya, 6, none⟩ = some (.int .i64 k6_1) ∧ W.cell? ⟨ya, 7, none⟩ = some (.int .i64 k7_1) ∧ W.cell? ⟨ya, 8, none⟩ = some (.string s8_1) ∧ W.cell? ⟨ya, 9, none⟩ = some (.slice a9_1 l9_1 c9_1) ∧ W.cell? ⟨ya, 10, none⟩ = some (.slice a10_1 l10_1 c10_1) ∧ W.cell? ⟨yb, 0, none⟩ = some (.int .i64 k0_2) ∧ W.cell? ⟨yb, 1, none⟩ = some (.int .i64 k1_2) ∧ W.cell? ⟨yb, 2, none⟩ = some (.int .i64 k2_2) ∧ W.cell? ⟨yb, 3, none⟩ = some (.string s3_2) ∧ W.cell? ⟨yb, 4, none⟩ = some (.string s4_2) ∧ W.cell? ⟨yb, 5, none⟩ = some (.int .i64 k5_2) ∧ W.cell? ⟨yb, 6, none⟩ = some (.int .i64 k6_2) ∧ W.cell? ⟨yb, 7, none⟩ = some (.int .i64 k7_2) ∧ W.cell? ⟨yb, 8, none⟩ = some (.string s8_2) ∧ W.cell? ⟨yb, 9, none⟩ = some (.slice a9_2 l9_2 c9_2) ∧ W.cell? ⟨yb, 10, none⟩ = some (.slice a10_2 l10_2 c10_2))
  (refine HAY.out _ ⟨?_, ?_⟩ <;> (repeat (first | with_reducible exact Hid.out (by with_reducible assumption) | with_reducible refine PhB.drewQ ?_ | with_reducible refine PhB.allocI ?_ _ | with_reducible refine PhB.setO ?_ har _ _ | with_reducible refine PhB.setO ?_ hbr _ _)))
  (first
   | (go_at_call 68; refine (CS.out _ ?_ ?_).mono ?_; (focus (repeat (first | with_reducible exact Hid.out (by with_reducible assumption) | exact GrowA.refl _ _ | with_reducible refine GrowA.drewG ?_ | with_reducible refine GrowA.alloc ?_ _))); (focus (repeat (first | with_reducible exact Hid.out (by with_reducible assumption) | with_reducible refine PaS.drewP ?_))); rintro e wz ⟨v, hsz, hv, rfl, hp, hg⟩; obtain ⟨k0_3, k1_3, k2_3, k5_3, k6_3, k7_3, s3_3, s4_3, s8_3, a9_3, a10_3, l9_3, c9_3, l10_3, c10_3, rfl⟩ := hv.form; have HGz := HidOf hg; have HPz := HidOf hp; have HVz := HidOf hv; have HSz := HidOf hsz; have HAz := HidOf (HYS.out _ hg).1; have HBz := HidOf (HYS.out _ hg).2; obtain ⟨⟨y0, y1, y2, y3, y4, y5, y6, y7, y8, y9, y10⟩, z0, z1, z2, z3, z4, z5, z6, z7, z8, z9, z10⟩ := (HR11.out.grow hg hrp).cells; have hrz := (HR11.out.grow hg hrp).lt; clear hv hsz hp hg CS))
 obtain ⟨g, hg0⟩ : ∃ g, g = wz.heap.size := ⟨_, rfl⟩
 rw [← hg0]
 obtain ⟨Wm, hWm⟩ : ∃ W, W = (((((((((((wz.setCell ⟨r, 0, none⟩ (.int .i64 7)).setCell ⟨r, 1, none⟩ (.int .i64 0)).setCell ⟨r, 2, none⟩ (.int .i64 0)).setCell ⟨r, 3, none⟩ (.string ⟨#[]⟩)).setCell ⟨r, 4, none⟩ (.string ⟨#[]⟩)).setCell ⟨r, 5, none⟩ (.int .i64 0)).setCell ⟨r, 6, none⟩ (.int .i64 0)).setCell ⟨r, 7, none⟩ (.int .i64 0)).setCell ⟨r, 8, none⟩ (.string ⟨#[]⟩)).setCell ⟨r, 9, none⟩ (.slice (some ⟨g, 0, none⟩) 3 3)).setCell ⟨r, 10, none⟩ (.slice none 0 0)) := ⟨_, rfl⟩
 have HPm : Hid (PaS Wm pb b c T s6) := by
  refine HidOf ?_
  rw [hWm]
  (repeat (first | with_reducible refine PaS.setR ?_ hrp hrb _ _ | exact HPz.out))
 have HGm : Hid (GrowA pb w Wm) := by
  refine HidOf ?_
  rw [hWm]
  (repeat (first | with_reducible refine GrowA.setR ?_ HRW.out _ _ | exact HG11.out.trans HGz.out))
 have HRm : Hid (PhB Wm r #[.int .i64 7, .int .i64 0, .int .i64 0, .string ⟨#[]⟩, .string ⟨#[]⟩, .int .i64 0, .int .i64 0, .int .i64 0, .string ⟨#[]⟩, .slice (some ⟨g, 0, none⟩) 3 3, .slice none 0 0]) := by rw [hWm]; exact PhB.put (HR11.out.grow HGz.out hrp)
 have hsm : Wm.heap.size = g := by rw [hWm, hg0]; simp
 have hrn : r < w11.heap.size := HR11.out.lt
 have HT1 : Hid (Tre Wm lo1 p [.int .i64 k0_1, .int .i64 k1_1, .int .i64 k2_1, .string s3_1, .string s4_1, .int .i64 k5_1, .int .i64 k6_1, .int .i64 k7_1, .string s8_1, .slice a9_1 l9_1 c9_1, .slice a10_1 l10_1 c10_1]) := by
  refine HidOf ?_
  rw [hWm]
  (repeat (first | with_reducible refine Tre.setR ?_ hlo1 _ _ | exact HV1_11.out.grow HGz.out hlp1))
 have HT2 : Hid (Tre Wm lo2 p2 [.int .i64 k0_2, .int .i64 k1_2, .int .i64 k2_2, .string s3_2, .string s4_2, .int .i64 k5_2, .int .i64 k6_2, .int .i64 k7_2, .string s8_2, .slice a9_2 l9_2 c9_2, .slice a10_2 l10_2 c10_2]) := by
  refine HidOf ?_
  rw [hWm]
  (repeat (first | with_reducible refine Tre.setR ?_ (show r < lo2 by omega) _ _ | exact HV2_11.out.grow HGz.out hlp2))
 have HT3 : Hid (Tre Wm w11.heap.size p3 [.int .i64 k0_3, .int .i64 k1_3, .int .i64 k2_3, .string s3_3, .string s4_3, .int .i64 k5_3, .int .i64 k6_3, .int .i64 k7_3, .string s8_3, .slice a9_3 l9_3 c9_3, .slice a10_3 l10_3 c10_3]) := by
  refine HidOf ?_
  rw [hWm]
  (repeat (first | with_reducible refine Tre.setR ?_ hrn _ _ | exact HVz.out))
 have HQm : Hid (Phs (Wm.alloc (.cells #[.int .i64 k0_1, .int .i64 k1_1, .int .i64 k2_1, .string s3_1, .string s4_1, .int .i64 k5_1, .int .i64 k6_1, .int .i64 k7_1, .string s8_1, .slice a9_1 l9_1 c9_1, .slice a10_1 l10_1 c10_1, .int .i64 k0_2, .int .i64 k1_2, .int .i64 k2_2, .string s3_2, .string s4_2, .int .i64 k5_2, .int .i64 k6_2, .int .i64 k7_2, .string s8_2, .slice a9_2 l9_2 c9_2, .slice a10_2 l10_2 c10_2, .int .i64 k0_3, .int .i64 k1_3, .int .i64 k2_3, .string s3_3, .string s4_3, .int .i64 k5_3, .int .i64 k6_3, .int .i64 k7_3, .string s8_3, .slice a9_3 l9_3 c9_3, .slice a10_3 l10_3 c10_3] 36)) lo1 3 (fun i => if i = 0 then p else if i = 1 then p2 else p3) (.slice (some ⟨g, 0, none⟩) 3 3)) := by
  have k := heap_alloc_new Wm (.cells #[.int .i64 k0_1, .int .i64 k1_1, .int .i64 k2_1, .string s3_1, .string s4_1, .int .i64 k5_1, .int .i64 k6_1, .int .i64 k7_1, .string s8_1, .slice a9_1 l9_1 c9_1, .slice a10_1 l10_1 c10_1, .int .i64 k0_2, .int .i64 k1_2, .int .i64 k2_2, .string s3_2, .string s4_2, .int .i64 k5_2, .int .i64 k6_2, .int .i64 k7_2, .string s8_2, .slice a9_2 l9_2 c9_2, .slice a10_2 l10_2 c10_2, .int .i64 k0_3, .int .i64 k1_3, .int .i64 k2_3, .string s3_3, .string s4_3, .int .i64 k5_3, .int .i64 k6_3, .int .i64 k7_3, .string s8_3, .slice a9_3 l9_3 c9_3, .slice a10_3 l10_3 c10_3] 36)
  rw [hsm] at k
  exact phs_three (T := 36) k (by have := HSz.out; omega) (HT1.out.allocI _) ((HT2.out.allocI _).mono hl12) ((HT3.out.allocI _).mono hlz9)
 rw [← hWm]
 clear hWm HT1 HT2 HT3 HVz HPz HGz HAz HBz HAY HYS HR11 HP11 HG11 HV1_11 HV2_11 Hya11 Hyb11 y0 z0 y1 z1 y2 z2 y3 z3 y4 z4 y5 z5 y6 z6 y7 z7 y8 z8 y9 z9 y10 z10 hrz
 have HRn := HidOf (HRm.out.allocI (.cells #[.int .i64 k0_1, .int .i64 k1_1, .int .i64 k2_1, .string s3_1, .string s4_1, .int .i64 k5_1, .int .i64 k6_1, .int .i64 k7_1, .string s8_1, .slice a9_1 l9_1 c9_1, .slice a10_1 l10_1 c10_1, .int .i64 k0_2, .int .i64 k1_2, .int .i64 k2_2, .string s3_2, .string s4_2, .int .i64 k5_2, .int .i64 k6_2, .int .i64 k7_2, .string s8_2, .slice a9_2 l9_2 c9_2, .slice a10_2 l10_2 c10_2, .int .i64 k0_3, .int .i64 k1_3, .int .i64 k2_3, .string s3_3, .string s4_3, .int .i64 k5_3, .int .i64 k6_3, .int .i64 k7_3, .string s8_3, .slice a9_3 l9_3 c9_3, .slice a10_3 l10_3 c10_3] 36))
 obtain ⟨⟨y0, y1, y2, y3, y4, y5, y6, y7, y8, y9, y10⟩, z0, z1, z2, z3, z4, z5, z6, z7, z8, z9, z10⟩ := HRn.out.cells
 go_wp2
 refine bodyPost_ret (v := .agg #[.int .i64 7, .int .i64 0, .int .i64 0, .string ⟨#[]⟩, .string ⟨#[]⟩, .int .i64 0, .int .i64 0, .int .i64 0, .string ⟨#[]⟩, .slice (some ⟨g, 0, none⟩) 3 3, .slice none 0 0]) (by simp [results, Tryz.results84, go_sem, y0, y1, y2, y3, y4, y5, y6, y7, y8, y9, y10]) rfl ⟨[.int .i64 7, .int .i64 0, .int .i64 0, .string ⟨#[]⟩, .string ⟨#[]⟩, .int .i64 0, .int .i64 0, .int .i64 0, .string ⟨#[]⟩, .slice (some ⟨g, 0, none⟩) 3 3, .slice none 0 0], ?_, rfl, HPm.out.allocI _, HGm.out.alloc _⟩
 exact Tre.mono (lo := lo1) (Phs.tre (A := fun i => if i = 0 then p else if i = 1 then p2 else p3) (v := .slice (some ⟨g, 0, none⟩) 3 3) HQm.out) (by have := HRW.out; omega)
end Go.Proofs.YtbnlekhjgkojlaaGreatDoor
