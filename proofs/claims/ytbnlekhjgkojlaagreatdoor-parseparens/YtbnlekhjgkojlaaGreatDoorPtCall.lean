import Derived.Test.YtbnlekhjgkojlaaGreatDoorQoArr
set_option linter.unusedVariables false
namespace Go.Proofs.YtbnlekhjgkojlaaGreatDoor
set_option maxRecDepth 100000
open Go.RowKit
set_option maxHeartbeats 1600000 in
theorem call_none {pb b c : Nat} {T : List Tok} {st : Pst} {us : ByteArray} {un : Int} {s2 : Pst} (hT : T.length ≤ 200) (hat : st.at' ≤ 300) (hu : seeM T st 0 = ⟨1, us, un⟩) (hs : us.size ≤ 4000) (ha1 : st.at' + 1 ≤ 300) (hw : wantM T { st with at' := st.at' + 1 } ⟨5, ⟨#[40]⟩, 0⟩ = s2) (ha2 : s2.at' ≤ 300) (hk : eqT (seeM T s2 0) ⟨5, ⟨#[41]⟩, 0⟩ = true) : RunT pb b c T 132 #[.pointer (some ⟨pb, 0, none⟩)] st { s2 with at' := s2.at' + 1 } (ph0 8 ⟨0, 0, ⟨#[]⟩⟩ us 0 0 0 ⟨#[]⟩) := by
 intro w h htb
 have HTB : Hid (RTab w pb) := htb
 clear htb
 have hpl := h.pl
 have hbl := h.bl
 go_enter Tryz.func132, Tryz.ntmps132
 go_upto_region 1 with fail
 obtain ⟨W1, hW1⟩ : ∃ W, W = w.alloc (.cells #[.int .i64 0, .int .i64 0, .int .i64 0, .string ⟨#[]⟩, .string ⟨#[]⟩, .int .i64 0, .int .i64 0, .int .i64 0, .string ⟨#[]⟩, .slice none 0 0, .slice none 0 0] 36) := ⟨_, rfl⟩
 have HG1 : Hid (GrowA pb w W1) := by rw [hW1]; exact (GrowA.refl _ _).alloc _
 have HP1 : Hid (PaS W1 pb b c T st) := by rw [hW1]; exact h.allocI _
 have HR1 : Hid (PhZ W1 w.heap.size) := by rw [hW1]; exact PhB.new w _
 rw [← hW1]
 obtain ⟨r, hr⟩ : ∃ r, r = w.heap.size := ⟨_, rfl⟩
 have HRW : Hid (w.heap.size ≤ r) := Nat.le_of_eq hr.symm
 have hrp : r ≠ pb := by omega
 have hrb : r ≠ b := by omega
 rw [← hr] at HR1 ⊢
 clear hW1 hr h hpl hbl
 go_upto_region 2 with (first
  | (go_at_call 97; (refine (text_yes HP1.out hT hat hu hs).mono ?_); rintro e w2 ⟨rfl, hp, hg⟩; have HG2 : Hid (GrowA pb w w2) := (HG1.out.trans hg); have HP2 : Hid (PaS w2 pb b c T { st with at' := st.at' + 1 }) := hp; have HR2 : Hid (PhZ w2 r) := (HR1.out.grow hg hrp); clear hp hg HP1 HG1 HR1))
 obtain ⟨W3, hW3⟩ : ∃ W, W = w2.alloc (.cells #[.int .i64 8, .int .i64 0, .int .i64 0, .string ⟨#[]⟩, .string us, .int .i64 0, .int .i64 0, .int .i64 0, .string ⟨#[]⟩, .slice none 0 0, .slice none 0 0] 36) := ⟨_, rfl⟩
 have HP3 : Hid (PaS W3 pb b c T { st with at' := st.at' + 1 }) := by rw [hW3]; exact HP2.out.allocI _
 have HG3 : Hid (GrowA pb w W3) := by rw [hW3]; exact HG2.out.alloc _
 have HR3 : Hid (PhZ W3 r) := by rw [hW3]; exact HR2.out.allocI _
 have HX3 : Hid (PhB W3 w2.heap.size #[.int .i64 8, .int .i64 0, .int .i64 0, .string ⟨#[]⟩, .string us, .int .i64 0, .int .i64 0, .int .i64 0, .string ⟨#[]⟩, .slice none 0 0, .slice none 0 0]) := by rw [hW3]; exact PhB.new w2 _
 have hxp : w2.heap.size ≠ pb := by have := HP2.out.pl; omega
 have hxb : w2.heap.size ≠ b := by have := HP2.out.bl; omega
 have hxw : w.heap.size ≤ w2.heap.size := HG2.out.1
 have hrx2 : r < w2.heap.size := HR2.out.lt
 have hrx : r ≠ w2.heap.size := by omega
 rw [← hW3]
 clear hW3 HP2 HG2 HR2
 go_wp2_with (first
  | (go_at_call 66; have HNX := HP3; refine (mark_is _ _).mono ?_; rintro e w4 ⟨rfl, hb⟩; have HG4 : Hid (GrowA pb w w4) := (HG3.out.below hb); have HP4 : Hid (PaS w4 pb b c T { st with at' := st.at' + 1 }) := (HP3.out.below hb); have HR4 : Hid (PhZ w4 r) := (HR3.out.below hb); have HX4 : Hid (PhB w4 w2.heap.size #[.int .i64 8, .int .i64 0, .int .i64 0, .string ⟨#[]⟩, .string us, .int .i64 0, .int .i64 0, .int .i64 0, .string ⟨#[]⟩, .slice none 0 0, .slice none 0 0]) := (HX3.out.below hb); clear hb HNX HP3 HG3 HR3 HX3)
  | (go_at_call 96; (refine (want_eq HP4.out hT ha1 hw).mono ?_); rintro e w5 ⟨rfl, hp, hg⟩; have HG5 : Hid (GrowA pb w w5) := (HG4.out.trans hg); have HP5 : Hid (PaS w5 pb b c T s2) := hp; have HR5 : Hid (PhZ w5 r) := (HR4.out.grow hg hrp); have HX5 : Hid (PhB w5 w2.heap.size #[.int .i64 8, .int .i64 0, .int .i64 0, .string ⟨#[]⟩, .string us, .int .i64 0, .int .i64 0, .int .i64 0, .string ⟨#[]⟩, .slice none 0 0, .slice none 0 0]) := (HX4.out.grow hg hxp); clear hp hg HP4 HG4 HR4 HX4)
  | (go_at_call 66; have HNX := HP5; refine (mark_is _ _).mono ?_; rintro e w6 ⟨rfl, hb⟩; have HG6 : Hid (GrowA pb w w6) := (HG5.out.below hb); have HP6 : Hid (PaS w6 pb b c T s2) := (HP5.out.below hb); have HR6 : Hid (PhZ w6 r) := (HR5.out.below hb); have HX6 : Hid (PhB w6 w2.heap.size #[.int .i64 8, .int .i64 0, .int .i64 0, .string ⟨#[]⟩, .string us, .int .i64 0, .int .i64 0, .int .i64 0, .string ⟨#[]⟩, .slice none 0 0, .slice none 0 0]) := (HX5.out.below hb); clear hb HNX HP5 HG5 HR5 HX5)
  | (go_at_call 69; (refine (skip_yes HP6.out hT ha2 _ _ _ hk).mono ?_); rintro e w7 ⟨rfl, hp, hg⟩; have HG7 : Hid (GrowA pb w w7) := (HG6.out.trans hg); have HP7 : Hid (PaS w7 pb b c T { s2 with at' := s2.at' + 1 }) := hp; have HR7 : Hid (PhZ w7 r) := (HR6.out.grow hg hrp); have HX7 : Hid (PhB w7 w2.heap.size #[.int .i64 8, .int .i64 0, .int .i64 0, .string ⟨#[]⟩, .string us, .int .i64 0, .int .i64 0, .int .i64 0, .string ⟨#[]⟩, .slice none 0 0, .slice none 0 0]) := (HX6.out.grow hg hxp); obtain ⟨⟨y0, y1, y2, y3, y4, y5, y6, y7, y8, y9, y10⟩, z0, z1, z2, z3, z4, z5, z6, z7, z8, z9, z10⟩ := HR7.out.cells; obtain ⟨⟨m0, m1, m2, m3, m4, m5, m6, m7, m8, m9, m10⟩, j0, j1, j2, j3, j4, j5, j6, j7, j8, j9, j10⟩ := HX7.out.cells; clear hp hg HP6 HG6 HR6 HX6))
 refine bodyPost_ret (v := .agg #[.int .i64 8, .int .i64 0, .int .i64 0, .string ⟨#[]⟩, .string us, .int .i64 0, .int .i64 0, .int .i64 0, .string ⟨#[]⟩, .slice none 0 0, .slice none 0 0]) (by simp [results, Tryz.results132, go_sem, y0, y1, y2, y3, y4, y5, y6, y7, y8, y9, y10]) rfl ⟨[.int .i64 8, .int .i64 0, .int .i64 0, .string ⟨#[]⟩, .string us, .int .i64 0, .int .i64 0, .int .i64 0, .string ⟨#[]⟩, .slice none 0 0, .slice none 0 0], ?_, rfl, ?_, ?_⟩
 · exact tre_ph0
 · (repeat (first | with_reducible refine PaS.setR ?_ hrp hrb _ _ | with_reducible refine PaS.allocI ?_ _ | exact HP7.out))
 · (repeat (first | with_reducible refine GrowA.setR ?_ HRW.out _ _ | with_reducible refine GrowA.alloc ?_ _ | exact HG7.out))
set_option maxHeartbeats 1600000 in
theorem call_some {pb b c : Nat} {T : List Tok} {st : Pst} {us : ByteArray} {un : Int} {s2 s3 s4 : Pst} {n : Nat} {A : Nat → Ph} (hT : T.length ≤ 200) (hat : st.at' ≤ 300) (hu : seeM T st 0 = ⟨1, us, un⟩) (hs : us.size ≤ 4000) (ha1 : st.at' + 1 ≤ 300) (hw : wantM T { st with at' := st.at' + 1 } ⟨5, ⟨#[40]⟩, 0⟩ = s2) (ha2 : s2.at' ≤ 300) (hk : eqT (seeM T s2 0) ⟨5, ⟨#[41]⟩, 0⟩ = false) (ha3 : s3.at' ≤ 300) (hw2 : wantM T s3 ⟨5, ⟨#[41]⟩, 0⟩ = s4) (hlu : RunL pb b c T 44 s2 s3 n A) : RunT pb b c T 132 #[.pointer (some ⟨pb, 0, none⟩)] st s4 (phN 8 ⟨0, 0, ⟨#[]⟩⟩ us 0 0 0 ⟨#[]⟩ n A) := by
 intro w h htb
 have HTB : Hid (RTab w pb) := htb
 clear htb
 have HLU : Hid (RunL pb b c T 44 s2 s3 n A) := hlu
 clear hlu
 have hpl := h.pl
 have hbl := h.bl
 go_enter Tryz.func132, Tryz.ntmps132
 go_upto_region 1 with fail
 obtain ⟨W1, hW1⟩ : ∃ W, W = w.alloc (.cells #[.int .i64 0, .int .i64 0, .int .i64 0, .string ⟨#[]⟩, .string ⟨#[]⟩, .int .i64 0, .int .i64 0, .int .i64 0, .string ⟨#[]⟩, .slice none 0 0, .slice none 0 0] 36) := ⟨_, rfl⟩
 have HG1 : Hid (GrowA pb w W1) := by rw [hW1]; exact (GrowA.refl _ _).alloc _
 have HP1 : Hid (PaS W1 pb b c T st) := by rw [hW1]; exact h.allocI _
 have HR1 : Hid (PhZ W1 w.heap.size) := by rw [hW1]; exact PhB.new w _
 rw [← hW1]
 obtain ⟨r, hr⟩ : ∃ r, r = w.heap.size := ⟨_, rfl⟩
 have HRW : Hid (w.heap.size ≤ r) := Nat.le_of_eq hr.symm
 have hrp : r ≠ pb := by omega
 have hrb : r ≠ b := by omega
 rw [← hr] at HR1 ⊢
 clear hW1 hr h hpl hbl
 go_upto_region 2 with (first
  | (go_at_call 97; (refine (text_yes HP1.out hT hat hu hs).mono ?_); rintro e w2 ⟨rfl, hp, hg⟩; have HG2 : Hid (GrowA pb w w2) := (HG1.out.trans hg); have HP2 : Hid (PaS w2 pb b c T { st with at' := st.at' + 1 }) := hp; have HR2 : Hid (PhZ w2 r) := (HR1.out.grow hg hrp); clear hp hg HP1 HG1 HR1))
 obtain ⟨W3, hW3⟩ : ∃ W, W = w2.alloc (.cells #[.int .i64 8, .int .i64 0, .int .i64 0, .string ⟨#[]⟩, .string us, .int .i64 0, .int .i64 0, .int .i64 0, .string ⟨#[]⟩, .slice none 0 0, .slice none 0 0] 36) := ⟨_, rfl⟩
 have HP3 : Hid (PaS W3 pb b c T { st with at' := st.at' + 1 }) := by rw [hW3]; exact HP2.out.allocI _
 have HG3 : Hid (GrowA pb w W3) := by rw [hW3]; exact HG2.out.alloc _
 have HR3 : Hid (PhZ W3 r) := by rw [hW3]; exact HR2.out.allocI _
 have HX3 : Hid (PhB W3 w2.heap.size #[.int .i64 8, .int .i64 0, .int .i64 0, .string ⟨#[]⟩, .string us, .int .i64 0, .int .i64 0, .int .i64 0, .string ⟨#[]⟩, .slice none 0 0, .slice none 0 0]) := by rw [hW3]; exact PhB.new w2 _
 have hxp : w2.heap.size ≠ pb := by have := HP2.out.pl; omega
 have hxb : w2.heap.size ≠ b := by have := HP2.out.bl; omega
 have hxw : w.heap.size ≤ w2.heap.size := HG2.out.1
 have hrx2 : r < w2.heap.size := HR2.out.lt
 have hrx : r ≠ w2.heap.size := by omega
 rw [← hW3]
 clear hW3 HP2 HG2 HR2
 go_upto_region 6 with (first
  | (go_at_call 66; have HNX := HP3; refine (mark_is _ _).mono ?_; rintro e w4 ⟨rfl, hb⟩; have HG4 : Hid (GrowA pb w w4) := (HG3.out.below hb); have HP4 : Hid (PaS w4 pb b c T { st with at' := st.at' + 1 }) := (HP3.out.below hb); have HR4 : Hid (PhZ w4 r) := (HR3.out.below hb); have HX4 : Hid (PhB w4 w2.heap.size #[.int .i64 8, .int .i64 0, .int .i64 0, .string ⟨#[]⟩, .string us, .int .i64 0, .int .i64 0, .int .i64 0, .string ⟨#[]⟩, .slice none 0 0, .slice none 0 0]) := (HX3.out.below hb); clear hb HNX HP3 HG3 HR3 HX3)
  | (go_at_call 96; (refine (want_eq HP4.out hT ha1 hw).mono ?_); rintro e w5 ⟨rfl, hp, hg⟩; have HG5 : Hid (GrowA pb w w5) := (HG4.out.trans hg); have HP5 : Hid (PaS w5 pb b c T s2) := hp; have HR5 : Hid (PhZ w5 r) := (HR4.out.grow hg hrp); have HX5 : Hid (PhB w5 w2.heap.size #[.int .i64 8, .int .i64 0, .int .i64 0, .string ⟨#[]⟩, .string us, .int .i64 0, .int .i64 0, .int .i64 0, .string ⟨#[]⟩, .slice none 0 0, .slice none 0 0]) := (HX4.out.grow hg hxp); clear hp hg HP4 HG4 HR4 HX4)
  | (go_at_call 66; have HNX := HP5; refine (mark_is _ _).mono ?_; rintro e w6 ⟨rfl, hb⟩; have HG6 : Hid (GrowA pb w w6) := (HG5.out.below hb); have HP6 : Hid (PaS w6 pb b c T s2) := (HP5.out.below hb); have HR6 : Hid (PhZ w6 r) := (HR5.out.below hb); have HX6 : Hid (PhB w6 w2.heap.size #[.int .i64 8, .int .i64 0, .int .i64 0, .string ⟨#[]⟩, .string us, .int .i64 0, .int .i64 0, .int .i64 0, .string ⟨#[]⟩, .slice none 0 0, .slice none 0 0]) := (HX5.out.below hb); clear hb HNX HP5 HG5 HR5 HX5)
  | (go_at_call 69; (refine (skip_no HP6.out hT ha2 _ _ _ hk).mono ?_); rintro e w7 ⟨rfl, hp, hg⟩; have HG7 : Hid (GrowA pb w w7) := (HG6.out.trans hg); have HP7 : Hid (PaS w7 pb b c T s2) := hp; have HR7 : Hid (PhZ w7 r) := (HR6.out.grow hg hrp); have HX7 : Hid (PhB w7 w2.heap.size #[.int .i64 8, .int .i64 0, .int .i64 0, .string ⟨#[]⟩, .string us, .int .i64 0, .int .i64 0, .int .i64 0, .string ⟨#[]⟩, .slice none 0 0, .slice none 0 0]) := (HX6.out.grow hg hxp); clear hp hg HP6 HG6 HR6 HX6)
  | (go_at_call 44; (first | refine (HLU.out.use HTB.out HP7.out HG7.out (show w2.heap.size < _ from by have k := HX7.out.lt; first | exact k | (simp; omega))).mono ?_ | refine (HLU.out.use HTB.out (HP7.out.allocI _) (HG7.out.alloc _) (show w2.heap.size < _ from by have k := HX7.out.lt; first | exact k | (simp; omega))).mono ?_ | refine (HLU.out.use HTB.out ((HP7.out.allocI _).allocI _) ((HG7.out.alloc _).alloc _) (show w2.heap.size < _ from by have k := HX7.out.lt; first | exact k | (simp; omega))).mono ?_); rintro e w8 ⟨lo1, v, hlo, hv, rfl, hp, hg⟩; obtain ⟨a1, c1, rfl⟩ := hv.form; have hlo1 := hlo.1; have hlp1 := hlo.2.1; have hlz1 := hlo.2.2; have HG8 : Hid (GrowA pb w w8) := (HG7.out.trans hg); have HP8 : Hid (PaS w8 pb b c T s3) := hp; have HR8 : Hid (PhZ w8 r) := (HR7.out.grow hg hrp); have HX8 : Hid (PhB w8 w2.heap.size #[.int .i64 8, .int .i64 0, .int .i64 0, .string ⟨#[]⟩, .string us, .int .i64 0, .int .i64 0, .int .i64 0, .string ⟨#[]⟩, .slice none 0 0, .slice none 0 0]) := (HX7.out.grow hg hxp); have HV1_8 : Hid (Phs w8 lo1 n A (.slice a1 n c1)) := hv; obtain ⟨⟨m0, m1, m2, m3, m4, m5, m6, m7, m8, m9, m10⟩, j0, j1, j2, j3, j4, j5, j6, j7, j8, j9, j10⟩ := HX8.out.cells; have hxz := HX8.out.lt; clear hv hlo hp hg HP7 HG7 HR7 HX7))
 obtain ⟨W9, hW9⟩ : ∃ W, W = w8.setCell ⟨w2.heap.size, 9, none⟩ (.slice a1 n c1) := ⟨_, rfl⟩
 have HP9 : Hid (PaS W9 pb b c T s3) := by rw [hW9]; exact HP8.out.setR hxp hxb 9 _
 have HG9 : Hid (GrowA pb w W9) := by rw [hW9]; exact HG8.out.setR hxw 9 _
 have HR9 : Hid (PhZ W9 r) := by rw [hW9]; exact HR8.out.setO hrx 9 _
 have HX9 : Hid (PhB W9 w2.heap.size #[.int .i64 8, .int .i64 0, .int .i64 0, .string ⟨#[]⟩, .string us, .int .i64 0, .int .i64 0, .int .i64 0, .string ⟨#[]⟩, .slice a1 n c1, .slice none 0 0]) := by rw [hW9]; exact HX8.out.setAt 9 (.slice a1 n c1)
 have HV1_9 : Hid (Phs W9 lo1 n A (.slice a1 n c1)) := by rw [hW9]; exact HV1_8.out.setR hlo1 9 _
 rw [← hW9]
 clear hW9 HP8 HG8 HR8 HX8 HV1_8 hxz m0 m1 m2 m3 m4 m5 m6 m7 m8 m9 m10 j0 j1 j2 j3 j4 j5 j6 j7 j8 j9 j10
 go_wp2_with (first
  | (go_at_call 66; have HNX := HP9; refine (mark_is _ _).mono ?_; rintro e w10 ⟨rfl, hb⟩; have HG10 : Hid (GrowA pb w w10) := (HG9.out.below hb); have HP10 : Hid (PaS w10 pb b c T s3) := (HP9.out.below hb); have HR10 : Hid (PhZ w10 r) := (HR9.out.below hb); have HX10 : Hid (PhB w10 w2.heap.size #[.int .i64 8, .int .i64 0, .int .i64 0, .string ⟨#[]⟩, .string us, .int .i64 0, .int .i64 0, .int .i64 0, .string ⟨#[]⟩, .slice a1 n c1, .slice none 0 0]) := (HX9.out.below hb); have HV1_10 : Hid (Phs w10 lo1 n A (.slice a1 n c1)) := (HV1_9.out.below hb); clear hb HNX HP9 HG9 HR9 HX9 HV1_9)
  | (go_at_call 96; (refine (want_eq HP10.out hT ha3 hw2).mono ?_); rintro e w11 ⟨rfl, hp, hg⟩; have HG11 : Hid (GrowA pb w w11) := (HG10.out.trans hg); have HP11 : Hid (PaS w11 pb b c T s4) := hp; have HR11 : Hid (PhZ w11 r) := (HR10.out.grow hg hrp); have HX11 : Hid (PhB w11 w2.heap.size #[.int .i64 8, .int .i64 0, .int .i64 0, .string ⟨#[]⟩, .string us, .int .i64 0, .int .i64 0, .int .i64 0, .string ⟨#[]⟩, .slice a1 n c1, .slice none 0 0]) := (HX10.out.grow hg hxp); have HV1_11 : Hid (Phs w11 lo1 n A (.slice a1 n c1)) := (HV1_10.out.grow hg hlp1); obtain ⟨⟨y0, y1, y2, y3, y4, y5, y6, y7, y8, y9, y10⟩, z0, z1, z2, z3, z4, z5, z6, z7, z8, z9, z10⟩ := HR11.out.cells; obtain ⟨⟨m0, m1, m2, m3, m4, m5, m6, m7, m8, m9, m10⟩, j0, j1, j2, j3, j4, j5, j6, j7, j8, j9, j10⟩ := HX11.out.cells; clear hp hg HP10 HG10 HR10 HX10 HV1_10))
 refine bodyPost_ret (v := .agg #[.int .i64 8, .int .i64 0, .int .i64 0, .string ⟨#[]⟩, .string us, .int .i64 0, .int .i64 0, .int .i64 0, .string ⟨#[]⟩, .slice a1 n c1, .slice none 0 0]) (by simp [results, Tryz.results132, go_sem, y0, y1, y2, y3, y4, y5, y6, y7, y8, y9, y10]) rfl ⟨[.int .i64 8, .int .i64 0, .int .i64 0, .string ⟨#[]⟩, .string us, .int .i64 0, .int .i64 0, .int .i64 0, .string ⟨#[]⟩, .slice a1 n c1, .slice none 0 0], ?_, rfl, ?_, ?_⟩
 · (have hlr1 : r < lo1 := by omega)
   refine Tre.mono (lo := lo1) ?_ (by have := HRW.out; omega)
   refine Phs.tre (A := A) (v := .slice a1 n c1) ?_
   (repeat (first | with_reducible refine Phs.setR ?_ hlr1 _ _ | with_reducible refine Phs.allocI ?_ _ | with_reducible exact HV1_11.out))
 · (repeat (first | with_reducible refine PaS.setR ?_ hrp hrb _ _ | with_reducible refine PaS.allocI ?_ _ | exact HP11.out))
 · (repeat (first | with_reducible refine GrowA.setR ?_ HRW.out _ _ | with_reducible refine GrowA.alloc ?_ _ | exact HG11.out))
end Go.Proofs.YtbnlekhjgkojlaaGreatDoor
