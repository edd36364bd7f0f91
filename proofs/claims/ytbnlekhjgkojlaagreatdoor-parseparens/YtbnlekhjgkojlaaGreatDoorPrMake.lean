import Derived.Test.YtbnlekhjgkojlaaGreatDoorPtCall
set_option linter.unusedVariables false
namespace Go.Proofs.YtbnlekhjgkojlaaGreatDoor
set_option maxRecDepth 100000
open Go.RowKit
set_option maxHeartbeats 1600000 in
theorem cons_elem {pb b c : Nat} {T : List Tok} {st : Pst} {us u1s : ByteArray} {un u1n : Int} {s2 s3 : Pst} {p : Ph} (hT : T.length ≤ 200) (hat : st.at' ≤ 300) (hu : seeM T st 0 = ⟨1, us, un⟩) (hs : us.size ≤ 4000) (n1 : (us.toList == [101, 108, 101, 109, 101, 110, 116]) = true) (ha1 : st.at' + 1 ≤ 300) (hu1 : seeM T { st with at' := st.at' + 1 } 0 = ⟨1, u1s, u1n⟩) (hs1 : u1s.size ≤ 4000) (ha2 : st.at' + 1 + 1 ≤ 300) (hw : wantM T { st with at' := st.at' + 1 + 1 } ⟨5, ⟨#[123]⟩, 0⟩ = s2) (hlu : RunT pb b c T 130 #[.pointer (some ⟨pb, 0, none⟩), .agg #[.int .i64 5, .string ⟨#[125]⟩, .int .i64 0]] s2 s3 p) : RunT pb b c T 131 #[.pointer (some ⟨pb, 0, none⟩)] st s3 (phN 10 ⟨0, 0, ⟨#[]⟩⟩ u1s 1 0 0 ⟨#[]⟩ 1 (fun _ => p)) := by
 intro w h htb
 have HTB : Hid (RTab w pb) := htb
 clear htb
 have HLU : Hid (RunT pb b c T 130 #[.pointer (some ⟨pb, 0, none⟩), .agg #[.int .i64 5, .string ⟨#[125]⟩, .int .i64 0]] s2 s3 p) := hlu
 clear hlu
 have hpl := h.pl
 have hbl := h.bl
 go_enter Tryz.func131, Tryz.ntmps131
 go_upto_region 1 with fail
 obtain ⟨W1, hW1⟩ : ∃ W, W = w.alloc (.cells #[.int .i64 0, .int .i64 0, .int .i64 0, .string ⟨#[]⟩, .string ⟨#[]⟩, .int .i64 0, .int .i64 0, .int .i64 0, .string ⟨#[]⟩, .slice none 0 0, .slice none 0 0] 36) := ⟨_, rfl⟩
 have HG1 : Hid (GrowA pb w W1) := by rw [hW1]; exact (GrowA.refl _ _).alloc _
 have HP1 : Hid (PaS W1 pb b c T st) := by rw [hW1]; exact h.allocI _
 have HR1 : Hid (PhZ W1 w.heap.size) := by rw [hW1]; exact PhB.new w _
 rw [← hW1]
 obtain ⟨r, hr⟩ : ∃ r, r = w.heap.size := ⟨_, rfl⟩
 have HRW : Hid (w.heap.size ≤ r) := Nat.le_of_eq hr.symm
 have hrp : r ≠ pb := by omega
 have hrb : r ≠ b := by omega
 rw [← hr] at HR1 ⊢
 clear hW1 hr h hpl hbl
 have hxp : W1.heap.size ≠ pb := by have := HP1.out.pl; omega
 have hxb : W1.heap.size ≠ b := by have := HP1.out.bl; omega
 have hxw : w.heap.size ≤ W1.heap.size := HG1.out.1
 have hrx : r ≠ W1.heap.size := by have := HR1.out.lt; omega
 have hrx2 : r < W1.heap.size := HR1.out.lt
 go_upto_region 8 with (first
  | (go_at_call 97; (refine (text_yes (HP1.out.allocI _) hT hat hu hs).mono ?_); rintro e w2 ⟨rfl, hp, hg⟩; have HG2 : Hid (GrowA pb w w2) := ((HG1.out.alloc _).trans hg); have HP2 : Hid (PaS w2 pb b c T { st with at' := st.at' + 1 }) := hp; have HR2 : Hid (PhZ w2 r) := ((HR1.out.allocI _).grow hg hrp); have HX2 : Hid (PhB w2 W1.heap.size #[.int .i64 10, .int .i64 0, .int .i64 0, .string ⟨#[]⟩, .string ⟨#[]⟩, .int .i64 0, .int .i64 0, .int .i64 0, .string ⟨#[]⟩, .slice none 0 0, .slice none 0 0]) := (PhB.new W1 #[.int .i64 10, .int .i64 0, .int .i64 0, .string ⟨#[]⟩, .string ⟨#[]⟩, .int .i64 0, .int .i64 0, .int .i64 0, .string ⟨#[]⟩, .slice none 0 0, .slice none 0 0]).grow hg hxp; clear hp hg HP1 HG1 HR1)
  | (go_at_call 97; (refine (text_yes HP2.out hT ha1 hu1 hs1).mono ?_); rintro e w3 ⟨rfl, hp, hg⟩; have HG3 : Hid (GrowA pb w w3) := (HG2.out.trans hg); have HP3 : Hid (PaS w3 pb b c T { st with at' := st.at' + 1 + 1 }) := hp; have HR3 : Hid (PhZ w3 r) := (HR2.out.grow hg hrp); have HX3 : Hid (PhB w3 W1.heap.size #[.int .i64 10, .int .i64 0, .int .i64 0, .string ⟨#[]⟩, .string ⟨#[]⟩, .int .i64 0, .int .i64 0, .int .i64 0, .string ⟨#[]⟩, .slice none 0 0, .slice none 0 0]) := (HX2.out.grow hg hxp); obtain ⟨⟨m0, m1, m2, m3, m4, m5, m6, m7, m8, m9, m10⟩, j0, j1, j2, j3, j4, j5, j6, j7, j8, j9, j10⟩ := HX3.out.cells; have hxl := HX3.out.lt; clear hp hg HP2 HG2 HR2 HX2))
 obtain ⟨W4, hW4⟩ : ∃ W, W = (w3.setCell ⟨W1.heap.size, 5, none⟩ (.int .i64 1)).setCell ⟨W1.heap.size, 4, none⟩ (.string u1s) := ⟨_, rfl⟩
 have HP4 : Hid (PaS W4 pb b c T { st with at' := st.at' + 1 + 1 }) := by rw [hW4]; exact (HP3.out.setR hxp hxb 5 _).setR hxp hxb 4 _
 have HG4 : Hid (GrowA pb w W4) := by rw [hW4]; exact (HG3.out.setR hxw 5 _).setR hxw 4 _
 have HR4 : Hid (PhZ W4 r) := by rw [hW4]; exact (HR3.out.setO hrx 5 _).setO hrx 4 _
 have HX4 : Hid (PhB W4 W1.heap.size #[.int .i64 10, .int .i64 0, .int .i64 0, .string ⟨#[]⟩, .string u1s, .int .i64 1, .int .i64 0, .int .i64 0, .string ⟨#[]⟩, .slice none 0 0, .slice none 0 0]) := by rw [hW4]; exact (HX3.out.setAt 5 (.int .i64 1)).setAt 4 (.string u1s)
 rw [← hW4]
 clear hW4 HP3 HG3 HR3 HX3 hxl m0 m1 m2 m3 m4 m5 m6 m7 m8 m9 m10 j0 j1 j2 j3 j4 j5 j6 j7 j8 j9 j10
 go_wp2_with (first
  | (go_at_call 66; have HNX := HP4; refine (mark_is _ _).mono ?_; rintro e w5 ⟨rfl, hb⟩; have HG5 : Hid (GrowA pb w w5) := (HG4.out.below hb); have HP5 : Hid (PaS w5 pb b c T { st with at' := st.at' + 1 + 1 }) := (HP4.out.below hb); have HR5 : Hid (PhZ w5 r) := (HR4.out.below hb); have HX5 : Hid (PhB w5 W1.heap.size #[.int .i64 10, .int .i64 0, .int .i64 0, .string ⟨#[]⟩, .string u1s, .int .i64 1, .int .i64 0, .int .i64 0, .string ⟨#[]⟩, .slice none 0 0, .slice none 0 0]) := (HX4.out.below hb); clear hb HNX HP4 HG4 HR4 HX4)
  | (go_at_call 96; (refine (want_eq HP5.out hT ha2 hw).mono ?_); rintro e w6 ⟨rfl, hp, hg⟩; have HG6 : Hid (GrowA pb w w6) := (HG5.out.trans hg); have HP6 : Hid (PaS w6 pb b c T s2) := hp; have HR6 : Hid (PhZ w6 r) := (HR5.out.grow hg hrp); have HX6 : Hid (PhB w6 W1.heap.size #[.int .i64 10, .int .i64 0, .int .i64 0, .string ⟨#[]⟩, .string u1s, .int .i64 1, .int .i64 0, .int .i64 0, .string ⟨#[]⟩, .slice none 0 0, .slice none 0 0]) := (HX5.out.grow hg hxp); clear hp hg HP5 HG5 HR5 HX5)
  | (go_at_call 66; have HNX := HP6; refine (mark_is _ _).mono ?_; rintro e w7 ⟨rfl, hb⟩; have HG7 : Hid (GrowA pb w w7) := (HG6.out.below hb); have HP7 : Hid (PaS w7 pb b c T s2) := (HP6.out.below hb); have HR7 : Hid (PhZ w7 r) := (HR6.out.below hb); have HX7 : Hid (PhB w7 W1.heap.size #[.int .i64 10, .int .i64 0, .int .i64 0, .string ⟨#[]⟩, .string u1s, .int .i64 1, .int .i64 0, .int .i64 0, .string ⟨#[]⟩, .slice none 0 0, .slice none 0 0]) := (HX6.out.below hb); clear hb HNX HP6 HG6 HR6 HX6)
  | (go_at_call 130; (first | refine (HLU.out.use HTB.out HP7.out HG7.out (show W1.heap.size < _ from by have k := HX7.out.lt; first | exact k | (simp; omega))).mono ?_ | refine (HLU.out.use HTB.out (HP7.out.allocI _) (HG7.out.alloc _) (show W1.heap.size < _ from by have k := HX7.out.lt; first | exact k | (simp; omega))).mono ?_ | refine (HLU.out.use HTB.out ((HP7.out.allocI _).allocI _) ((HG7.out.alloc _).alloc _) (show W1.heap.size < _ from by have k := HX7.out.lt; first | exact k | (simp; omega))).mono ?_); rintro e w8 ⟨lo1, v, hlo, hv, rfl, hp, hg⟩; obtain ⟨k0_1, k1_1, k2_1, k5_1, k6_1, k7_1, s3_1, s4_1, s8_1, a9_1, a10_1, l9_1, c9_1, l10_1, c10_1, rfl⟩ := hv.form; have hlo1 := hlo.1; have hlp1 := hlo.2.1; have hlz1 := hlo.2.2; have HG8 : Hid (GrowA pb w w8) := (HG7.out.trans hg); have HP8 : Hid (PaS w8 pb b c T s3) := hp; have HR8 : Hid (PhZ w8 r) := (HR7.out.grow hg hrp); have HX8 : Hid (PhB w8 W1.heap.size #[.int .i64 10, .int .i64 0, .int .i64 0, .string ⟨#[]⟩, .string u1s, .int .i64 1, .int .i64 0, .int .i64 0, .string ⟨#[]⟩, .slice none 0 0, .slice none 0 0]) := (HX7.out.grow hg hxp); have HV1_8 : Hid (Tre w8 lo1 p [.int .i64 k0_1, .int .i64 k1_1, .int .i64 k2_1, .string s3_1, .string s4_1, .int .i64 k5_1, .int .i64 k6_1, .int .i64 k7_1, .string s8_1, .slice a9_1 l9_1 c9_1, .slice a10_1 l10_1 c10_1]) := hv; obtain ⟨⟨y0, y1, y2, y3, y4, y5, y6, y7, y8, y9, y10⟩, z0, z1, z2, z3, z4, z5, z6, z7, z8, z9, z10⟩ := HR8.out.cells; obtain ⟨⟨m0, m1, m2, m3, m4, m5, m6, m7, m8, m9, m10⟩, j0, j1, j2, j3, j4, j5, j6, j7, j8, j9, j10⟩ := HX8.out.cells; have hxz := HX8.out.lt; have hrz := HR8.out.lt; clear hv hlo hp hg HP7 HG7 HR7 HX7))
 refine bodyPost_ret (v := .agg #[.int .i64 10, .int .i64 0, .int .i64 0, .string ⟨#[]⟩, .string u1s, .int .i64 1, .int .i64 0, .int .i64 0, .string ⟨#[]⟩, .slice (some ⟨w8.heap.size, 0, none⟩) 1 1, .slice none 0 0]) (by simp [results, Tryz.results131, go_sem, hrz, y0, y1, y2, y3, y4, y5, y6, y7, y8, y9, y10]) rfl ⟨[.int .i64 10, .int .i64 0, .int .i64 0, .string ⟨#[]⟩, .string u1s, .int .i64 1, .int .i64 0, .int .i64 0, .string ⟨#[]⟩, .slice (some ⟨w8.heap.size, 0, none⟩) 1 1, .slice none 0 0], ?_, rfl, ?_, ?_⟩
 · (have hlr1 : r < lo1 := by omega)
   refine Tre.mono (lo := lo1) ?_ (by have := HRW.out; omega)
   refine Phs.tre (A := fun _ => p) (v := .slice (some ⟨w8.heap.size, 0, none⟩) 1 1) ?_
   (repeat (first | with_reducible refine Phs.setR ?_ hlr1 _ _ | with_reducible refine Phs.setR ?_ hlo1 _ _))
   refine phs_at (by simp) ?_ hlz1 rfl
   (repeat (first | with_reducible refine Tre.setR ?_ hlr1 _ _ | with_reducible refine Tre.setR ?_ hlo1 _ _ | with_reducible refine Tre.allocI ?_ _ | with_reducible exact HV1_8.out))
 · (repeat (first | with_reducible refine PaS.setR ?_ hrp hrb _ _ | with_reducible refine PaS.setR ?_ hxp hxb _ _ | with_reducible refine PaS.allocI ?_ _ | exact HP8.out))
 · (repeat (first | with_reducible refine GrowA.setR ?_ HRW.out _ _ | with_reducible refine GrowA.setR ?_ hxw _ _ | with_reducible refine GrowA.alloc ?_ _ | exact HG8.out))
set_option maxHeartbeats 1600000 in
theorem cons_attr {pb b c : Nat} {T : List Tok} {st : Pst} {us u1s : ByteArray} {un u1n : Int} {s2 s3 : Pst} {p : Ph} (hT : T.length ≤ 200) (hat : st.at' ≤ 300) (hu : seeM T st 0 = ⟨1, us, un⟩) (hs : us.size ≤ 4000) (n1 : (us.toList == [101, 108, 101, 109, 101, 110, 116]) = false) (n2 : (us.toList == [97, 116, 116, 114, 105, 98, 117, 116, 101]) = true) (ha1 : st.at' + 1 ≤ 300) (hu1 : seeM T { st with at' := st.at' + 1 } 0 = ⟨1, u1s, u1n⟩) (hs1 : u1s.size ≤ 4000) (ha2 : st.at' + 1 + 1 ≤ 300) (hw : wantM T { st with at' := st.at' + 1 + 1 } ⟨5, ⟨#[123]⟩, 0⟩ = s2) (hlu : RunT pb b c T 130 #[.pointer (some ⟨pb, 0, none⟩), .agg #[.int .i64 5, .string ⟨#[125]⟩, .int .i64 0]] s2 s3 p) : RunT pb b c T 131 #[.pointer (some ⟨pb, 0, none⟩)] st s3 (phN 10 ⟨0, 0, ⟨#[]⟩⟩ u1s 2 0 0 ⟨#[]⟩ 1 (fun _ => p)) := by
 intro w h htb
 have HTB : Hid (RTab w pb) := htb
 clear htb
 have HLU : Hid (RunT pb b c T 130 #[.pointer (some ⟨pb, 0, none⟩), .agg #[.int .i64 5, .string ⟨#[125]⟩, .int .i64 0]] s2 s3 p) := hlu
 clear hlu
 have hpl := h.pl
 have hbl := h.bl
 go_enter Tryz.func131, Tryz.ntmps131
 go_upto_region 1 with fail
 obtain ⟨W1, hW1⟩ : ∃ W, W = w.alloc (.cells #[.int .i64 0, .int .i64 0, .int .i64 0, .string ⟨#[]⟩, .string ⟨#[]⟩, .int .i64 0, .int .i64 0, .int .i64 0, .string ⟨#[]⟩, .slice none 0 0, .slice none 0 0] 36) := ⟨_, rfl⟩
 have HG1 : Hid (GrowA pb w W1) := by rw [hW1]; exact (GrowA.refl _ _).alloc _
 have HP1 : Hid (PaS W1 pb b c T st) := by rw [hW1]; exact h.allocI _
 have HR1 : Hid (PhZ W1 w.heap.size) := by rw [hW1]; exact PhB.new w _
 rw [← hW1]
 obtain ⟨r, hr⟩ : ∃ r, r = w.heap.size := ⟨_, rfl⟩
 have HRW : Hid (w.heap.size ≤ r) := Nat.le_of_eq hr.symm
 have hrp : r ≠ pb := by omega
 have hrb : r ≠ b := by omega
 rw [← hr] at HR1 ⊢
 clear hW1 hr h hpl hbl
 have hxp : W1.heap.size ≠ pb := by have := HP1.out.pl; omega
 have hxb : W1.heap.size ≠ b := by have := HP1.out.bl; omega
 have hxw : w.heap.size ≤ W1.heap.size := HG1.out.1
 have hrx : r ≠ W1.heap.size := by have := HR1.out.lt; omega
 have hrx2 : r < W1.heap.size := HR1.out.lt
 go_upto_region 8 with (first
  | (go_at_call 97; (refine (text_yes (HP1.out.allocI _) hT hat hu hs).mono ?_); rintro e w2 ⟨rfl, hp, hg⟩; have HG2 : Hid (GrowA pb w w2) := ((HG1.out.alloc _).trans hg); have HP2 : Hid (PaS w2 pb b c T { st with at' := st.at' + 1 }) := hp; have HR2 : Hid (PhZ w2 r) := ((HR1.out.allocI _).grow hg hrp); have HX2 : Hid (PhB w2 W1.heap.size #[.int .i64 10, .int .i64 0, .int .i64 0, .string ⟨#[]⟩, .string ⟨#[]⟩, .int .i64 0, .int .i64 0, .int .i64 0, .string ⟨#[]⟩, .slice none 0 0, .slice none 0 0]) := (PhB.new W1 #[.int .i64 10, .int .i64 0, .int .i64 0, .string ⟨#[]⟩, .string ⟨#[]⟩, .int .i64 0, .int .i64 0, .int .i64 0, .string ⟨#[]⟩, .slice none 0 0, .slice none 0 0]).grow hg hxp; clear hp hg HP1 HG1 HR1)
  | (go_at_call 97; (refine (text_yes HP2.out hT ha1 hu1 hs1).mono ?_); rintro e w3 ⟨rfl, hp, hg⟩; have HG3 : Hid (GrowA pb w w3) := (HG2.out.trans hg); have HP3 : Hid (PaS w3 pb b c T { st with at' := st.at' + 1 + 1 }) := hp; have HR3 : Hid (PhZ w3 r) := (HR2.out.grow hg hrp); have HX3 : Hid (PhB w3 W1.heap.size #[.int .i64 10, .int .i64 0, .int .i64 0, .string ⟨#[]⟩, .string ⟨#[]⟩, .int .i64 0, .int .i64 0, .int .i64 0, .string ⟨#[]⟩, .slice none 0 0, .slice none 0 0]) := (HX2.out.grow hg hxp); obtain ⟨⟨m0, m1, m2, m3, m4, m5, m6, m7, m8, m9, m10⟩, j0, j1, j2, j3, j4, j5, j6, j7, j8, j9, j10⟩ := HX3.out.cells; have hxl := HX3.out.lt; clear hp hg HP2 HG2 HR2 HX2))
 obtain ⟨W4, hW4⟩ : ∃ W, W = (w3.setCell ⟨W1.heap.size, 5, none⟩ (.int .i64 2)).setCell ⟨W1.heap.size, 4, none⟩ (.string u1s) := ⟨_, rfl⟩
 have HP4 : Hid (PaS W4 pb b c T { st with at' := st.at' + 1 + 1 }) := by rw [hW4]; exact (HP3.out.setR hxp hxb 5 _).setR hxp hxb 4 _
 have HG4 : Hid (GrowA pb w W4) := by rw [hW4]; exact (HG3.out.setR hxw 5 _).setR hxw 4 _
 have HR4 : Hid (PhZ W4 r) := by rw [hW4]; exact (HR3.out.setO hrx 5 _).setO hrx 4 _
 have HX4 : Hid (PhB W4 W1.heap.size #[.int .i64 10, .int .i64 0, .int .i64 0, .string ⟨#[]⟩, .string u1s, .int .i64 2, .int .i64 0, .int .i64 0, .string ⟨#[]⟩, .slice none 0 0, .slice none 0 0]) := by rw [hW4]; exact (HX3.out.setAt 5 (.int .i64 2)).setAt 4 (.string u1s)
 rw [← hW4]
 clear hW4 HP3 HG3 HR3 HX3 hxl m0 m1 m2 m3 m4 m5 m6 m7 m8 m9 m10 j0 j1 j2 j3 j4 j5 j6 j7 j8 j9 j10
 go_wp2_with (first
  | (go_at_call 66; have HNX := HP4; refine (mark_is _ _).mono ?_; rintro e w5 ⟨rfl, hb⟩; have HG5 : Hid (GrowA pb w w5) := (HG4.out.below hb); have HP5 : Hid (PaS w5 pb b c T { st with at' := st.at' + 1 + 1 }) := (HP4.out.below hb); have HR5 : Hid (PhZ w5 r) := (HR4.out.below hb); have HX5 : Hid (PhB w5 W1.heap.size #[.int .i64 10, .int .i64 0, .int .i64 0, .string ⟨#[]⟩, .string u1s, .int .i64 2, .int .i64 0, .int .i64 0, .string ⟨#[]⟩, .slice none 0 0, .slice none 0 0]) := (HX4.out.below hb); clear hb HNX HP4 HG4 HR4 HX4)
  | (go_at_call 96; (refine (want_eq HP5.out hT ha2 hw).mono ?_); rintro e w6 ⟨rfl, hp, hg⟩; have HG6 : Hid (GrowA pb w w6) := (HG5.out.trans hg); have HP6 : Hid (PaS w6 pb b c T s2) := hp; have HR6 : Hid (PhZ w6 r) := (HR5.out.grow hg hrp); have HX6 : Hid (PhB w6 W1.heap.size #[.int .i64 10, .int .i64 0, .int .i64 0, .string ⟨#[]⟩, .string u1s, .int .i64 2, .int .i64 0, .int .i64 0, .string ⟨#[]⟩, .slice none 0 0, .slice none 0 0]) := (HX5.out.grow hg hxp); clear hp hg HP5 HG5 HR5 HX5)
  | (go_at_call 66; have HNX := HP6; refine (mark_is _ _).mono ?_; rintro e w7 ⟨rfl, hb⟩; have HG7 : Hid (GrowA pb w w7) := (HG6.out.below hb); have HP7 : Hid (PaS w7 pb b c T s2) := (HP6.out.below hb); have HR7 : Hid (PhZ w7 r) := (HR6.out.below hb); have HX7 : Hid (PhB w7 W1.heap.size #[.int .i64 10, .int .i64 0, .int .i64 0, .string ⟨#[]⟩, .string u1s, .int .i64 2, .int .i64 0, .int .i64 0, .string ⟨#[]⟩, .slice none 0 0, .slice none 0 0]) := (HX6.out.below hb); clear hb HNX HP6 HG6 HR6 HX6)
  | (go_at_call 130; (first | refine (HLU.out.use HTB.out HP7.out HG7.out (show W1.heap.size < _ from by have k := HX7.out.lt; first | exact k | (simp; omega))).mono ?_ | refine (HLU.out.use HTB.out (HP7.out.allocI _) (HG7.out.alloc _) (show W1.heap.size < _ from by have k := HX7.out.lt; first | exact k | (simp; omega))).mono ?_ | refine (HLU.out.use HTB.out ((HP7.out.allocI _).allocI _) ((HG7.out.alloc _).alloc _) (show W1.heap.size < _ from by have k := HX7.out.lt; first | exact k | (simp; omega))).mono ?_); rintro e w8 ⟨lo1, v, hlo, hv, rfl, hp, hg⟩; obtain ⟨k0_1, k1_1, k2_1, k5_1, k6_1, k7_1, s3_1, s4_1, s8_1, a9_1, a10_1, l9_1, c9_1, l10_1, c10_1, rfl⟩ := hv.form; have hlo1 := hlo.1; have hlp1 := hlo.2.1; have hlz1 := hlo.2.2; have HG8 : Hid (GrowA pb w w8) := (HG7.out.trans hg); have HP8 : Hid (PaS w8 pb b c T s3) := hp; have HR8 : Hid (PhZ w8 r) := (HR7.out.grow hg hrp); have HX8 : Hid (PhB w8 W1.heap.size #[.int .i64 10, .int .i64 0, .int .i64 0, .string ⟨#[]⟩, .string u1s, .int .i64 2, .int .i64 0, .int .i64 0, .string ⟨#[]⟩, .slice none 0 0, .slice none 0 0]) := (HX7.out.grow hg hxp); have HV1_8 : Hid (Tre w8 lo1 p [.int .i64 k0_1, .int .i64 k1_1, .int .i64 k2_1, .string s3_1, .string s4_1, .int .i64 k5_1, .int .i64 k6_1, .int .i64 k7_1, .string s8_1, .slice a9_1 l9_1 c9_1, .slice a10_1 l10_1 c10_1]) := hv; obtain ⟨⟨y0, y1, y2, y3, y4, y5, y6, y7, y8, y9, y10⟩, z0, z1, z2, z3, z4, z5, z6, z7, z8, z9, z10⟩ := HR8.out.cells; obtain ⟨⟨m0, m1, m2, m3, m4, m5, m6, m7, m8, m9, m10⟩, j0, j1, j2, j3, j4, j5, j6, j7, j8, j9, j10⟩ := HX8.out.cells; have hxz := HX8.out.lt; have hrz := HR8.out.lt; clear hv hlo hp hg HP7 HG7 HR7 HX7))
 refine bodyPost_ret (v := .agg #[.int .i64 10, .int .i64 0, .int .i64 0, .string ⟨#[]⟩, .string u1s, .int .i64 2, .int .i64 0, .int .i64 0, .string ⟨#[]⟩, .slice (some ⟨w8.heap.size, 0, none⟩) 1 1, .slice none 0 0]) (by simp [results, Tryz.results131, go_sem, hrz, y0, y1, y2, y3, y4, y5, y6, y7, y8, y9, y10]) rfl ⟨[.int .i64 10, .int .i64 0, .int .i64 0, .string ⟨#[]⟩, .string u1s, .int .i64 2, .int .i64 0, .int .i64 0, .string ⟨#[]⟩, .slice (some ⟨w8.heap.size, 0, none⟩) 1 1, .slice none 0 0], ?_, rfl, ?_, ?_⟩
 · (have hlr1 : r < lo1 := by omega)
   refine Tre.mono (lo := lo1) ?_ (by have := HRW.out; omega)
   refine Phs.tre (A := fun _ => p) (v := .slice (some ⟨w8.heap.size, 0, none⟩) 1 1) ?_
   (repeat (first | with_reducible refine Phs.setR ?_ hlr1 _ _ | with_reducible refine Phs.setR ?_ hlo1 _ _))
   refine phs_at (by simp) ?_ hlz1 rfl
   (repeat (first | with_reducible refine Tre.setR ?_ hlr1 _ _ | with_reducible refine Tre.setR ?_ hlo1 _ _ | with_reducible refine Tre.allocI ?_ _ | with_reducible exact HV1_8.out))
 · (repeat (first | with_reducible refine PaS.setR ?_ hrp hrb _ _ | with_reducible refine PaS.setR ?_ hxp hxb _ _ | with_reducible refine PaS.allocI ?_ _ | exact HP8.out))
 · (repeat (first | with_reducible refine GrowA.setR ?_ HRW.out _ _ | with_reducible refine GrowA.setR ?_ hxw _ _ | with_reducible refine GrowA.alloc ?_ _ | exact HG8.out))
end Go.Proofs.YtbnlekhjgkojlaaGreatDoor
