import Derived.Test.YtbnlekhjgkojlaaGreatDoorPmClone
set_option linter.unusedVariables false
namespace Go.Proofs.YtbnlekhjgkojlaaGreatDoor
set_option maxRecDepth 100000
open Go.RowKit
theorem ClB.setAt {w : World} {r : Nat} {v : Array Value} (h : ClB w r v) (k : Nat) (u : Value) : ClB (w.setCell ⟨r, k, none⟩ u) r (v.setIfInBounds k u) := by
 unfold ClB at h ⊢
 simp [World.setCell, Array.getElem?_modify, h]
theorem ClB.setO {w : World} {r x : Nat} {v : Array Value} (h : ClB w r v) (hn : r ≠ x) (k : Nat) (u : Value) : ClB (w.setCell ⟨x, k, none⟩ u) r v := (Below.heap_setCell _ _ _ _ (by simpa using hn)).trans h
set_option maxHeartbeats 6400000 in
theorem letBe_is {pb b c : Nat} {T : List Tok} {st s2 s3 : Pst} {us : ByteArray} {un : Int} {p : Ph} (hT : T.length ≤ 200) (hat : st.at' ≤ 300) (hu : seeM T st 0 = ⟨4, us, un⟩) (hs : us.size ≤ 4000) (ha1 : st.at' + 1 ≤ 300) (hw : wantM T { st with at' := st.at' + 1 } ⟨5, ⟨#[58, 61]⟩, 0⟩ = s2) (hlu : RunT pb b c T 68 #[.pointer (some ⟨pb, 0, none⟩)] s2 s3 p) : RunC pb b c T 112 st s3 2 us ⟨#[]⟩ false p := by
 intro w h htb
 have HTB : Hid (RTab w pb) := htb
 clear htb
 have HLU : Hid (RunT pb b c T 68 #[.pointer (some ⟨pb, 0, none⟩)] s2 s3 p) := hlu
 clear hlu
 have hpl := h.pl
 have hbl := h.bl
 go_enter Tryz.func112, Tryz.ntmps112
 go_upto_region 1 with fail
 obtain ⟨W1, hW1⟩ : ∃ W, W = w.alloc (.cells #[.int .i64 0, .string ⟨#[]⟩, .string ⟨#[]⟩, .bool false, .int .i64 0, .int .i64 0, .int .i64 0, .string ⟨#[]⟩, .string ⟨#[]⟩, .int .i64 0, .int .i64 0, .int .i64 0, .string ⟨#[]⟩, .slice none 0 0, .slice none 0 0] 74) := ⟨_, rfl⟩
 have HG1 : Hid (GrowA pb w W1) := by rw [hW1]; exact (GrowA.refl _ _).alloc _
 have HP1 : Hid (PaS W1 pb b c T st) := by rw [hW1]; exact h.allocI _
 have HR1 : Hid (ClB W1 w.heap.size #[.int .i64 0, .string ⟨#[]⟩, .string ⟨#[]⟩, .bool false, .int .i64 0, .int .i64 0, .int .i64 0, .string ⟨#[]⟩, .string ⟨#[]⟩, .int .i64 0, .int .i64 0, .int .i64 0, .string ⟨#[]⟩, .slice none 0 0, .slice none 0 0]) := by rw [hW1]; exact ClB.new w _
 rw [← hW1]
 obtain ⟨r, hr⟩ : ∃ r, r = w.heap.size := ⟨_, rfl⟩
 have HRW : Hid (w.heap.size ≤ r) := Nat.le_of_eq hr.symm
 have hrp : r ≠ pb := by omega
 have hrb : r ≠ b := by omega
 rw [← hr] at HR1 ⊢
 clear hW1 hr h hpl hbl
 go_upto_region 2 with (first
  | (go_at_call 97; (refine (text_yes HP1.out hT hat hu hs).mono ?_); rintro e w2 ⟨rfl, hp, hg⟩; have HG2 : Hid (GrowA pb w w2) := (HG1.out.trans hg); have HP2 : Hid (PaS w2 pb b c T { st with at' := st.at' + 1 }) := hp; have HR2 : Hid (ClB w2 r #[.int .i64 0, .string ⟨#[]⟩, .string ⟨#[]⟩, .bool false, .int .i64 0, .int .i64 0, .int .i64 0, .string ⟨#[]⟩, .string ⟨#[]⟩, .int .i64 0, .int .i64 0, .int .i64 0, .string ⟨#[]⟩, .slice none 0 0, .slice none 0 0]) := (HR1.out.grow hg hrp); clear hp hg HP1 HG1 HR1))
 obtain ⟨W3, hW3⟩ : ∃ W, W = w2.alloc (.cells #[.int .i64 2, .string us, .string ⟨#[]⟩, .bool false, .int .i64 0, .int .i64 0, .int .i64 0, .string ⟨#[]⟩, .string ⟨#[]⟩, .int .i64 0, .int .i64 0, .int .i64 0, .string ⟨#[]⟩, .slice none 0 0, .slice none 0 0] 74) := ⟨_, rfl⟩
 have HP3 : Hid (PaS W3 pb b c T { st with at' := st.at' + 1 }) := by rw [hW3]; exact HP2.out.allocI _
 have HG3 : Hid (GrowA pb w W3) := by rw [hW3]; exact HG2.out.alloc _
 have HR3 : Hid (ClB W3 r #[.int .i64 0, .string ⟨#[]⟩, .string ⟨#[]⟩, .bool false, .int .i64 0, .int .i64 0, .int .i64 0, .string ⟨#[]⟩, .string ⟨#[]⟩, .int .i64 0, .int .i64 0, .int .i64 0, .string ⟨#[]⟩, .slice none 0 0, .slice none 0 0]) := by rw [hW3]; exact HR2.out.allocI _
 have HX3 : Hid (ClB W3 w2.heap.size #[.int .i64 2, .string us, .string ⟨#[]⟩, .bool false, .int .i64 0, .int .i64 0, .int .i64 0, .string ⟨#[]⟩, .string ⟨#[]⟩, .int .i64 0, .int .i64 0, .int .i64 0, .string ⟨#[]⟩, .slice none 0 0, .slice none 0 0]) := by rw [hW3]; exact ClB.new w2 _
 have hxp : w2.heap.size ≠ pb := by have := HP2.out.pl; omega
 have hxb : w2.heap.size ≠ b := by have := HP2.out.bl; omega
 have hxw : w.heap.size ≤ w2.heap.size := HG2.out.1
 have hrx2 : r < w2.heap.size := HR2.out.lt
 have hrx : r ≠ w2.heap.size := by omega
 rw [← hW3]
 clear hW3 HP2 HG2 HR2
 go_upto_region 4 with (first
  | (go_at_call 66; have HNX := HP3; refine (mark_is _ _).mono ?_; rintro e w4 ⟨rfl, hb⟩; have HG4 : Hid (GrowA pb w w4) := (HG3.out.below hb); have HP4 : Hid (PaS w4 pb b c T { st with at' := st.at' + 1 }) := (HP3.out.below hb); have HR4 : Hid (ClB w4 r #[.int .i64 0, .string ⟨#[]⟩, .string ⟨#[]⟩, .bool false, .int .i64 0, .int .i64 0, .int .i64 0, .string ⟨#[]⟩, .string ⟨#[]⟩, .int .i64 0, .int .i64 0, .int .i64 0, .string ⟨#[]⟩, .slice none 0 0, .slice none 0 0]) := (HR3.out.below hb); have HX4 : Hid (ClB w4 w2.heap.size #[.int .i64 2, .string us, .string ⟨#[]⟩, .bool false, .int .i64 0, .int .i64 0, .int .i64 0, .string ⟨#[]⟩, .string ⟨#[]⟩, .int .i64 0, .int .i64 0, .int .i64 0, .string ⟨#[]⟩, .slice none 0 0, .slice none 0 0]) := (HX3.out.below hb); clear hb HNX HP3 HG3 HR3 HX3)
  | (go_at_call 96; (refine (want_eq HP4.out hT ha1 hw).mono ?_); rintro e w5 ⟨rfl, hp, hg⟩; have HG5 : Hid (GrowA pb w w5) := (HG4.out.trans hg); have HP5 : Hid (PaS w5 pb b c T s2) := hp; have HR5 : Hid (ClB w5 r #[.int .i64 0, .string ⟨#[]⟩, .string ⟨#[]⟩, .bool false, .int .i64 0, .int .i64 0, .int .i64 0, .string ⟨#[]⟩, .string ⟨#[]⟩, .int .i64 0, .int .i64 0, .int .i64 0, .string ⟨#[]⟩, .slice none 0 0, .slice none 0 0]) := (HR4.out.grow hg hrp); have HX5 : Hid (ClB w5 w2.heap.size #[.int .i64 2, .string us, .string ⟨#[]⟩, .bool false, .int .i64 0, .int .i64 0, .int .i64 0, .string ⟨#[]⟩, .string ⟨#[]⟩, .int .i64 0, .int .i64 0, .int .i64 0, .string ⟨#[]⟩, .slice none 0 0, .slice none 0 0]) := (HX4.out.grow hg hxp); clear hp hg HP4 HG4 HR4 HX4)
  | (go_at_call 68; (first | refine (HLU.out.use HTB.out HP5.out HG5.out (show w2.heap.size < _ from by have k := HX5.out.lt; first | exact k | (simp; omega))).mono ?_ | refine (HLU.out.use HTB.out (HP5.out.allocI _) (HG5.out.alloc _) (show w2.heap.size < _ from by have k := HX5.out.lt; first | exact k | (simp; omega))).mono ?_ | refine (HLU.out.use HTB.out ((HP5.out.allocI _).allocI _) ((HG5.out.alloc _).alloc _) (show w2.heap.size < _ from by have k := HX5.out.lt; first | exact k | (simp; omega))).mono ?_); rintro e w6 ⟨lo1, v, hlo, hv, rfl, hp, hg⟩; obtain ⟨k0_1, k1_1, k2_1, k5_1, k6_1, k7_1, s3_1, s4_1, s8_1, a9_1, a10_1, l9_1, c9_1, l10_1, c10_1, rfl⟩ := hv.form; have hlo1 := hlo.1; have hlp1 := hlo.2.1; have hlz1 := hlo.2.2; have HG6 : Hid (GrowA pb w w6) := (HG5.out.trans hg); have HP6 : Hid (PaS w6 pb b c T s3) := hp; have HR6 : Hid (ClB w6 r #[.int .i64 0, .string ⟨#[]⟩, .string ⟨#[]⟩, .bool false, .int .i64 0, .int .i64 0, .int .i64 0, .string ⟨#[]⟩, .string ⟨#[]⟩, .int .i64 0, .int .i64 0, .int .i64 0, .string ⟨#[]⟩, .slice none 0 0, .slice none 0 0]) := (HR5.out.grow hg hrp); have HX6 : Hid (ClB w6 w2.heap.size #[.int .i64 2, .string us, .string ⟨#[]⟩, .bool false, .int .i64 0, .int .i64 0, .int .i64 0, .string ⟨#[]⟩, .string ⟨#[]⟩, .int .i64 0, .int .i64 0, .int .i64 0, .string ⟨#[]⟩, .slice none 0 0, .slice none 0 0]) := (HX5.out.grow hg hxp); have HV1_6 : Hid (Tre w6 lo1 p [.int .i64 k0_1, .int .i64 k1_1, .int .i64 k2_1, .string s3_1, .string s4_1, .int .i64 k5_1, .int .i64 k6_1, .int .i64 k7_1, .string s8_1, .slice a9_1 l9_1 c9_1, .slice a10_1 l10_1 c10_1]) := hv; obtain ⟨⟨m0, m1, m2, m3, m4, m5, m6, m7, m8, m9, m10, m11, m12, m13, m14⟩, j0, j1, j2, j3, j4, j5, j6, j7, j8, j9, j10, j11, j12, j13, j14⟩ := HX6.out.cells; have hxz := HX6.out.lt; clear hv hlo hp hg HP5 HG5 HR5 HX5))
 obtain ⟨W7, hW7⟩ : ∃ W, W = putC w6 w2.heap.size 4 [.int .i64 k0_1, .int .i64 k1_1, .int .i64 k2_1, .string s3_1, .string s4_1, .int .i64 k5_1, .int .i64 k6_1, .int .i64 k7_1, .string s8_1, .slice a9_1 l9_1 c9_1, .slice a10_1 l10_1 c10_1] := ⟨_, rfl⟩
 have HP7 : Hid (PaS W7 pb b c T s3) := by rw [hW7]; exact HP6.out.put hxp hxb 4 _
 have HG7 : Hid (GrowA pb w W7) := by rw [hW7]; exact putC_grow hxw _ _ _ HG6.out
 have HR7 : Hid (ClB W7 r #[.int .i64 0, .string ⟨#[]⟩, .string ⟨#[]⟩, .bool false, .int .i64 0, .int .i64 0, .int .i64 0, .string ⟨#[]⟩, .string ⟨#[]⟩, .int .i64 0, .int .i64 0, .int .i64 0, .string ⟨#[]⟩, .slice none 0 0, .slice none 0 0]) := by rw [hW7]; exact HR6.out.put hrx 4 _
 have HX7 : Hid (ClB W7 w2.heap.size #[.int .i64 2, .string us, .string ⟨#[]⟩, .bool false, .int .i64 k0_1, .int .i64 k1_1, .int .i64 k2_1, .string s3_1, .string s4_1, .int .i64 k5_1, .int .i64 k6_1, .int .i64 k7_1, .string s8_1, .slice a9_1 l9_1 c9_1, .slice a10_1 l10_1 c10_1]) := by rw [hW7]; exact HX6.out.expr
 have HV1_7 : Hid (Tre W7 lo1 p [.int .i64 k0_1, .int .i64 k1_1, .int .i64 k2_1, .string s3_1, .string s4_1, .int .i64 k5_1, .int .i64 k6_1, .int .i64 k7_1, .string s8_1, .slice a9_1 l9_1 c9_1, .slice a10_1 l10_1 c10_1]) := by rw [hW7]; exact HV1_6.out.put hlo1 4 _
 simp only [putC] at hW7
 rw [← hW7]
 clear hW7 HP6 HG6 HR6 HX6 HV1_6 hxz m0 j0 m1 j1 m2 j2 m3 j3 m4 j4 m5 j5 m6 j6 m7 j7 m8 j8 m9 j9 m10 j10 m11 j11 m12 j12 m13 j13 m14 j14
 obtain ⟨⟨y0, y1, y2, y3, y4, y5, y6, y7, y8, y9, y10, y11, y12, y13, y14⟩, z0, z1, z2, z3, z4, z5, z6, z7, z8, z9, z10, z11, z12, z13, z14⟩ := HR7.out.cells
 obtain ⟨⟨m0, m1, m2, m3, m4, m5, m6, m7, m8, m9, m10, m11, m12, m13, m14⟩, j0, j1, j2, j3, j4, j5, j6, j7, j8, j9, j10, j11, j12, j13, j14⟩ := HX7.out.cells
 have hlr1 : r < lo1 := by omega
 go_wp2
 refine bodyPost_ret (v := .agg #[.int .i64 2, .string us, .string ⟨#[]⟩, .bool false, .int .i64 k0_1, .int .i64 k1_1, .int .i64 k2_1, .string s3_1, .string s4_1, .int .i64 k5_1, .int .i64 k6_1, .int .i64 k7_1, .string s8_1, .slice a9_1 l9_1 c9_1, .slice a10_1 l10_1 c10_1]) (by simp [results, Tryz.results112, go_sem, y0, y1, y2, y3, y4, y5, y6, y7, y8, y9, y10, y11, y12, y13, y14]) rfl ⟨[.int .i64 k0_1, .int .i64 k1_1, .int .i64 k2_1, .string s3_1, .string s4_1, .int .i64 k5_1, .int .i64 k6_1, .int .i64 k7_1, .string s8_1, .slice a9_1 l9_1 c9_1, .slice a10_1 l10_1 c10_1], ?_, rfl, ?_, ?_⟩
 · refine Tre.mono (lo := lo1) ?_ (by have := HRW.out; omega)
   (repeat (first | with_reducible refine Tre.setR ?_ hlr1 _ _ | with_reducible refine Tre.allocI ?_ _ | with_reducible exact HV1_7.out))
 · (repeat (first | with_reducible refine PaS.setR ?_ hrp hrb _ _ | with_reducible refine PaS.allocI ?_ _ | exact HP7.out))
 · (repeat (first | with_reducible refine GrowA.setR ?_ HRW.out _ _ | with_reducible refine GrowA.alloc ?_ _ | exact HG7.out))
set_option maxHeartbeats 6400000 in
theorem forIn_at {pb b c : Nat} {T : List Tok} {st s2 s3 : Pst} {us vs : ByteArray} {un vn : Int} {p : Ph} (hT : T.length ≤ 200) (hat : st.at' ≤ 300) (hu : seeM T st 0 = ⟨4, us, un⟩) (hs : us.size ≤ 4000) (ha1 : st.at' + 1 ≤ 300) (y1 : eqT (seeM T { st with at' := st.at' + 1 } 0) ⟨1, ⟨#[97, 116]⟩, 0⟩ = true) (hu2 : seeM T { st with at' := st.at' + 1 + 1 } 0 = ⟨4, vs, vn⟩) (hs2 : vs.size ≤ 4000) (ha2 : st.at' + 1 + 1 ≤ 300) (ha3 : st.at' + 1 + 1 + 1 ≤ 300) (hw : wantM T { st with at' := st.at' + 1 + 1 + 1 } ⟨1, ⟨#[105, 110]⟩, 0⟩ = s2) (hlu : RunT pb b c T 68 #[.pointer (some ⟨pb, 0, none⟩)] s2 s3 p) : RunC pb b c T 111 st s3 1 us vs false p := by
 intro w h htb
 have HTB : Hid (RTab w pb) := htb
 clear htb
 have HLU : Hid (RunT pb b c T 68 #[.pointer (some ⟨pb, 0, none⟩)] s2 s3 p) := hlu
 clear hlu
 have hpl := h.pl
 have hbl := h.bl
 go_enter Tryz.func111, Tryz.ntmps111
 go_upto_region 1 with fail
 obtain ⟨W1, hW1⟩ : ∃ W, W = w.alloc (.cells #[.int .i64 0, .string ⟨#[]⟩, .string ⟨#[]⟩, .bool false, .int .i64 0, .int .i64 0, .int .i64 0, .string ⟨#[]⟩, .string ⟨#[]⟩, .int .i64 0, .int .i64 0, .int .i64 0, .string ⟨#[]⟩, .slice none 0 0, .slice none 0 0] 74) := ⟨_, rfl⟩
 have HG1 : Hid (GrowA pb w W1) := by rw [hW1]; exact (GrowA.refl _ _).alloc _
 have HP1 : Hid (PaS W1 pb b c T st) := by rw [hW1]; exact h.allocI _
 have HR1 : Hid (ClB W1 w.heap.size #[.int .i64 0, .string ⟨#[]⟩, .string ⟨#[]⟩, .bool false, .int .i64 0, .int .i64 0, .int .i64 0, .string ⟨#[]⟩, .string ⟨#[]⟩, .int .i64 0, .int .i64 0, .int .i64 0, .string ⟨#[]⟩, .slice none 0 0, .slice none 0 0]) := by rw [hW1]; exact ClB.new w _
 rw [← hW1]
 obtain ⟨r, hr⟩ : ∃ r, r = w.heap.size := ⟨_, rfl⟩
 have HRW : Hid (w.heap.size ≤ r) := Nat.le_of_eq hr.symm
 have hrp : r ≠ pb := by omega
 have hrb : r ≠ b := by omega
 rw [← hr] at HR1 ⊢
 clear hW1 hr h hpl hbl
 go_upto_region 2 with (first
  | (go_at_call 97; (refine (text_yes HP1.out hT hat hu hs).mono ?_); rintro e w2 ⟨rfl, hp, hg⟩; have HG2 : Hid (GrowA pb w w2) := (HG1.out.trans hg); have HP2 : Hid (PaS w2 pb b c T { st with at' := st.at' + 1 }) := hp; have HR2 : Hid (ClB w2 r #[.int .i64 0, .string ⟨#[]⟩, .string ⟨#[]⟩, .bool false, .int .i64 0, .int .i64 0, .int .i64 0, .string ⟨#[]⟩, .string ⟨#[]⟩, .int .i64 0, .int .i64 0, .int .i64 0, .string ⟨#[]⟩, .slice none 0 0, .slice none 0 0]) := (HR1.out.grow hg hrp); clear hp hg HP1 HG1 HR1))
 obtain ⟨W3, hW3⟩ : ∃ W, W = w2.alloc (.cells #[.int .i64 1, .string us, .string ⟨#[]⟩, .bool false, .int .i64 0, .int .i64 0, .int .i64 0, .string ⟨#[]⟩, .string ⟨#[]⟩, .int .i64 0, .int .i64 0, .int .i64 0, .string ⟨#[]⟩, .slice none 0 0, .slice none 0 0] 74) := ⟨_, rfl⟩
 have HP3 : Hid (PaS W3 pb b c T { st with at' := st.at' + 1 }) := by rw [hW3]; exact HP2.out.allocI _
 have HG3 : Hid (GrowA pb w W3) := by rw [hW3]; exact HG2.out.alloc _
 have HR3 : Hid (ClB W3 r #[.int .i64 0, .string ⟨#[]⟩, .string ⟨#[]⟩, .bool false, .int .i64 0, .int .i64 0, .int .i64 0, .string ⟨#[]⟩, .string ⟨#[]⟩, .int .i64 0, .int .i64 0, .int .i64 0, .string ⟨#[]⟩, .slice none 0 0, .slice none 0 0]) := by rw [hW3]; exact HR2.out.allocI _
 have HX3 : Hid (ClB W3 w2.heap.size #[.int .i64 1, .string us, .string ⟨#[]⟩, .bool false, .int .i64 0, .int .i64 0, .int .i64 0, .string ⟨#[]⟩, .string ⟨#[]⟩, .int .i64 0, .int .i64 0, .int .i64 0, .string ⟨#[]⟩, .slice none 0 0, .slice none 0 0]) := by rw [hW3]; exact ClB.new w2 _
 have hxp : w2.heap.size ≠ pb := by have := HP2.out.pl; omega
 have hxb : w2.heap.size ≠ b := by have := HP2.out.bl; omega
 have hxw : w.heap.size ≤ w2.heap.size := HG2.out.1
 have hrx2 : r < w2.heap.size := HR2.out.lt
 have hrx : r ≠ w2.heap.size := by omega
 rw [← hW3]
 clear hW3 HP2 HG2 HR2
 go_upto_region 4 with (first
  | (go_at_call 81; have HNX := HP3; refine (word_is _ _).mono ?_; rintro e w4 ⟨rfl, hb⟩; have HG4 : Hid (GrowA pb w w4) := (HG3.out.below hb); have HP4 : Hid (PaS w4 pb b c T { st with at' := st.at' + 1 }) := (HP3.out.below hb); have HR4 : Hid (ClB w4 r #[.int .i64 0, .string ⟨#[]⟩, .string ⟨#[]⟩, .bool false, .int .i64 0, .int .i64 0, .int .i64 0, .string ⟨#[]⟩, .string ⟨#[]⟩, .int .i64 0, .int .i64 0, .int .i64 0, .string ⟨#[]⟩, .slice none 0 0, .slice none 0 0]) := (HR3.out.below hb); have HX4 : Hid (ClB w4 w2.heap.size #[.int .i64 1, .string us, .string ⟨#[]⟩, .bool false, .int .i64 0, .int .i64 0, .int .i64 0, .string ⟨#[]⟩, .string ⟨#[]⟩, .int .i64 0, .int .i64 0, .int .i64 0, .string ⟨#[]⟩, .slice none 0 0, .slice none 0 0]) := (HX3.out.below hb); clear hb HNX HP3 HG3 HR3 HX3)
  | (go_at_call 69; (refine (skip_yes HP4.out hT ha1 _ _ _ y1).mono ?_); rintro e w5 ⟨rfl, hp, hg⟩; have HG5 : Hid (GrowA pb w w5) := (HG4.out.trans hg); have HP5 : Hid (PaS w5 pb b c T { st with at' := st.at' + 1 + 1 }) := hp; have HR5 : Hid (ClB w5 r #[.int .i64 0, .string ⟨#[]⟩, .string ⟨#[]⟩, .bool false, .int .i64 0, .int .i64 0, .int .i64 0, .string ⟨#[]⟩, .string ⟨#[]⟩, .int .i64 0, .int .i64 0, .int .i64 0, .string ⟨#[]⟩, .slice none 0 0, .slice none 0 0]) := (HR4.out.grow hg hrp); have HX5 : Hid (ClB w5 w2.heap.size #[.int .i64 1, .string us, .string ⟨#[]⟩, .bool false, .int .i64 0, .int .i64 0, .int .i64 0, .string ⟨#[]⟩, .string ⟨#[]⟩, .int .i64 0, .int .i64 0, .int .i64 0, .string ⟨#[]⟩, .slice none 0 0, .slice none 0 0]) := (HX4.out.grow hg hxp); clear hp hg HP4 HG4 HR4 HX4)
  | (go_at_call 97; (refine (text_yes HP5.out hT ha2 hu2 hs2).mono ?_); rintro e w6 ⟨rfl, hp, hg⟩; have HG6 : Hid (GrowA pb w w6) := (HG5.out.trans hg); have HP6 : Hid (PaS w6 pb b c T { st with at' := st.at' + 1 + 1 + 1 }) := hp; have HR6 : Hid (ClB w6 r #[.int .i64 0, .string ⟨#[]⟩, .string ⟨#[]⟩, .bool false, .int .i64 0, .int .i64 0, .int .i64 0, .string ⟨#[]⟩, .string ⟨#[]⟩, .int .i64 0, .int .i64 0, .int .i64 0, .string ⟨#[]⟩, .slice none 0 0, .slice none 0 0]) := (HR5.out.grow hg hrp); have HX6 : Hid (ClB w6 w2.heap.size #[.int .i64 1, .string us, .string ⟨#[]⟩, .bool false, .int .i64 0, .int .i64 0, .int .i64 0, .string ⟨#[]⟩, .string ⟨#[]⟩, .int .i64 0, .int .i64 0, .int .i64 0, .string ⟨#[]⟩, .slice none 0 0, .slice none 0 0]) := (HX5.out.grow hg hxp); obtain ⟨⟨m0, m1, m2, m3, m4, m5, m6, m7, m8, m9, m10, m11, m12, m13, m14⟩, j0, j1, j2, j3, j4, j5, j6, j7, j8, j9, j10, j11, j12, j13, j14⟩ := HX6.out.cells; have hxz := HX6.out.lt; clear hp hg HP5 HG5 HR5 HX5))
 obtain ⟨W7, hW7⟩ : ∃ W, W = w6.setCell ⟨w2.heap.size, 2, none⟩ (.string vs) := ⟨_, rfl⟩
 have HP7 : Hid (PaS W7 pb b c T { st with at' := st.at' + 1 + 1 + 1 }) := by rw [hW7]; exact HP6.out.setR hxp hxb 2 _
 have HG7 : Hid (GrowA pb w W7) := by rw [hW7]; exact HG6.out.setR hxw 2 _
 have HR7 : Hid (ClB W7 r #[.int .i64 0, .string ⟨#[]⟩, .string ⟨#[]⟩, .bool false, .int .i64 0, .int .i64 0, .int .i64 0, .string ⟨#[]⟩, .string ⟨#[]⟩, .int .i64 0, .int .i64 0, .int .i64 0, .string ⟨#[]⟩, .slice none 0 0, .slice none 0 0]) := by rw [hW7]; exact HR6.out.setO hrx 2 _
 have HX7 : Hid (ClB W7 w2.heap.size #[.int .i64 1, .string us, .string vs, .bool false, .int .i64 0, .int .i64 0, .int .i64 0, .string ⟨#[]⟩, .string ⟨#[]⟩, .int .i64 0, .int .i64 0, .int .i64 0, .string ⟨#[]⟩, .slice none 0 0, .slice none 0 0]) := by rw [hW7]; exact HX6.out.setAt 2 (.string vs)
 rw [← hW7]
 clear hW7 HP6 HG6 HR6 HX6 hxz m0 j0 m1 j1 m2 j2 m3 j3 m4 j4 m5 j5 m6 j6 m7 j7 m8 j8 m9 j9 m10 j10 m11 j11 m12 j12 m13 j13 m14 j14
 go_upto_region 6 with (first
  | (go_at_call 81; have HNX := HP7; refine (word_is _ _).mono ?_; rintro e w8 ⟨rfl, hb⟩; have HG8 : Hid (GrowA pb w w8) := (HG7.out.below hb); have HP8 : Hid (PaS w8 pb b c T { st with at' := st.at' + 1 + 1 + 1 }) := (HP7.out.below hb); have HR8 : Hid (ClB w8 r #[.int .i64 0, .string ⟨#[]⟩, .string ⟨#[]⟩, .bool false, .int .i64 0, .int .i64 0, .int .i64 0, .string ⟨#[]⟩, .string ⟨#[]⟩, .int .i64 0, .int .i64 0, .int .i64 0, .string ⟨#[]⟩, .slice none 0 0, .slice none 0 0]) := (HR7.out.below hb); have HX8 : Hid (ClB w8 w2.heap.size #[.int .i64 1, .string us, .string vs, .bool false, .int .i64 0, .int .i64 0, .int .i64 0, .string ⟨#[]⟩, .string ⟨#[]⟩, .int .i64 0, .int .i64 0, .int .i64 0, .string ⟨#[]⟩, .slice none 0 0, .slice none 0 0]) := (HX7.out.below hb); clear hb HNX HP7 HG7 HR7 HX7)
  | (go_at_call 96; (refine (want_eq HP8.out hT ha3 hw).mono ?_); rintro e w9 ⟨rfl, hp, hg⟩; have HG9 : Hid (GrowA pb w w9) := (HG8.out.trans hg); have HP9 : Hid (PaS w9 pb b c T s2) := hp; have HR9 : Hid (ClB w9 r #[.int .i64 0, .string ⟨#[]⟩, .string ⟨#[]⟩, .bool false, .int .i64 0, .int .i64 0, .int .i64 0, .string ⟨#[]⟩, .string ⟨#[]⟩, .int .i64 0, .int .i64 0, .int .i64 0, .string ⟨#[]⟩, .slice none 0 0, .slice none 0 0]) := (HR8.out.grow hg hrp); have HX9 : Hid (ClB w9 w2.heap.size #[.int .i64 1, .string us, .string vs, .bool false, .int .i64 0, .int .i64 0, .int .i64 0, .string ⟨#[]⟩, .string ⟨#[]⟩, .int .i64 0, .int .i64 0, .int .i64 0, .string ⟨#[]⟩, .slice none 0 0, .slice none 0 0]) := (HX8.out.grow hg hxp); clear hp hg HP8 HG8 HR8 HX8)
  | (go_at_call 68; (first | refine (HLU.out.use HTB.out HP9.out HG9.out (show w2.heap.size < _ from by have k := HX9.out.lt; first | exact k | (simp; omega))).mono ?_ | refine (HLU.out.use HTB.out (HP9.out.allocI _) (HG9.out.alloc _) (show w2.heap.size < _ from by have k := HX9.out.lt; first | exact k | (simp; omega))).mono ?_ | refine (HLU.out.use HTB.out ((HP9.out.allocI _).allocI _) ((HG9.out.alloc _).alloc _) (show w2.heap.size < _ from by have k := HX9.out.lt; first | exact k | (simp; omega))).mono ?_); rintro e w10 ⟨lo1, v, hlo, hv, rfl, hp, hg⟩; obtain ⟨k0_1, k1_1, k2_1, k5_1, k6_1, k7_1, s3_1, s4_1, s8_1, a9_1, a10_1, l9_1, c9_1, l10_1, c10_1, rfl⟩ := hv.form; have hlo1 := hlo.1; have hlp1 := hlo.2.1; have hlz1 := hlo.2.2; have HG10 : Hid (GrowA pb w w10) := (HG9.out.trans hg); have HP10 : Hid (PaS w10 pb b c T s3) := hp; have HR10 : Hid (ClB w10 r #[.int .i64 0, .string ⟨#[]⟩, .string ⟨#[]⟩, .bool false, .int .i64 0, .int .i64 0, .int .i64 0, .string ⟨#[]⟩, .string ⟨#[]⟩, .int .i64 0, .int .i64 0, .int .i64 0, .string ⟨#[]⟩, .slice none 0 0, .slice none 0 0]) := (HR9.out.grow hg hrp); have HX10 : Hid (ClB w10 w2.heap.size #[.int .i64 1, .string us, .string vs, .bool false, .int .i64 0, .int .i64 0, .int .i64 0, .string ⟨#[]⟩, .string ⟨#[]⟩, .int .i64 0, .int .i64 0, .int .i64 0, .string ⟨#[]⟩, .slice none 0 0, .slice none 0 0]) := (HX9.out.grow hg hxp); have HV1_10 : Hid (Tre w10 lo1 p [.int .i64 k0_1, .int .i64 k1_1, .int .i64 k2_1, .string s3_1, .string s4_1, .int .i64 k5_1, .int .i64 k6_1, .int .i64 k7_1, .string s8_1, .slice a9_1 l9_1 c9_1, .slice a10_1 l10_1 c10_1]) := hv; obtain ⟨⟨m0, m1, m2, m3, m4, m5, m6, m7, m8, m9, m10, m11, m12, m13, m14⟩, j0, j1, j2, j3, j4, j5, j6, j7, j8, j9, j10, j11, j12, j13, j14⟩ := HX10.out.cells; have hxz := HX10.out.lt; clear hv hlo hp hg HP9 HG9 HR9 HX9))
 obtain ⟨W11, hW11⟩ : ∃ W, W = putC w10 w2.heap.size 4 [.int .i64 k0_1, .int .i64 k1_1, .int .i64 k2_1, .string s3_1, .string s4_1, .int .i64 k5_1, .int .i64 k6_1, .int .i64 k7_1, .string s8_1, .slice a9_1 l9_1 c9_1, .slice a10_1 l10_1 c10_1] := ⟨_, rfl⟩
 have HP11 : Hid (PaS W11 pb b c T s3) := by rw [hW11]; exact HP10.out.put hxp hxb 4 _
 have HG11 : Hid (GrowA pb w W11) := by rw [hW11]; exact putC_grow hxw _ _ _ HG10.out
 have HR11 : Hid (ClB W11 r #[.int .i64 0, .string ⟨#[]⟩, .string ⟨#[]⟩, .bool false, .int .i64 0, .int .i64 0, .int .i64 0, .string ⟨#[]⟩, .string ⟨#[]⟩, .int .i64 0, .int .i64 0, .int .i64 0, .string ⟨#[]⟩, .slice none 0 0, .slice none 0 0]) := by rw [hW11]; exact HR10.out.put hrx 4 _
 have HX11 : Hid (ClB W11 w2.heap.size #[.int .i64 1, .string us, .string vs, .bool false, .int .i64 k0_1, .int .i64 k1_1, .int .i64 k2_1, .string s3_1, .string s4_1, .int .i64 k5_1, .int .i64 k6_1, .int .i64 k7_1, .string s8_1, .slice a9_1 l9_1 c9_1, .slice a10_1 l10_1 c10_1]) := by rw [hW11]; exact HX10.out.expr
 have HV1_11 : Hid (Tre W11 lo1 p [.int .i64 k0_1, .int .i64 k1_1, .int .i64 k2_1, .string s3_1, .string s4_1, .int .i64 k5_1, .int .i64 k6_1, .int .i64 k7_1, .string s8_1, .slice a9_1 l9_1 c9_1, .slice a10_1 l10_1 c10_1]) := by rw [hW11]; exact HV1_10.out.put hlo1 4 _
 simp only [putC] at hW11
 rw [← hW11]
 clear hW11 HP10 HG10 HR10 HX10 HV1_10 hxz m0 j0 m1 j1 m2 j2 m3 j3 m4 j4 m5 j5 m6 j6 m7 j7 m8 j8 m9 j9 m10 j10 m11 j11 m12 j12 m13 j13 m14 j14
 obtain ⟨⟨y0, y1, y2, y3, y4, y5, y6, y7, y8, y9, y10, y11, y12, y13, y14⟩, z0, z1, z2, z3, z4, z5, z6, z7, z8, z9, z10, z11, z12, z13, z14⟩ := HR11.out.cells
 obtain ⟨⟨m0, m1, m2, m3, m4, m5, m6, m7, m8, m9, m10, m11, m12, m13, m14⟩, j0, j1, j2, j3, j4, j5, j6, j7, j8, j9, j10, j11, j12, j13, j14⟩ := HX11.out.cells
 have hlr1 : r < lo1 := by omega
 go_wp2
 refine bodyPost_ret (v := .agg #[.int .i64 1, .string us, .string vs, .bool false, .int .i64 k0_1, .int .i64 k1_1, .int .i64 k2_1, .string s3_1, .string s4_1, .int .i64 k5_1, .int .i64 k6_1, .int .i64 k7_1, .string s8_1, .slice a9_1 l9_1 c9_1, .slice a10_1 l10_1 c10_1]) (by simp [results, Tryz.results111, go_sem, y0, y1, y2, y3, y4, y5, y6, y7, y8, y9, y10, y11, y12, y13, y14]) rfl ⟨[.int .i64 k0_1, .int .i64 k1_1, .int .i64 k2_1, .string s3_1, .string s4_1, .int .i64 k5_1, .int .i64 k6_1, .int .i64 k7_1, .string s8_1, .slice a9_1 l9_1 c9_1, .slice a10_1 l10_1 c10_1], ?_, rfl, ?_, ?_⟩
 · refine Tre.mono (lo := lo1) ?_ (by have := HRW.out; omega)
   (repeat (first | with_reducible refine Tre.setR ?_ hlr1 _ _ | with_reducible refine Tre.allocI ?_ _ | with_reducible exact HV1_11.out))
 · (repeat (first | with_reducible refine PaS.setR ?_ hrp hrb _ _ | with_reducible refine PaS.allocI ?_ _ | exact HP11.out))
 · (repeat (first | with_reducible refine GrowA.setR ?_ HRW.out _ _ | with_reducible refine GrowA.alloc ?_ _ | exact HG11.out))
end Go.Proofs.YtbnlekhjgkojlaaGreatDoor
