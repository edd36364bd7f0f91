import Derived.Test.YtbnlekhjgkojlaaGreatDoorPrLet
set_option linter.unusedVariables false
namespace Go.Proofs.YtbnlekhjgkojlaaGreatDoor
set_option maxRecDepth 100000
open Go.RowKit
def TreB (w : World) (lo hi : Nat) (p : Ph) (v : List Value) : Prop := p.V w (fun b => lo ≤ b ∧ b < hi) v ∧ hi ≤ w.heap.size
theorem TreB.of {w w' : World} {lo hi : Nat} {p : Ph} {v : List Value} (h : Tre w lo p v) (hh : w.heap.size = hi) (hs : hi ≤ w'.heap.size) (hk : ∀ b, b < hi → w'.heap[b]? = w.heap[b]?) : TreB w' lo hi p v := ⟨Ph.V.keep (fun b h1 => ⟨h1.1, by rw [← hh]; exact h1.2⟩) (fun b h1 => hk b (by rw [← hh]; exact h1.2)) h, hs⟩
theorem TreB.grow {w w' : World} {pb lo hi : Nat} {p : Ph} {v : List Value} (h : TreB w lo hi p v) (hg : GrowA pb w w') (hp : pb < lo) : TreB w' lo hi p v :=
 ⟨Ph.V.keep (fun b hb => hb) (fun b hb => hg.2.2.2.2 b (Nat.lt_of_lt_of_le hb.2 h.2) (by omega)) h.1, Nat.le_trans h.2 hg.1⟩
theorem TreB.below {w w' : World} {lo hi : Nat} {p : Ph} {v : List Value} (h : TreB w lo hi p v) (hb : Below w.heap.size w w') : TreB w' lo hi p v :=
 ⟨Ph.V.keep (fun b h1 => h1) (fun b h1 => hb.block b (Nat.lt_of_lt_of_le h1.2 h.2)) h.1, Nat.le_trans h.2 hb.size⟩
theorem TreB.allocI {w : World} {lo hi : Nat} {p : Ph} {v : List Value} (h : TreB w lo hi p v) (o : Obj) : TreB (w.alloc o) lo hi p v := h.below ((Below.refl _ _).alloc (Nat.le_refl _) o)
theorem TreB.setUp {w : World} {lo hi r : Nat} {p : Ph} {v : List Value} (h : TreB w lo hi p v) (hr : hi ≤ r) (t : Nat) (u : Value) : TreB (w.setCell ⟨r, t, none⟩ u) lo hi p v :=
 ⟨Ph.V.keep (fun b h1 => h1) (fun b h1 => Below.heap_setCell _ _ _ _ (by simp; omega)) h.1, by simpa using h.2⟩
theorem TreB.setR {w : World} {lo hi r : Nat} {p : Ph} {v : List Value} (h : TreB w lo hi p v) (hr : r < lo) (t : Nat) (u : Value) : TreB (w.setCell ⟨r, t, none⟩ u) lo hi p v :=
 ⟨Ph.V.keep (fun b h1 => h1) (fun b h1 => Below.heap_setCell _ _ _ _ (by simp; omega)) h.1, by simpa using h.2⟩
theorem TreB.tre {w : World} {lo hi : Nat} {p : Ph} {v : List Value} (h : TreB w lo hi p v) : Tre w lo p v := Ph.V.keep (fun b h1 => ⟨h1.1, Nat.lt_of_lt_of_le h1.2 h.2⟩) (fun _ _ => rfl) h.1
set_option maxHeartbeats 6400000 in
theorem orderBy_down {pb b c : Nat} {T : List Tok} {st s2 s3 : Pst} {p : Ph} (hT : T.length ≤ 200) (hat : st.at' ≤ 300) (hw : wantM T st ⟨1, ⟨#[98, 121]⟩, 0⟩ = s2) (hat3 : s3.at' ≤ 300) (y1 : eqT (seeM T s3 0) ⟨1, ⟨#[100, 101, 115, 99, 101, 110, 100, 105, 110, 103]⟩, 0⟩ = true) (hlu : RunT pb b c T 68 #[.pointer (some ⟨pb, 0, none⟩)] s2 s3 p) : RunC pb b c T 95 st { s3 with at' := s3.at' + 1 } 4 ⟨#[]⟩ ⟨#[]⟩ true p := by
 intro w h htb
 have HTB : Hid (RTab w pb) := htb
 clear htb
 have HLU : Hid (RunT pb b c T 68 #[.pointer (some ⟨pb, 0, none⟩)] s2 s3 p) := hlu
 clear hlu
 have hpl := h.pl
 have hbl := h.bl
 go_enter Tryz.func95, Tryz.ntmps95
 go_upto_region 1 with fail
 obtain ⟨W1, hW1⟩ : ∃ W, W = w.alloc (.cells #[.int .i64 0, .string ⟨#[]⟩, .string ⟨#[]⟩, .bool false, .int .i64 0, .int .i64 0, .int .i64 0, .string ⟨#[]⟩, .string ⟨#[]⟩, .int .i64 0, .int .i64 0, .int .i64 0, .string ⟨#[]⟩, .slice none 0 0, .slice none 0 0] 74) := ⟨_, rfl⟩
 have HG1 : Hid (GrowA pb w W1) := by rw [hW1]; exact (GrowA.refl _ _).alloc _
 have HP1 : Hid (PaS W1 pb b c T st) := by rw [hW1]; exact h.allocI _
 have HR1 : Hid (ClB W1 w.heap.size #[.int .i64 0, .string ⟨#[]⟩, .string ⟨#[]⟩, .bool false, .int .i64 0, .int .i64 0, .int .i64 0, .string ⟨#[]⟩, .string ⟨#[]⟩, .int .i64 0, .int .i64 0, .int .i64 0, .string ⟨#[]⟩, .slice none 0 0, .slice none 0 0]) := by rw [hW1]; exact ClB.new w _
 rw [← hW1]
 obtain ⟨r, hr⟩ : ∃ r, r = w.heap.size := ⟨_, rfl⟩
 have HRW : Hid (w.heap.size ≤ r) := Nat.le_of_eq hr.symm
 have hrp : r ≠ pb := by omega
 have hrb : r ≠ b := by omega
 rw [← hr] at HR1 ⊢
 clear hW1 hr h hpl hbl
 go_upto_region 3 with (first
  | (go_at_call 81; have HNX := HP1; refine (word_is _ _).mono ?_; rintro e w2 ⟨rfl, hb⟩; have HG2 : Hid (GrowA pb w w2) := (HG1.out.below hb); have HP2 : Hid (PaS w2 pb b c T st) := (HP1.out.below hb); have HR2 : Hid (ClB w2 r #[.int .i64 0, .string ⟨#[]⟩, .string ⟨#[]⟩, .bool false, .int .i64 0, .int .i64 0, .int .i64 0, .string ⟨#[]⟩, .string ⟨#[]⟩, .int .i64 0, .int .i64 0, .int .i64 0, .string ⟨#[]⟩, .slice none 0 0, .slice none 0 0]) := (HR1.out.below hb); clear hb HNX HP1 HG1 HR1)
  | (go_at_call 96; (refine (want_eq HP2.out hT hat hw).mono ?_); rintro e w3 ⟨rfl, hp, hg⟩; have HG3 : Hid (GrowA pb w w3) := (HG2.out.trans hg); have HP3 : Hid (PaS w3 pb b c T s2) := hp; have HR3 : Hid (ClB w3 r #[.int .i64 0, .string ⟨#[]⟩, .string ⟨#[]⟩, .bool false, .int .i64 0, .int .i64 0, .int .i64 0, .string ⟨#[]⟩, .string ⟨#[]⟩, .int .i64 0, .int .i64 0, .int .i64 0, .string ⟨#[]⟩, .slice none 0 0, .slice none 0 0]) := (HR2.out.grow hg hrp); clear hp hg HP2 HG2 HR2)
  | (go_at_call 68; (first | refine (HLU.out.use HTB.out HP3.out HG3.out (show r < _ from by have k := HR3.out.lt; first | exact k | (simp; omega))).mono ?_ | refine (HLU.out.use HTB.out (HP3.out.allocI _) (HG3.out.alloc _) (show r < _ from by have k := HR3.out.lt; first | exact k | (simp; omega))).mono ?_ | refine (HLU.out.use HTB.out ((HP3.out.allocI _).allocI _) ((HG3.out.alloc _).alloc _) (show r < _ from by have k := HR3.out.lt; first | exact k | (simp; omega))).mono ?_); rintro e w4 ⟨lo1, v, hlo, hv, rfl, hp, hg⟩; obtain ⟨k0_1, k1_1, k2_1, k5_1, k6_1, k7_1, s3_1, s4_1, s8_1, a9_1, a10_1, l9_1, c9_1, l10_1, c10_1, rfl⟩ := hv.form; have hlo1 := hlo.1; have hlp1 := hlo.2.1; have hlz1 := hlo.2.2; have HG4 : Hid (GrowA pb w w4) := (HG3.out.trans hg); have HP4 : Hid (PaS w4 pb b c T s3) := hp; have HR4 : Hid (ClB w4 r #[.int .i64 0, .string ⟨#[]⟩, .string ⟨#[]⟩, .bool false, .int .i64 0, .int .i64 0, .int .i64 0, .string ⟨#[]⟩, .string ⟨#[]⟩, .int .i64 0, .int .i64 0, .int .i64 0, .string ⟨#[]⟩, .slice none 0 0, .slice none 0 0]) := (HR3.out.grow hg hrp); have HV1_4 : Hid (Tre w4 lo1 p [.int .i64 k0_1, .int .i64 k1_1, .int .i64 k2_1, .string s3_1, .string s4_1, .int .i64 k5_1, .int .i64 k6_1, .int .i64 k7_1, .string s8_1, .slice a9_1 l9_1 c9_1, .slice a10_1 l10_1 c10_1]) := hv; clear hv hlo hp hg HP3 HG3 HR3))
 obtain ⟨g, hg0⟩ : ∃ g, g = w4.heap.size := ⟨_, rfl⟩
 obtain ⟨W5, hW5⟩ : ∃ W, W = w4.alloc (.cells #[.int .i64 4, .string ⟨#[]⟩, .string ⟨#[]⟩, .bool false, .int .i64 k0_1, .int .i64 k1_1, .int .i64 k2_1, .string s3_1, .string s4_1, .int .i64 k5_1, .int .i64 k6_1, .int .i64 k7_1, .string s8_1, .slice a9_1 l9_1 c9_1, .slice a10_1 l10_1 c10_1] 74) := ⟨_, rfl⟩
 have HP5 : Hid (PaS W5 pb b c T s3) := by rw [hW5]; exact HP4.out.allocI _
 have HG5 : Hid (GrowA pb w W5) := by rw [hW5]; exact HG4.out.alloc _
 have HR5 : Hid (ClB W5 r #[.int .i64 0, .string ⟨#[]⟩, .string ⟨#[]⟩, .bool false, .int .i64 0, .int .i64 0, .int .i64 0, .string ⟨#[]⟩, .string ⟨#[]⟩, .int .i64 0, .int .i64 0, .int .i64 0, .string ⟨#[]⟩, .slice none 0 0, .slice none 0 0]) := by rw [hW5]; exact HR4.out.allocI _
 have HX5 : Hid (ClB W5 g #[.int .i64 4, .string ⟨#[]⟩, .string ⟨#[]⟩, .bool false, .int .i64 k0_1, .int .i64 k1_1, .int .i64 k2_1, .string s3_1, .string s4_1, .int .i64 k5_1, .int .i64 k6_1, .int .i64 k7_1, .string s8_1, .slice a9_1 l9_1 c9_1, .slice a10_1 l10_1 c10_1]) := by rw [hW5, hg0]; exact ClB.new w4 _
 have HV1_5 : Hid (TreB W5 lo1 g p [.int .i64 k0_1, .int .i64 k1_1, .int .i64 k2_1, .string s3_1, .string s4_1, .int .i64 k5_1, .int .i64 k6_1, .int .i64 k7_1, .string s8_1, .slice a9_1 l9_1 c9_1, .slice a10_1 l10_1 c10_1]) := by rw [hW5]; exact TreB.of HV1_4.out hg0.symm (by rw [hg0]; simp) (fun b hb => Below.heap_alloc _ _ _ (by rw [← hg0]; exact hb))
 have hxp : g ≠ pb := by have := HP4.out.pl; omega
 have hxb : g ≠ b := by have := HP4.out.bl; omega
 have hxw : w.heap.size ≤ g := by rw [hg0]; exact HG4.out.1
 have hrx2 : r < g := by rw [hg0]; exact HR4.out.lt
 have hrx : r ≠ g := by omega
 have hglo : lo1 ≤ g := by rw [hg0]; exact hlz1
 rw [← hW5]
 rw [← hg0]
 clear hW5 HP4 HG4 HR4 HV1_4 hg0
 go_upto_region 4 with (first
  | (go_at_call 81; have HNX := HP5; refine (word_is _ _).mono ?_; rintro e w6 ⟨rfl, hb⟩; have HG6 : Hid (GrowA pb w w6) := (HG5.out.below hb); have HP6 : Hid (PaS w6 pb b c T s3) := (HP5.out.below hb); have HR6 : Hid (ClB w6 r #[.int .i64 0, .string ⟨#[]⟩, .string ⟨#[]⟩, .bool false, .int .i64 0, .int .i64 0, .int .i64 0, .string ⟨#[]⟩, .string ⟨#[]⟩, .int .i64 0, .int .i64 0, .int .i64 0, .string ⟨#[]⟩, .slice none 0 0, .slice none 0 0]) := (HR5.out.below hb); have HX6 : Hid (ClB w6 g #[.int .i64 4, .string ⟨#[]⟩, .string ⟨#[]⟩, .bool false, .int .i64 k0_1, .int .i64 k1_1, .int .i64 k2_1, .string s3_1, .string s4_1, .int .i64 k5_1, .int .i64 k6_1, .int .i64 k7_1, .string s8_1, .slice a9_1 l9_1 c9_1, .slice a10_1 l10_1 c10_1]) := (HX5.out.below hb); have HV1_6 : Hid (TreB w6 lo1 g p [.int .i64 k0_1, .int .i64 k1_1, .int .i64 k2_1, .string s3_1, .string s4_1, .int .i64 k5_1, .int .i64 k6_1, .int .i64 k7_1, .string s8_1, .slice a9_1 l9_1 c9_1, .slice a10_1 l10_1 c10_1]) := (HV1_5.out.below hb); clear hb HNX HP5 HG5 HR5 HX5 HV1_5)
  | (go_at_call 69; (refine (skip_yes HP6.out hT hat3 _ _ _ y1).mono ?_); rintro e w7 ⟨rfl, hp, hg⟩; have HG7 : Hid (GrowA pb w w7) := (HG6.out.trans hg); have HP7 : Hid (PaS w7 pb b c T { s3 with at' := s3.at' + 1 }) := hp; have HR7 : Hid (ClB w7 r #[.int .i64 0, .string ⟨#[]⟩, .string ⟨#[]⟩, .bool false, .int .i64 0, .int .i64 0, .int .i64 0, .string ⟨#[]⟩, .string ⟨#[]⟩, .int .i64 0, .int .i64 0, .int .i64 0, .string ⟨#[]⟩, .slice none 0 0, .slice none 0 0]) := (HR6.out.grow hg hrp); have HX7 : Hid (ClB w7 g #[.int .i64 4, .string ⟨#[]⟩, .string ⟨#[]⟩, .bool false, .int .i64 k0_1, .int .i64 k1_1, .int .i64 k2_1, .string s3_1, .string s4_1, .int .i64 k5_1, .int .i64 k6_1, .int .i64 k7_1, .string s8_1, .slice a9_1 l9_1 c9_1, .slice a10_1 l10_1 c10_1]) := (HX6.out.grow hg hxp); have HV1_7 : Hid (TreB w7 lo1 g p [.int .i64 k0_1, .int .i64 k1_1, .int .i64 k2_1, .string s3_1, .string s4_1, .int .i64 k5_1, .int .i64 k6_1, .int .i64 k7_1, .string s8_1, .slice a9_1 l9_1 c9_1, .slice a10_1 l10_1 c10_1]) := (HV1_6.out.grow hg hlp1); obtain ⟨⟨m0, m1, m2, m3, m4, m5, m6, m7, m8, m9, m10, m11, m12, m13, m14⟩, j0, j1, j2, j3, j4, j5, j6, j7, j8, j9, j10, j11, j12, j13, j14⟩ := HX7.out.cells; have hxz := HX7.out.lt; clear hp hg HP6 HG6 HR6 HX6 HV1_6))
 obtain ⟨W8, hW8⟩ : ∃ W, W = w7.setCell ⟨g, 3, none⟩ (.bool true) := ⟨_, rfl⟩
 have HP8 : Hid (PaS W8 pb b c T { s3 with at' := s3.at' + 1 }) := by rw [hW8]; exact HP7.out.setR hxp hxb 3 _
 have HG8 : Hid (GrowA pb w W8) := by rw [hW8]; exact HG7.out.setR hxw 3 _
 have HR8 : Hid (ClB W8 r #[.int .i64 0, .string ⟨#[]⟩, .string ⟨#[]⟩, .bool false, .int .i64 0, .int .i64 0, .int .i64 0, .string ⟨#[]⟩, .string ⟨#[]⟩, .int .i64 0, .int .i64 0, .int .i64 0, .string ⟨#[]⟩, .slice none 0 0, .slice none 0 0]) := by rw [hW8]; exact HR7.out.setO hrx 3 _
 have HX8 : Hid (ClB W8 g #[.int .i64 4, .string ⟨#[]⟩, .string ⟨#[]⟩, .bool true, .int .i64 k0_1, .int .i64 k1_1, .int .i64 k2_1, .string s3_1, .string s4_1, .int .i64 k5_1, .int .i64 k6_1, .int .i64 k7_1, .string s8_1, .slice a9_1 l9_1 c9_1, .slice a10_1 l10_1 c10_1]) := by rw [hW8]; exact HX7.out.setAt 3 (.bool true)
 have HV1_8 : Hid (TreB W8 lo1 g p [.int .i64 k0_1, .int .i64 k1_1, .int .i64 k2_1, .string s3_1, .string s4_1, .int .i64 k5_1, .int .i64 k6_1, .int .i64 k7_1, .string s8_1, .slice a9_1 l9_1 c9_1, .slice a10_1 l10_1 c10_1]) := by rw [hW8]; exact HV1_7.out.setUp (Nat.le_refl _) 3 _
 rw [← hW8]
 clear hW8 HP7 HG7 HR7 HX7 HV1_7 hxz m0 j0 m1 j1 m2 j2 m3 j3 m4 j4 m5 j5 m6 j6 m7 j7 m8 j8 m9 j9 m10 j10 m11 j11 m12 j12 m13 j13 m14 j14
 obtain ⟨⟨y0, y1, y2, y3, y4, y5, y6, y7, y8, y9, y10, y11, y12, y13, y14⟩, z0, z1, z2, z3, z4, z5, z6, z7, z8, z9, z10, z11, z12, z13, z14⟩ := HR8.out.cells
 obtain ⟨⟨m0, m1, m2, m3, m4, m5, m6, m7, m8, m9, m10, m11, m12, m13, m14⟩, j0, j1, j2, j3, j4, j5, j6, j7, j8, j9, j10, j11, j12, j13, j14⟩ := HX8.out.cells
 have hlr1 : r < lo1 := by omega
 go_wp2
 refine bodyPost_ret (v := .agg #[.int .i64 4, .string ⟨#[]⟩, .string ⟨#[]⟩, .bool true, .int .i64 k0_1, .int .i64 k1_1, .int .i64 k2_1, .string s3_1, .string s4_1, .int .i64 k5_1, .int .i64 k6_1, .int .i64 k7_1, .string s8_1, .slice a9_1 l9_1 c9_1, .slice a10_1 l10_1 c10_1]) (by simp [results, Tryz.results95, go_sem, y0, y1, y2, y3, y4, y5, y6, y7, y8, y9, y10, y11, y12, y13, y14]) rfl ⟨[.int .i64 k0_1, .int .i64 k1_1, .int .i64 k2_1, .string s3_1, .string s4_1, .int .i64 k5_1, .int .i64 k6_1, .int .i64 k7_1, .string s8_1, .slice a9_1 l9_1 c9_1, .slice a10_1 l10_1 c10_1], ?_, rfl, ?_, ?_⟩
 · refine Tre.mono (lo := lo1) (TreB.tre (hi := g) ?_) (by have := HRW.out; omega)
   (repeat (first | with_reducible refine TreB.setR ?_ hlr1 _ _ | with_reducible refine TreB.allocI ?_ _ | with_reducible exact HV1_8.out))
 · (repeat (first | with_reducible refine PaS.setR ?_ hrp hrb _ _ | with_reducible refine PaS.allocI ?_ _ | exact HP8.out))
 · (repeat (first | with_reducible refine GrowA.setR ?_ HRW.out _ _ | with_reducible refine GrowA.alloc ?_ _ | exact HG8.out))
set_option maxHeartbeats 6400000 in
theorem orderBy_up {pb b c : Nat} {T : List Tok} {st s2 s3 : Pst} {p : Ph} (hT : T.length ≤ 200) (hat : st.at' ≤ 300) (hw : wantM T st ⟨1, ⟨#[98, 121]⟩, 0⟩ = s2) (hat3 : s3.at' ≤ 300) (y1 : eqT (seeM T s3 0) ⟨1, ⟨#[100, 101, 115, 99, 101, 110, 100, 105, 110, 103]⟩, 0⟩ = false) (hlu : RunT pb b c T 68 #[.pointer (some ⟨pb, 0, none⟩)] s2 s3 p) : RunC pb b c T 95 st s3 4 ⟨#[]⟩ ⟨#[]⟩ false p := by
 intro w h htb
 have HTB : Hid (RTab w pb) := htb
 clear htb
 have HLU : Hid (RunT pb b c T 68 #[.pointer (some ⟨pb, 0, none⟩)] s2 s3 p) := hlu
 clear hlu
 have hpl := h.pl
 have hbl := h.bl
 go_enter Tryz.func95, Tryz.ntmps95
 go_upto_region 1 with fail
 obtain ⟨W1, hW1⟩ : ∃ W, W = w.alloc (.cells #[.int .i64 0, .string ⟨#[]⟩, .string ⟨#[]⟩, .bool false, .int .i64 0, .int .i64 0, .int .i64 0, .string ⟨#[]⟩, .string ⟨#[]⟩, .int .i64 0, .int .i64 0, .int .i64 0, .string ⟨#[]⟩, .slice none 0 0, .slice none 0 0] 74) := ⟨_, rfl⟩
 have HG1 : Hid (GrowA pb w W1) := by rw [hW1]; exact (GrowA.refl _ _).alloc _
 have HP1 : Hid (PaS W1 pb b c T st) := by rw [hW1]; exact h.allocI _
 have HR1 : Hid (ClB W1 w.heap.size #[.int .i64 0, .string ⟨#[]⟩, .string ⟨#[]⟩, .bool false, .int .i64 0, .int .i64 0, .int .i64 0, .string ⟨#[]⟩, .string ⟨#[]⟩, .int .i64 0, .int .i64 0, .int .i64 0, .string ⟨#[]⟩, .slice none 0 0, .slice none 0 0]) := by rw [hW1]; exact ClB.new w _
 rw [← hW1]
 obtain ⟨r, hr⟩ : ∃ r, r = w.heap.size := ⟨_, rfl⟩
 have HRW : Hid (w.heap.size ≤ r) := Nat.le_of_eq hr.symm
 have hrp : r ≠ pb := by omega
 have hrb : r ≠ b := by omega
 rw [← hr] at HR1 ⊢
 clear hW1 hr h hpl hbl
 go_upto_region 3 with (first
  | (go_at_call 81; have HNX := HP1; refine (word_is _ _).mono ?_; rintro e w2 ⟨rfl, hb⟩; have HG2 : Hid (GrowA pb w w2) := (HG1.out.below hb); have HP2 : Hid (PaS w2 pb b c T st) := (HP1.out.below hb); have HR2 : Hid (ClB w2 r #[.int .i64 0, .string ⟨#[]⟩, .string ⟨#[]⟩, .bool false, .int .i64 0, .int .i64 0, .int .i64 0, .string ⟨#[]⟩, .string ⟨#[]⟩, .int .i64 0, .int .i64 0, .int .i64 0, .string ⟨#[]⟩, .slice none 0 0, .slice none 0 0]) := (HR1.out.below hb); clear hb HNX HP1 HG1 HR1)
  | (go_at_call 96; (refine (want_eq HP2.out hT hat hw).mono ?_); rintro e w3 ⟨rfl, hp, hg⟩; have HG3 : Hid (GrowA pb w w3) := (HG2.out.trans hg); have HP3 : Hid (PaS w3 pb b c T s2) := hp; have HR3 : Hid (ClB w3 r #[.int .i64 0, .string ⟨#[]⟩, .string ⟨#[]⟩, .bool false, .int .i64 0, .int .i64 0, .int .i64 0, .string ⟨#[]⟩, .string ⟨#[]⟩, .int .i64 0, .int .i64 0, .int .i64 0, .string ⟨#[]⟩, .slice none 0 0, .slice none 0 0]) := (HR2.out.grow hg hrp); clear hp hg HP2 HG2 HR2)
  | (go_at_call 68; (first | refine (HLU.out.use HTB.out HP3.out HG3.out (show r < _ from by have k := HR3.out.lt; first | exact k | (simp; omega))).mono ?_ | refine (HLU.out.use HTB.out (HP3.out.allocI _) (HG3.out.alloc _) (show r < _ from by have k := HR3.out.lt; first | exact k | (simp; omega))).mono ?_ | refine (HLU.out.use HTB.out ((HP3.out.allocI _).allocI _) ((HG3.out.alloc _).alloc _) (show r < _ from by have k := HR3.out.lt; first | exact k | (simp; omega))).mono ?_); rintro e w4 ⟨lo1, v, hlo, hv, rfl, hp, hg⟩; obtain ⟨k0_1, k1_1, k2_1, k5_1, k6_1, k7_1, s3_1, s4_1, s8_1, a9_1, a10_1, l9_1, c9_1, l10_1, c10_1, rfl⟩ := hv.form; have hlo1 := hlo.1; have hlp1 := hlo.2.1; have hlz1 := hlo.2.2; have HG4 : Hid (GrowA pb w w4) := (HG3.out.trans hg); have HP4 : Hid (PaS w4 pb b c T s3) := hp; have HR4 : Hid (ClB w4 r #[.int .i64 0, .string ⟨#[]⟩, .string ⟨#[]⟩, .bool false, .int .i64 0, .int .i64 0, .int .i64 0, .string ⟨#[]⟩, .string ⟨#[]⟩, .int .i64 0, .int .i64 0, .int .i64 0, .string ⟨#[]⟩, .slice none 0 0, .slice none 0 0]) := (HR3.out.grow hg hrp); have HV1_4 : Hid (Tre w4 lo1 p [.int .i64 k0_1, .int .i64 k1_1, .int .i64 k2_1, .string s3_1, .string s4_1, .int .i64 k5_1, .int .i64 k6_1, .int .i64 k7_1, .string s8_1, .slice a9_1 l9_1 c9_1, .slice a10_1 l10_1 c10_1]) := hv; clear hv hlo hp hg HP3 HG3 HR3))
 obtain ⟨g, hg0⟩ : ∃ g, g = w4.heap.size := ⟨_, rfl⟩
 obtain ⟨W5, hW5⟩ : ∃ W, W = w4.alloc (.cells #[.int .i64 4, .string ⟨#[]⟩, .string ⟨#[]⟩, .bool false, .int .i64 k0_1, .int .i64 k1_1, .int .i64 k2_1, .string s3_1, .string s4_1, .int .i64 k5_1, .int .i64 k6_1, .int .i64 k7_1, .string s8_1, .slice a9_1 l9_1 c9_1, .slice a10_1 l10_1 c10_1] 74) := ⟨_, rfl⟩
 have HP5 : Hid (PaS W5 pb b c T s3) := by rw [hW5]; exact HP4.out.allocI _
 have HG5 : Hid (GrowA pb w W5) := by rw [hW5]; exact HG4.out.alloc _
 have HR5 : Hid (ClB W5 r #[.int .i64 0, .string ⟨#[]⟩, .string ⟨#[]⟩, .bool false, .int .i64 0, .int .i64 0, .int .i64 0, .string ⟨#[]⟩, .string ⟨#[]⟩, .int .i64 0, .int .i64 0, .int .i64 0, .string ⟨#[]⟩, .slice none 0 0, .slice none 0 0]) := by rw [hW5]; exact HR4.out.allocI _
 have HX5 : Hid (ClB W5 g #[.int .i64 4, .string ⟨#[]⟩, .string ⟨#[]⟩, .bool false, .int .i64 k0_1, .int .i64 k1_1, .int .i64 k2_1, .string s3_1, .string s4_1, .int .i64 k5_1, .int .i64 k6_1, .int .i64 k7_1, .string s8_1, .slice a9_1 l9_1 c9_1, .slice a10_1 l10_1 c10_1]) := by rw [hW5, hg0]; exact ClB.new w4 _
 have HV1_5 : Hid (TreB W5 lo1 g p [.int .i64 k0_1, .int .i64 k1_1, .int .i64 k2_1, .string s3_1, .string s4_1, .int .i64 k5_1, .int .i64 k6_1, .int .i64 k7_1, .string s8_1, .slice a9_1 l9_1 c9_1, .slice a10_1 l10_1 c10_1]) := by rw [hW5]; exact TreB.of HV1_4.out hg0.symm (by rw [hg0]; simp) (fun b hb => Below.heap_alloc _ _ _ (by rw [← hg0]; exact hb))
 have hxp : g ≠ pb := by have := HP4.out.pl; omega
 have hxb : g ≠ b := by have := HP4.out.bl; omega
 have hxw : w.heap.size ≤ g := by rw [hg0]; exact HG4.out.1
 have hrx2 : r < g := by rw [hg0]; exact HR4.out.lt
 have hrx : r ≠ g := by omega
 have hglo : lo1 ≤ g := by rw [hg0]; exact hlz1
 rw [← hW5]
 rw [← hg0]
 clear hW5 HP4 HG4 HR4 HV1_4 hg0
 go_upto_region 4 with (first
  | (go_at_call 81; have HNX := HP5; refine (word_is _ _).mono ?_; rintro e w6 ⟨rfl, hb⟩; have HG6 : Hid (GrowA pb w w6) := (HG5.out.below hb); have HP6 : Hid (PaS w6 pb b c T s3) := (HP5.out.below hb); have HR6 : Hid (ClB w6 r #[.int .i64 0, .string ⟨#[]⟩, .string ⟨#[]⟩, .bool false, .int .i64 0, .int .i64 0, .int .i64 0, .string ⟨#[]⟩, .string ⟨#[]⟩, .int .i64 0, .int .i64 0, .int .i64 0, .string ⟨#[]⟩, .slice none 0 0, .slice none 0 0]) := (HR5.out.below hb); have HX6 : Hid (ClB w6 g #[.int .i64 4, .string ⟨#[]⟩, .string ⟨#[]⟩, .bool false, .int .i64 k0_1, .int .i64 k1_1, .int .i64 k2_1, .string s3_1, .string s4_1, .int .i64 k5_1, .int .i64 k6_1, .int .i64 k7_1, .string s8_1, .slice a9_1 l9_1 c9_1, .slice a10_1 l10_1 c10_1]) := (HX5.out.below hb); have HV1_6 : Hid (TreB w6 lo1 g p [.int .i64 k0_1, .int .i64 k1_1, .int .i64 k2_1, .string s3_1, .string s4_1, .int .i64 k5_1, .int .i64 k6_1, .int .i64 k7_1, .string s8_1, .slice a9_1 l9_1 c9_1, .slice a10_1 l10_1 c10_1]) := (HV1_5.out.below hb); clear hb HNX HP5 HG5 HR5 HX5 HV1_5)
  | (go_at_call 69; (refine (skip_no HP6.out hT hat3 _ _ _ y1).mono ?_); rintro e w7 ⟨rfl, hp, hg⟩; have HG7 : Hid (GrowA pb w w7) := (HG6.out.trans hg); have HP7 : Hid (PaS w7 pb b c T s3) := hp; have HR7 : Hid (ClB w7 r #[.int .i64 0, .string ⟨#[]⟩, .string ⟨#[]⟩, .bool false, .int .i64 0, .int .i64 0, .int .i64 0, .string ⟨#[]⟩, .string ⟨#[]⟩, .int .i64 0, .int .i64 0, .int .i64 0, .string ⟨#[]⟩, .slice none 0 0, .slice none 0 0]) := (HR6.out.grow hg hrp); have HX7 : Hid (ClB w7 g #[.int .i64 4, .string ⟨#[]⟩, .string ⟨#[]⟩, .bool false, .int .i64 k0_1, .int .i64 k1_1, .int .i64 k2_1, .string s3_1, .string s4_1, .int .i64 k5_1, .int .i64 k6_1, .int .i64 k7_1, .string s8_1, .slice a9_1 l9_1 c9_1, .slice a10_1 l10_1 c10_1]) := (HX6.out.grow hg hxp); have HV1_7 : Hid (TreB w7 lo1 g p [.int .i64 k0_1, .int .i64 k1_1, .int .i64 k2_1, .string s3_1, .string s4_1, .int .i64 k5_1, .int .i64 k6_1, .int .i64 k7_1, .string s8_1, .slice a9_1 l9_1 c9_1, .slice a10_1 l10_1 c10_1]) := (HV1_6.out.grow hg hlp1); obtain ⟨⟨m0, m1, m2, m3, m4, m5, m6, m7, m8, m9, m10, m11, m12, m13, m14⟩, j0, j1, j2, j3, j4, j5, j6, j7, j8, j9, j10, j11, j12, j13, j14⟩ := HX7.out.cells; have hxz := HX7.out.lt; clear hp hg HP6 HG6 HR6 HX6 HV1_6))
 obtain ⟨W8, hW8⟩ : ∃ W, W = w7.setCell ⟨g, 3, none⟩ (.bool false) := ⟨_, rfl⟩
 have HP8 : Hid (PaS W8 pb b c T s3) := by rw [hW8]; exact HP7.out.setR hxp hxb 3 _
 have HG8 : Hid (GrowA pb w W8) := by rw [hW8]; exact HG7.out.setR hxw 3 _
 have HR8 : Hid (ClB W8 r #[.int .i64 0, .string ⟨#[]⟩, .string ⟨#[]⟩, .bool false, .int .i64 0, .int .i64 0, .int .i64 0, .string ⟨#[]⟩, .string ⟨#[]⟩, .int .i64 0, .int .i64 0, .int .i64 0, .string ⟨#[]⟩, .slice none 0 0, .slice none 0 0]) := by rw [hW8]; exact HR7.out.setO hrx 3 _
 have HX8 : Hid (ClB W8 g #[.int .i64 4, .string ⟨#[]⟩, .string ⟨#[]⟩, .bool false, .int .i64 k0_1, .int .i64 k1_1, .int .i64 k2_1, .string s3_1, .string s4_1, .int .i64 k5_1, .int .i64 k6_1, .int .i64 k7_1, .string s8_1, .slice a9_1 l9_1 c9_1, .slice a10_1 l10_1 c10_1]) := by rw [hW8]; exact HX7.out.setAt 3 (.bool false)
 have HV1_8 : Hid (TreB W8 lo1 g p [.int .i64 k0_1, .int .i64 k1_1, .int .i64 k2_1, .string s3_1, .string s4_1, .int .i64 k5_1, .int .i64 k6_1, .int .i64 k7_1, .string s8_1, .slice a9_1 l9_1 c9_1, .slice a10_1 l10_1 c10_1]) := by rw [hW8]; exact HV1_7.out.setUp (Nat.le_refl _) 3 _
 rw [← hW8]
 clear hW8 HP7 HG7 HR7 HX7 HV1_7 hxz m0 j0 m1 j1 m2 j2 m3 j3 m4 j4 m5 j5 m6 j6 m7 j7 m8 j8 m9 j9 m10 j10 m11 j11 m12 j12 m13 j13 m14 j14
 obtain ⟨⟨y0, y1, y2, y3, y4, y5, y6, y7, y8, y9, y10, y11, y12, y13, y14⟩, z0, z1, z2, z3, z4, z5, z6, z7, z8, z9, z10, z11, z12, z13, z14⟩ := HR8.out.cells
 obtain ⟨⟨m0, m1, m2, m3, m4, m5, m6, m7, m8, m9, m10, m11, m12, m13, m14⟩, j0, j1, j2, j3, j4, j5, j6, j7, j8, j9, j10, j11, j12, j13, j14⟩ := HX8.out.cells
 have hlr1 : r < lo1 := by omega
 go_wp2
 refine bodyPost_ret (v := .agg #[.int .i64 4, .string ⟨#[]⟩, .string ⟨#[]⟩, .bool false, .int .i64 k0_1, .int .i64 k1_1, .int .i64 k2_1, .string s3_1, .string s4_1, .int .i64 k5_1, .int .i64 k6_1, .int .i64 k7_1, .string s8_1, .slice a9_1 l9_1 c9_1, .slice a10_1 l10_1 c10_1]) (by simp [results, Tryz.results95, go_sem, y0, y1, y2, y3, y4, y5, y6, y7, y8, y9, y10, y11, y12, y13, y14]) rfl ⟨[.int .i64 k0_1, .int .i64 k1_1, .int .i64 k2_1, .string s3_1, .string s4_1, .int .i64 k5_1, .int .i64 k6_1, .int .i64 k7_1, .string s8_1, .slice a9_1 l9_1 c9_1, .slice a10_1 l10_1 c10_1], ?_, rfl, ?_, ?_⟩
 · refine Tre.mono (lo := lo1) (TreB.tre (hi := g) ?_) (by have := HRW.out; omega)
   (repeat (first | with_reducible refine TreB.setR ?_ hlr1 _ _ | with_reducible refine TreB.allocI ?_ _ | with_reducible exact HV1_8.out))
 · (repeat (first | with_reducible refine PaS.setR ?_ hrp hrb _ _ | with_reducible refine PaS.allocI ?_ _ | exact HP8.out))
 · (repeat (first | with_reducible refine GrowA.setR ?_ HRW.out _ _ | with_reducible refine GrowA.alloc ?_ _ | exact HG8.out))
end Go.Proofs.YtbnlekhjgkojlaaGreatDoor
