/-
  CONTRACT of package core: Lower, by the rule of its phrase.
-/
import Derived.Test.YtcbpjgnbdpfiiaaGreatDoorLxD
import Derived.Test.YtcbpjgnbdpfiiaaGreatDoorCkCheck
set_option linter.unusedVariables false
namespace Go.Proofs.YtcbpjgnbdpfiiaaGreatDoor
set_option maxRecDepth 100000
open Go.RowKit Go.WideShapes

/-- how an expression's value is written -/
def ExV (x : Value) : Prop := ∃ (x0 x1 x2 x6 x7 x8 : Int) (y3 y4 y5 y9 : ByteArray) (b10 : Option Addr) (l10 c10 : Nat), x = .agg #[.int .i64 x0, .int .i64 x1, .int .i64 x2, .string y3, .string y4, .string y5, .int .i64 x6, .int .i64 x7, .int .i64 x8, .string y9, .slice b10 l10 c10]
theorem size_two {w : World} {o o2 : Obj} : ((w.alloc o).alloc o2).heap.size = w.heap.size + 1 + 1 := by simp
set_option maxHeartbeats 6400000 in
theorem lower_ok {X : Ex} {q : Nat} (ph : Ph) (v : List Value) (w : World) (hv : ph.V w (fun b => b < w.heap.size) v) (hT : Tabs w) (hr : RunE ph (fun _ => 0) 0 q X) (hq : q ≤ 700) (hN : nodesX X ≤ 1048576) (c : Int) (hc : coreF X = c) :
    Calls Tryz.prog 10 #[.agg v.toArray] w fun e w' => ∃ x, ExV x ∧ e = .returned (.tuple #[x, .int .i64 c]) ∧ Below w.heap.size w w' := by
  have HR := HidOf hr
  have CK : Hid (∀ W, Calls Tryz.prog 23 #[] W fun e w' => e = .returned (.map (some W.heap.size)) ∧ VMap w' W.heap.size callsV ∧ Below W.heap.size W w') := calls_is
  have CO : Hid (∀ W, Calls Tryz.prog 24 #[] W fun e w' => e = .returned (.map (some W.heap.size)) ∧ VMap w' W.heap.size opersV ∧ Below W.heap.size W w') := operators_is
  have HTT : Hid (∀ W, Below w.heap.size w W → Tabs W) := fun W hW => Utf8Tabs_below hT hW
  have HV0 := HidOf hv
  have hmm := @run_makeMap Tryz.prog
  obtain ⟨k0_1, k1_1, k2_1, k5_1, k6_1, k7_1, s3_1, s4_1, s8_1, a9_1, a10_1, l9_1, c9_1, l10_1, c10_1, rfl⟩ := hv.form
  clear hv hT
  go_enter Tryz.func10, Tryz.ntmps10
  go_upto_region 2 with (first
    | (go_at_call 23; refine (CK.out _).mono ?_; rintro e w1 ⟨rfl, hv1, hb1⟩; have HV1 : Hid (VMap w1 (w.heap.size + 1 + 1) callsV) := (by have e := hv1; rw [size_two] at e; exact e); have HB1 : Hid (Below w.heap.size w w1) := Below.trans (((Below.refl _ _).alloc (Nat.le_refl _) _).alloc (by simp) _) (hb1.mono (by simp; omega)); have HP1 := hidC ((hb1.block w.heap.size (by simp; omega)).trans (aOld (aNew rfl))); have HZ1 := hidC ((hb1.block (w.heap.size + 1) (by simp)).trans (aNew (by simp))); have hz1 := HB1.out.size; clear hb1 hv1)
    | (go_at_call 24; refine (CO.out _).mono ?_; rintro e w2 ⟨rfl, hv2, hb2⟩; have HB2 : Hid (Below w.heap.size w w2) := HB1.out.trans (hb2.mono hz1); have HV2 := hidC hv2; have HV1b := hidC (HV1.out.keep (hb2.block _ HV1.out.lt)); have hl1 : w.heap.size + 1 + 1 < w1.heap.size := HV1.out.lt; have HP2 := hidC (blC hb2 (Array.getElem?_eq_some_iff.1 HP1.out).1 HP1.out); have HZ2 := hidC (blC hb2 (Array.getElem?_eq_some_iff.1 HZ1.out).1 HZ1.out); have hz2 := HB2.out.size; have hz12 : w1.heap.size < w2.heap.size := HV2.out.lt; clear hb2 hv2))
  obtain ⟨W3, hW3⟩ : ∃ W, W = (w2.alloc (.map #[] 0)).alloc (.cells #[.map (some (w.heap.size + 1 + 1)), .map (some w1.heap.size), .map (some w2.heap.size), .int .i64 0, .int .i64 0] 78) := ⟨_, rfl⟩
  have HB3 : Hid (Below w.heap.size w W3) := by rw [hW3]; exact (HB2.out.alloc hz2 _).alloc (by simp; omega) _
  have HL3 : Hid (W3.heap[w2.heap.size + 1]? = some (.cells #[.map (some (w.heap.size + 1 + 1)), .map (some w1.heap.size), .map (some w2.heap.size), .int .i64 ((0 : Nat) : Int), .int .i64 0] 78)) := by rw [hW3]; exact aNew (by simp)
  have HS3 : Hid (SMap W3 w2.heap.size (fun _ => 0)) := by rw [hW3]; exact (SMap.made w2).keep (Below.heap_alloc _ _ _ (by simp))
  have HVA3 : Hid (VMap W3 (w.heap.size + 1 + 1) callsV) := by rw [hW3]; exact (HV1b.out.alloc _).alloc _
  have HVB3 : Hid (VMap W3 w1.heap.size opersV) := by rw [hW3]; exact (HV2.out.alloc _).alloc _
  have HP3 : Hid (W3.heap[w.heap.size]? = some (.cells #[.int .i64 k0_1, .int .i64 k1_1, .int .i64 k2_1, .string s3_1, .string s4_1, .int .i64 k5_1, .int .i64 k6_1, .int .i64 k7_1, .string s8_1, .slice a9_1 l9_1 c9_1, .slice a10_1 l10_1 c10_1] 38)) := by rw [hW3]; exact aOld (aOld HP2.out)
  have HZ3 : Hid (W3.heap[w.heap.size + 1]? = some (.cells #[.int .i64 0, .int .i64 0, .int .i64 0, .string ⟨#[]⟩, .string ⟨#[]⟩, .string ⟨#[]⟩, .int .i64 0, .int .i64 0, .int .i64 0, .string ⟨#[]⟩, .slice none 0 0] 43)) := by rw [hW3]; exact aOld (aOld HZ2.out)
  rw [← hW3]
  have hz3 : w2.heap.size + 1 < W3.heap.size := (Array.getElem?_eq_some_iff.1 HL3.out).1
  have hz03 := HB3.out.size
  have HXB : Hid (XB W3 (w2.heap.size + 1) (w.heap.size + 1 + 1) w1.heap.size w2.heap.size) := ⟨HVA3.out, HVB3.out, by omega, by omega, by omega, by omega, by omega, hz3, by omega, w.heap.size, ⟨by omega, by omega⟩, fun W hW => HTT.out W (HB3.out.trans hW)⟩
  have HXS : Hid (XS W3 (w2.heap.size + 1) (w.heap.size + 1 + 1) w1.heap.size w2.heap.size (fun _ => 0) 0 W3) := XS.refl HL3.out HS3.out
  have HPH : Hid (PhIn W3 (w2.heap.size + 1) w2.heap.size w.heap.size 0 ph (fun b => b ≤ w.heap.size) [.int .i64 k0_1, .int .i64 k1_1, .int .i64 k2_1, .string s3_1, .string s4_1, .int .i64 k5_1, .int .i64 k6_1, .int .i64 k7_1, .string s8_1, .slice a9_1 l9_1 c9_1, .slice a10_1 l10_1 c10_1]) := ⟨fun j hj => by
      rw [Nat.zero_add]
      simp only [World.cell?, HP3.out]
      simp, Ph.V.keep (fun b q => Nat.le_of_lt q) (fun b q => HB3.out.block b q) HV0.out, Nat.le_refl _, fun b q => ⟨by omega, by omega, by omega⟩⟩
  clear hW3 HP1 HP2 HZ1 HZ2 HB1 HB2 CK CO HV1 HV1b HV2 HL3 HS3 HVA3 HVB3 HP3
  go_upto_region 3 with (go_at_call 25; refine (HR.out.use HXB.out HXS.out HPH.out).mono ?_; rintro e w4 ⟨x0, x1, x2, x6, x7, x8, y3, y4, y5, y9, b10, l10, c10, hx, rfl, hs, hk, hz⟩; have HS4 : Hid (XS W3 (w2.heap.size + 1) (w.heap.size + 1 + 1) w1.heap.size w2.heap.size (fun _ => 0) q w4) := hs; have HE4 := HidOf hx; have HZ4 : Hid (w4.heap[w.heap.size + 1]? = some (.cells #[.int .i64 0, .int .i64 0, .int .i64 0, .string ⟨#[]⟩, .string ⟨#[]⟩, .string ⟨#[]⟩, .int .i64 0, .int .i64 0, .int .i64 0, .string ⟨#[]⟩, .slice none 0 0] 43)) := (hk _ (by omega) (by omega) (by omega)).trans HZ3.out; have HB4 : Hid (Below w.heap.size w w4) := HB3.out.trans ((hs.low (B0 := w.heap.size) (by omega) (by omega) hz3).mono (Nat.le_refl _)); clear hs hx hk hz HXS HPH HZ3 HB3)
  obtain ⟨W5, hW5⟩ : ∃ W, W = w4.alloc (.cells #[.int .i64 x0, .int .i64 x1, .int .i64 x2, .string y3, .string y4, .string y5, .int .i64 x6, .int .i64 x7, .int .i64 x8, .string y9, .slice b10 l10 c10] 43) := ⟨_, rfl⟩
  have HB5 : Hid (Below w.heap.size w W5) := by rw [hW5]; exact HB4.out.alloc HB4.out.size _
  have HL5 : Hid (W5.heap[w2.heap.size + 1]? = some (.cells #[.map (some (w.heap.size + 1 + 1)), .map (some w1.heap.size), .map (some w2.heap.size), .int .i64 (q : Int), .int .i64 0] 78)) := by rw [hW5]; exact aOld HS4.out.l
  have HZ5 : Hid (W5.heap[w.heap.size + 1]? = some (.cells #[.int .i64 0, .int .i64 0, .int .i64 0, .string ⟨#[]⟩, .string ⟨#[]⟩, .string ⟨#[]⟩, .int .i64 0, .int .i64 0, .int .i64 0, .string ⟨#[]⟩, .slice none 0 0] 43)) := by rw [hW5]; exact aOld HZ4.out
  have HX5 : Hid (W5.heap[w4.heap.size]? = some (.cells #[.int .i64 x0, .int .i64 x1, .int .i64 x2, .string y3, .string y4, .string y5, .int .i64 x6, .int .i64 x7, .int .i64 x8, .string y9, .slice b10 l10 c10] 43)) := by rw [hW5]; exact aNew rfl
  have hx5 : w4.heap.size < W5.heap.size := (Array.getElem?_eq_some_iff.1 HX5.out).1
  have HEV : Hid (X.V W5 W5.heap.size (.agg #[.int .i64 x0, .int .i64 x1, .int .i64 x2, .string y3, .string y4, .string y5, .int .i64 x6, .int .i64 x7, .int .i64 x8, .string y9, .slice b10 l10 c10])) := by
    have h := (Ex.W.keep (w' := W5) (S' := fun b => b < W5.heap.size) (fun b q => by omega) (fun b q => by rw [hW5]; exact Below.heap_alloc _ _ _ q.2) HE4.out)
    exact h.val (fun b q => q)
  have CC : Hid (Calls Tryz.prog 27 #[.agg #[.int .i64 x0, .int .i64 x1, .int .i64 x2, .string y3, .string y4, .string y5, .int .i64 x6, .int .i64 x7, .int .i64 x8, .string y9, .slice b10 l10 c10]] W5 fun e w' => e = .returned (.int .i64 c) ∧ Below W5.heap.size W5 w') := by
    have h := check_is W5.heap.size X _ W5 HEV.out (Nat.le_refl _) (fun V hV => HTT.out V (HB5.out.trans (hV.mono HB5.out.size))) hN
    rw [hc] at h
    exact h
  have CT : Hid (Calls Tryz.prog 26 #[.pointer (some ⟨w2.heap.size + 1, 0, none⟩)] W5 fun e w' => e = .returned (.bool false) ∧ w' = W5) := tooMany_is _ _ _ _ q 0 _ W5 HL5.out hq
  have hz5 := HB5.out.size
  obtain ⟨_, _, _, _, m4, m5, m6⟩ := bk5 HL5.out
  obtain ⟨p0, p1, p2, p3, p4, p5, p6, p7, p8, p9, p10, _, _⟩ := bk11 HX5.out
  rw [← hW5]
  clear hW5 HS4 HE4 HZ4 HB4 HEV
  by_cases h0 : c = 0
  · subst h0
    go_upto_region 10 with (first
      | (go_at_call 26; refine CT.out.mono ?_; rintro e w6 ⟨rfl, hw6⟩; obtain rfl := hw6.symm; clear CT)
      | (go_at_call 27; refine CC.out.mono ?_; rintro e w7 ⟨rfl, hb7⟩; have HX7 := hidC (blC hb7 hx5 HX5.out); have HZ7 := hidC (blC hb7 (Array.getElem?_eq_some_iff.1 HZ5.out).1 HZ5.out); have HB7 : Hid (Below w.heap.size w w7) := HB5.out.trans (hb7.mono hz5); clear hb7 CC))
    clear p0 p1 p2 p3 p4 p5 p6 p7 p8 p9 p10
    obtain ⟨p0, p1, p2, p3, p4, p5, p6, p7, p8, p9, p10, _, _⟩ := bk11 HX7.out
    obtain ⟨z0, z1, z2, z3, z4, z5, z6, z7, z8, z9, z10, zf, _⟩ := bk11 HZ7.out
    go_wp2
    obtain ⟨W8, hW8⟩ : ∃ W, W = (((((((((((w7).setCell ⟨w.heap.size + 1, 0, none⟩ (.int .i64 x0)).setCell ⟨w.heap.size + 1, 1, none⟩ (.int .i64 x1)).setCell ⟨w.heap.size + 1, 2, none⟩ (.int .i64 x2)).setCell ⟨w.heap.size + 1, 3, none⟩ (.string y3)).setCell ⟨w.heap.size + 1, 4, none⟩ (.string y4)).setCell ⟨w.heap.size + 1, 5, none⟩ (.string y5)).setCell ⟨w.heap.size + 1, 6, none⟩ (.int .i64 x6)).setCell ⟨w.heap.size + 1, 7, none⟩ (.int .i64 x7)).setCell ⟨w.heap.size + 1, 8, none⟩ (.int .i64 x8)).setCell ⟨w.heap.size + 1, 9, none⟩ (.string y9)).setCell ⟨w.heap.size + 1, 10, none⟩ (.slice b10 l10 c10) := ⟨_, rfl⟩
    have hW9 : W8 = putL w7 (w.heap.size + 1) 0 [.int .i64 x0, .int .i64 x1, .int .i64 x2, .string y3, .string y4, .string y5, .int .i64 x6, .int .i64 x7, .int .i64 x8, .string y9, .slice b10 l10 c10] := hW8
    have HZ8 : Hid (W8.heap[w.heap.size + 1]? = some (.cells #[.int .i64 x0, .int .i64 x1, .int .i64 x2, .string y3, .string y4, .string y5, .int .i64 x6, .int .i64 x7, .int .i64 x8, .string y9, .slice b10 l10 c10] 43)) := by rw [hW9]; exact putL_same HZ7.out _ rfl
    have HB8 : Hid (Below w.heap.size w W8) := by rw [hW9]; exact putL_below (by omega) _ _ _ HB7.out
    rw [← hW8]
    clear hW8 hW9
    obtain ⟨v0, v1, v2, v3, v4, v5, v6, v7, v8, v9, v10, _, _⟩ := bk11 HZ8.out
    exact bodyPost_ret (v := .tuple #[.agg #[.int .i64 x0, .int .i64 x1, .int .i64 x2, .string y3, .string y4, .string y5, .int .i64 x6, .int .i64 x7, .int .i64 x8, .string y9, .slice b10 l10 c10], .int .i64 0]) (by simp [results, Tryz.results10, go_sem, v0, v1, v2, v3, v4, v5, v6, v7, v8, v9, v10]) rfl ⟨_, ⟨x0, x1, x2, x6, x7, x8, y3, y4, y5, y9, b10, l10, c10, rfl⟩, rfl, HB8.out⟩
  · have hc1 : (c != 0) = true := by simpa using h0
    have hc2 : (c == 0) = false := by simpa using h0
    go_upto_region 9 with (first
      | (go_at_call 26; refine CT.out.mono ?_; rintro e w6 ⟨rfl, hw6⟩; obtain rfl := hw6.symm; clear CT)
      | (go_at_call 27; refine CC.out.mono ?_; rintro e w7 ⟨rfl, hb7⟩; have HZ7 := hidC (blC hb7 (Array.getElem?_eq_some_iff.1 HZ5.out).1 HZ5.out); have HB7 : Hid (Below w.heap.size w w7) := HB5.out.trans (hb7.mono hz5); clear hb7 CC))
    clear p0 p1 p2 p3 p4 p5 p6 p7 p8 p9 p10
    obtain ⟨z0, z1, z2, z3, z4, z5, z6, z7, z8, z9, z10, zf, _⟩ := bk11 HZ7.out
    go_wp2
    obtain ⟨W8, hW8⟩ : ∃ W, W = (((((((((((w7).setCell ⟨w.heap.size + 1, 0, none⟩ (.int .i64 0)).setCell ⟨w.heap.size + 1, 1, none⟩ (.int .i64 0)).setCell ⟨w.heap.size + 1, 2, none⟩ (.int .i64 0)).setCell ⟨w.heap.size + 1, 3, none⟩ (.string ⟨#[]⟩)).setCell ⟨w.heap.size + 1, 4, none⟩ (.string ⟨#[]⟩)).setCell ⟨w.heap.size + 1, 5, none⟩ (.string ⟨#[]⟩)).setCell ⟨w.heap.size + 1, 6, none⟩ (.int .i64 0)).setCell ⟨w.heap.size + 1, 7, none⟩ (.int .i64 0)).setCell ⟨w.heap.size + 1, 8, none⟩ (.int .i64 0)).setCell ⟨w.heap.size + 1, 9, none⟩ (.string ⟨#[]⟩)).setCell ⟨w.heap.size + 1, 10, none⟩ (.slice none 0 0) := ⟨_, rfl⟩
    have hW9 : W8 = putL w7 (w.heap.size + 1) 0 [.int .i64 0, .int .i64 0, .int .i64 0, .string ⟨#[]⟩, .string ⟨#[]⟩, .string ⟨#[]⟩, .int .i64 0, .int .i64 0, .int .i64 0, .string ⟨#[]⟩, .slice none 0 0] := hW8
    have HZ8 : Hid (W8.heap[w.heap.size + 1]? = some (.cells #[.int .i64 0, .int .i64 0, .int .i64 0, .string ⟨#[]⟩, .string ⟨#[]⟩, .string ⟨#[]⟩, .int .i64 0, .int .i64 0, .int .i64 0, .string ⟨#[]⟩, .slice none 0 0] 43)) := by rw [hW9]; exact putL_same HZ7.out _ rfl
    have HB8 : Hid (Below w.heap.size w W8) := by rw [hW9]; exact putL_below (by omega) _ _ _ HB7.out
    rw [← hW8]
    clear hW8 hW9
    obtain ⟨v0, v1, v2, v3, v4, v5, v6, v7, v8, v9, v10, _, _⟩ := bk11 HZ8.out
    exact bodyPost_ret (v := .tuple #[.agg #[.int .i64 0, .int .i64 0, .int .i64 0, .string ⟨#[]⟩, .string ⟨#[]⟩, .string ⟨#[]⟩, .int .i64 0, .int .i64 0, .int .i64 0, .string ⟨#[]⟩, .slice none 0 0], .int .i64 c]) (by simp [results, Tryz.results10, go_sem, v0, v1, v2, v3, v4, v5, v6, v7, v8, v9, v10]) rfl ⟨_, ⟨0, 0, 0, 0, 0, 0, ⟨#[]⟩, ⟨#[]⟩, ⟨#[]⟩, ⟨#[]⟩, none, 0, 0, rfl⟩, rfl, HB8.out⟩
end Go.Proofs.YtcbpjgnbdpfiiaaGreatDoor
