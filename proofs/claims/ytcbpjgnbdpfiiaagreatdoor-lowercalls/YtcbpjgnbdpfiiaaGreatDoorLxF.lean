/-
  CONTRACT of package core: Lower of a phrase that is refused ahead of its parts.
-/
import Derived.Test.YtcbpjgnbdpfiiaaGreatDoorLxE
set_option linter.unusedVariables false
namespace Go.Proofs.YtcbpjgnbdpfiiaaGreatDoor
set_option maxRecDepth 100000
open Go.RowKit Go.WideShapes

attribute [local go_sem] Oper.semAt_some
set_option maxHeartbeats 6400000 in
theorem lower_refused (ph : Ph) (v : List Value) (w : World) (hv : ph.V w (fun b => b < w.heap.size) v) (hT : Tabs w) (R : Int) (hR : ¬ R = 0) (ha : ∀ (W : World) (lb tb ob sb : Nat) (S : Nat → Prop) (pb po : Nat) (u : List Value), XB W lb tb ob sb → XS W lb tb ob sb (fun _ => 0) 0 W → PhIn W lb sb pb po ph S u → Calls Tryz.prog 48 #[.pointer (some ⟨lb, 0, none⟩), .pointer (some ⟨pb, po, none⟩)] W fun e w' => e = .returned (.int .i64 R) ∧ Below W.heap.size W w') :
    Calls Tryz.prog 10 #[.agg v.toArray] w fun e w' => e = .returned (.tuple #[noEx, .int .i64 R]) ∧ Below w.heap.size w w' := by
  have CA := HidOf ha
  have hR1 : (R == 0) = false := by simpa using hR
  clear ha
  have CK : Hid (∀ W, Calls Tryz.prog 23 #[] W fun e w' => e = .returned (.map (some W.heap.size)) ∧ VMap w' W.heap.size callsV ∧ Below W.heap.size W w') := calls_is
  have CO : Hid (∀ W, Calls Tryz.prog 24 #[] W fun e w' => e = .returned (.map (some W.heap.size)) ∧ VMap w' W.heap.size opersV ∧ Below W.heap.size W w') := operators_is
  have HTT : Hid (∀ W, Below w.heap.size w W → Tabs W) := fun W hW => Utf8Tabs_below hT hW
  have HV0 := HidOf hv
  have hmm := @run_makeMap Tryz.prog
  obtain ⟨k0_1, k1_1, k2_1, k5_1, k6_1, k7_1, s3_1, s4_1, s8_1, a9_1, a10_1, l9_1, c9_1, l10_1, c10_1, rfl⟩ := hv.form
  clear hv hT
  go_enter Tryz.func10, Tryz.ntmps10
  go_upto_region 2 with (first
    | (go_at_call 23; refine (CK.out _).mono ?_; rintro e w1 ⟨rfl, hv1, hb1⟩; have HV1 : Hid (VMap w1 (w.heap.size + 1 + 1) callsV) := (by have e := hv1; rw [size_two] at e; exact e); have HB1 : Hid (Below w.heap.size w w1) := Below.trans (((Below.refl _ _).alloc (Nat.le_refl _) _).alloc (by simp) _) (hb1.mono (by simp; omega)); have HP1 := hidC ((hb1.block w.heap.size (by simp; omega)).trans (aOld (aNew rfl))); have HZ1 := hidC ((hb1.block (w.heap.size + 1) (by simp)).trans (aNew (by simp))); have hz1 := HB1.out.size; clear hb1 hv1)
    | (go_at_call 24; refine (CO.out _).mono ?_; rintro e w2 ⟨rfl, hv2, hb2⟩; have HB2 : Hid (Below w.heap.size w w2) := HB1.out.trans (hb2.mono hz1); have HV2 := hidC hv2; have HV1b := hidC (HV1.out.keep (hb2.block _ HV1.out.lt)); have hl1 : w.heap.size + 1 + 1 < w1.heap.size := HV1.out.lt; have HP2 := hidC (blC hb2 (Array.getElem?_eq_some_iff.1 HP1.out).1 HP1.out); have HZ2 := hidC (blC hb2 (Array.getElem?_eq_some_iff.1 HZ1.out).1 HZ1.out); have hz2 := HB2.out.size; have hz12 : w1.heap.size < w2.heap.size := HV2.out.lt; clear hb2 hv2))
  obtain ⟨W3, hW3⟩ : ∃ W, W = (w2.alloc (.map #[] 0)).alloc (.cells #[.map (some (w.heap.size + 1 + 1)), .map (some w1.heap.size), .map (some w2.heap.size), .int .i64 0, .int .i64 0] 78) := ⟨_, rfl⟩
  have HB3 : Hid (Below w.heap.size w W3) := by rw [hW3]; exact (HB2.out.alloc hz2 _).alloc (by simp; omega) _
  have HL3 : Hid (W3.heap[w2.heap.size + 1]? = some (.cells #[.map (some (w.heap.size + 1 + 1)), .map (some w1.heap.size), .map (some w2.heap.size), .int .i64 ((0 : Nat) : Int), .int .i64 0] 78)) := by rw [hW3]; exact aNew (by simp)
  have HS3 : Hid (SMap W3 w2.heap.size (fun _ => 0)) := by rw [hW3]; exact (SMap.made w2).keep (Below.heap_alloc _ _ _ (by simp))
  have HVA3 : Hid (VMap W3 (w.heap.size + 1 + 1) callsV) := by rw [hW3]; exact (HV1b.out.alloc _).alloc _
  have HVB3 : Hid (VMap W3 w1.heap.size opersV) := by rw [hW3]; exact (HV2.out.alloc _).alloc _
  have HP3 : Hid (W3.heap[w.heap.size]? = some (.cells #[.int .i64 k0_1, .int .i64 k1_1, .int .i64 k2_1, .string s3_1, .string s4_1, .int .i64 k5_1, .int .i64 k6_1, .int .i64 k7_1, .string s8_1, .slice a9_1 l9_1 c9_1, .slice a10_1 l10_1 c10_1] 38)) := by rw [hW3]; exact aOld (aOld HP2.out)
  have HZ3 : Hid (W3.heap[w.heap.size + 1]? = some (.cells #[.int .i64 0, .int .i64 0, .int .i64 0, .string ⟨#[]⟩, .string ⟨#[]⟩, .string ⟨#[]⟩, .int .i64 0, .int .i64 0, .int .i64 0, .string ⟨#[]⟩, .slice none 0 0] 43)) := by rw [hW3]; exact aOld (aOld HZ2.out)
  rw [← hW3]
  have hz3 : w2.heap.size + 1 < W3.heap.size := (Array.getElem?_eq_some_iff.1 HL3.out).1
  have hz03 := HB3.out.size
  have HXB : Hid (XB W3 (w2.heap.size + 1) (w.heap.size + 1 + 1) w1.heap.size w2.heap.size) := ⟨HVA3.out, HVB3.out, by omega, by omega, by omega, by omega, by omega, hz3, by omega, w.heap.size, ⟨by omega, by omega⟩, fun W hW => HTT.out W (HB3.out.trans hW)⟩
  have HXS : Hid (XS W3 (w2.heap.size + 1) (w.heap.size + 1 + 1) w1.heap.size w2.heap.size (fun _ => 0) 0 W3) := XS.refl HL3.out HS3.out
  have HPH : Hid (PhIn W3 (w2.heap.size + 1) w2.heap.size w.heap.size 0 ph (fun b => b ≤ w.heap.size) [.int .i64 k0_1, .int .i64 k1_1, .int .i64 k2_1, .string s3_1, .string s4_1, .int .i64 k5_1, .int .i64 k6_1, .int .i64 k7_1, .string s8_1, .slice a9_1 l9_1 c9_1, .slice a10_1 l10_1 c10_1]) := ⟨fun j hj => by
      rw [Nat.zero_add]
      simp only [World.cell?, HP3.out]
      simp, Ph.V.keep (fun b q => Nat.le_of_lt q) (fun b q => HB3.out.block b q) HV0.out, Nat.le_refl _, fun b q => ⟨by omega, by omega, by omega⟩⟩
  clear hW3 HP1 HP2 HZ1 HZ2 HB1 HB2 CK CO HV1 HV1b HV2 HL3 HS3 HVA3 HVB3 HP3
  have CE : Hid (Calls Tryz.prog 25 #[.pointer (some ⟨w2.heap.size + 1, 0, none⟩), .pointer (some ⟨w.heap.size, 0, none⟩)] W3 fun e w' => e = .returned noEx ∧ w'.heap[w2.heap.size + 1]? = some (.cells #[.map (some (w.heap.size + 1 + 1)), .map (some w1.heap.size), .map (some w2.heap.size), .int .i64 ((0 : Nat) : Int), .int .i64 R] 78) ∧ (∀ b, b < W3.heap.size → b ≠ w2.heap.size + 1 → w'.heap[b]? = W3.heap[b]?) ∧ Below (w2.heap.size + 1) W3 w') :=
    expr_bad (w2.heap.size + 1) _ _ _ 0 w.heap.size 0 R W3 hR HXS.out.l (fun W hW => by
      have hs := HXS.out.below hW
      exact CA.out W _ _ _ _ _ _ _ _ (HXB.out.at hs) hs.here (HPH.out.at hs))
  unfold Hid at HZ3
  unfold noEx at CE
  have HZ4 := hidC HZ3
  have hly : w.heap.size + 1 < W3.heap.size := (Array.getElem?_eq_some_iff.1 HZ3).1
  clear HZ3 hR CA HXB HXS HPH
  go_upto_region 4 with (go_at_call 25; refine CE.out.mono ?_; rintro e w4 ⟨rfl, hl4, ho4, hb4⟩; have HL4 := hidC hl4; have HZ5 := hidC ((ho4 _ hly (by omega)).trans HZ4.out); have HB4 : Hid (Below w.heap.size w w4) := HB3.out.trans (hb4.mono (by omega)); obtain ⟨_, _, _, _, m4, m5, m6⟩ := bk5 hl4; have hz4 := HB4.out.size; clear hl4 ho4 hb4)
  obtain ⟨W5, hW5⟩ : ∃ W, W = w4.alloc (.cells #[.int .i64 0, .int .i64 0, .int .i64 0, .string ⟨#[]⟩, .string ⟨#[]⟩, .string ⟨#[]⟩, .int .i64 0, .int .i64 0, .int .i64 0, .string ⟨#[]⟩, .slice none 0 0] 43) := ⟨_, rfl⟩
  have HB5 : Hid (Below w.heap.size w W5) := by rw [hW5]; exact HB4.out.alloc hz4 _
  have HL5 : Hid (W5.heap[w2.heap.size + 1]? = some (.cells #[.map (some (w.heap.size + 1 + 1)), .map (some w1.heap.size), .map (some w2.heap.size), .int .i64 ((0 : Nat) : Int), .int .i64 R] 78)) := by rw [hW5]; exact aOld HL4.out
  have HZ6 : Hid (W5.heap[w.heap.size + 1]? = some (.cells #[.int .i64 0, .int .i64 0, .int .i64 0, .string ⟨#[]⟩, .string ⟨#[]⟩, .string ⟨#[]⟩, .int .i64 0, .int .i64 0, .int .i64 0, .string ⟨#[]⟩, .slice none 0 0] 43)) := by rw [hW5]; exact aOld HZ5.out
  rw [← hW5]
  clear hW5 m4 m5 m6 HL4 HZ5 HB4 hz4 HZ4 HB3 CE
  refine wp_region_slots (by kernel_rfl) (fun j v _ => match j with | 0 => v = (.agg #[.int .i64 0, .int .i64 0, .int .i64 0, .string ⟨#[]⟩, .string ⟨#[]⟩, .string ⟨#[]⟩, .int .i64 0, .int .i64 0, .int .i64 0, .string ⟨#[]⟩, .slice none 0 0]) | 1 => v = .pointer (some ⟨w2.heap.size + 1, 4, none⟩) | 2 => v = .int .i64 R | 4 => v = .int .i64 R | _ => True)
    (fun l _ W => Below w.heap.size w W ∧ W.heap[w2.heap.size + 1]? = some (.cells #[.map (some (w.heap.size + 1 + 1)), .map (some w1.heap.size), .map (some w2.heap.size), .int .i64 ((0 : Nat) : Int), .int .i64 R] 78) ∧ W.heap[w.heap.size + 1]? = some (.cells #[.int .i64 0, .int .i64 0, .int .i64 0, .string ⟨#[]⟩, .string ⟨#[]⟩, .string ⟨#[]⟩, .int .i64 0, .int .i64 0, .int .i64 0, .string ⟨#[]⟩, .slice none 0 0] 43))
    (by kernel_rfl) (by kernel_rfl) ⟨HB5.out.trans ⟨rfl, rfl, rfl, Nat.le_refl _, fun _ _ => rfl⟩, HL5.out, HZ6.out⟩ ?_ ?_
  · intro l a W i o hsz h ho hl haf
    obtain ⟨g1, g2, g3⟩ := h.more
    have hi : i < 5 := (Array.getElem?_eq_some_iff.1 ho).1
    obtain rfl | rfl | rfl | rfl | rfl : i = 0 ∨ i = 1 ∨ i = 2 ∨ i = 3 ∨ i = 4 := by omega
    all_goals (obtain rfl := Option.some.inj ho; rw [if_pos (want_none rfl)])
    · refine wp_val (v := .agg #[.int .i64 0, .int .i64 0, .int .i64 0, .string ⟨#[]⟩, .string ⟨#[]⟩, .string ⟨#[]⟩, .int .i64 0, .int .i64 0, .int .i64 0, .string ⟨#[]⟩, .slice none 0 0]) (w' := W) ?_ ⟨_, rfl, rfl, fun _ _ h => h, g1, g2, g3⟩
      unfold execOp
      simp [go_sem]
    · have e8 := h.given 4 _ rfl (by kernel_rfl)
      refine wp_val (v := .pointer (some ⟨w2.heap.size + 1, 4, none⟩)) (w' := W) ?_ ⟨_, rfl, rfl, fun _ _ h => h, g1, g2, g3⟩
      unfold execOp
      simp [e8, go_sem]
    · obtain ⟨u1, e1, d1⟩ := h.new 1 _ 16 rfl rfl (haf ⟨1, .data⟩ (by simp) rfl)
      have d1' : u1 = .pointer (some ⟨w2.heap.size + 1, 4, none⟩) := d1
      subst d1'
      obtain ⟨_, _, _, _, m4, _, _⟩ := bk5 g2
      refine wp_val (v := .int .i64 R) (w' := W) ?_ ⟨_, rfl, rfl, fun _ _ h => h, g1, g2, g3⟩
      unfold execOp
      simp [e1, go_sem, m4]
    · obtain ⟨u1, e1, d1⟩ := h.new 0 _ 15 rfl rfl (haf ⟨0, .data⟩ (by simp) rfl)
      have d1' : u1 = (.agg #[.int .i64 0, .int .i64 0, .int .i64 0, .string ⟨#[]⟩, .string ⟨#[]⟩, .string ⟨#[]⟩, .int .i64 0, .int .i64 0, .int .i64 0, .string ⟨#[]⟩, .slice none 0 0]) := d1
      subst d1'
      have e8 := h.given 2 _ rfl (by kernel_rfl)
      obtain ⟨z0, z1, z2, z3, z4, z5, z6, z7, z8, z9, z10, z11, z12⟩ := bk11 g3
      refine wp_skip (w' := (((((((((((W).setCell ⟨w.heap.size + 1, 0, none⟩ (.int .i64 0)).setCell ⟨w.heap.size + 1, 1, none⟩ (.int .i64 0)).setCell ⟨w.heap.size + 1, 2, none⟩ (.int .i64 0)).setCell ⟨w.heap.size + 1, 3, none⟩ (.string ⟨#[]⟩)).setCell ⟨w.heap.size + 1, 4, none⟩ (.string ⟨#[]⟩)).setCell ⟨w.heap.size + 1, 5, none⟩ (.string ⟨#[]⟩)).setCell ⟨w.heap.size + 1, 6, none⟩ (.int .i64 0)).setCell ⟨w.heap.size + 1, 7, none⟩ (.int .i64 0)).setCell ⟨w.heap.size + 1, 8, none⟩ (.int .i64 0)).setCell ⟨w.heap.size + 1, 9, none⟩ (.string ⟨#[]⟩)).setCell ⟨w.heap.size + 1, 10, none⟩ (.slice none 0 0)) ?_ ⟨_, rfl, trivial, fun _ _ h => h, ?_⟩
      · unfold execOp
        simp [e1, e8, go_sem, z0, z1, z2, z3, z4, z5, z6, z7, z8, z9, z10, z11]
      · have k1 := putL_below (w0 := w) (B := w.heap.size) (b := w.heap.size + 1) (Nat.le_succ _) [.int .i64 0, .int .i64 0, .int .i64 0, .string ⟨#[]⟩, .string ⟨#[]⟩, .string ⟨#[]⟩, .int .i64 0, .int .i64 0, .int .i64 0, .string ⟨#[]⟩, .slice none 0 0] W 0 g1
        have k2 := (putL_other (b := w.heap.size + 1) (c := w2.heap.size + 1) (by omega) [.int .i64 0, .int .i64 0, .int .i64 0, .string ⟨#[]⟩, .string ⟨#[]⟩, .string ⟨#[]⟩, .int .i64 0, .int .i64 0, .int .i64 0, .string ⟨#[]⟩, .slice none 0 0] W 0).trans g2
        have k3 := putL_same g3 [.int .i64 0, .int .i64 0, .int .i64 0, .string ⟨#[]⟩, .string ⟨#[]⟩, .string ⟨#[]⟩, .int .i64 0, .int .i64 0, .int .i64 0, .string ⟨#[]⟩, .slice none 0 0] rfl
        exact ⟨k1, k2, k3⟩
    · obtain ⟨u1, e1, d1⟩ := h.new 2 _ 17 rfl rfl (haf ⟨2, .data⟩ (by simp) rfl)
      have d1' : u1 = .int .i64 R := d1
      subst d1'
      refine wp_val (v := .int .i64 R) (w' := W) ?_ ⟨_, rfl, rfl, fun _ _ h => h, g1, g2, g3⟩
      unfold execOp
      simp [e1, go_sem]
  · intro v W hv hs hg
    obtain ⟨g1, g2, g3⟩ := hg
    have d4 : v 4 = .int .i64 R := hv 4 _ 3 rfl rfl
    simp only [putAll, d4]
    obtain ⟨y0, y1, y2, y3, y4, y5, y6, y7, y8, y9, y10, _, _⟩ := bk11 g3
    have HB6 := hidC g1
    clear hv hs d4 g1 g2 g3
    go_wp2_with fail
    exact bodyPost_ret (v := .tuple #[.agg #[.int .i64 0, .int .i64 0, .int .i64 0, .string ⟨#[]⟩, .string ⟨#[]⟩, .string ⟨#[]⟩, .int .i64 0, .int .i64 0, .int .i64 0, .string ⟨#[]⟩, .slice none 0 0], .int .i64 R]) (by simp [results, Tryz.results10, go_sem, y0, y1, y2, y3, y4, y5, y6, y7, y8, y9, y10]) rfl ⟨rfl, HB6.out⟩
end Go.Proofs.YtcbpjgnbdpfiiaaGreatDoor
