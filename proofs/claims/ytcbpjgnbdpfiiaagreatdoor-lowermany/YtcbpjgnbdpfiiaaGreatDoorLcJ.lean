/-
  CONTRACTS of package core: the names of a clause.
-/
import Derived.Test.YtcbpjgnbdpfiiaaGreatDoorPtPath
import Derived.Laws.OwnMore
import Derived.Test.YtcbpjgnbdpfiiaaGreatDoorLcG
import Derived.Test.YtcbpjgnbdpfiiaaGreatDoorUnroll
set_option linter.unusedVariables false
namespace Go.Proofs.YtcbpjgnbdpfiiaaGreatDoor
set_option maxRecDepth 100000
open Go.RowKit

set_option maxHeartbeats 1600000 in
theorem operatorNext_no {w : World} {pb b c : Nat} {T : List Tok} {st : Pst} (h : PaS w pb b c T st) (hT : T.length ≤ 200) (hat : st.at' ≤ 300) {us : ByteArray} {uk un : Int} (hu : seeM T st 0 = ⟨uk, us, un⟩) (q1 : (uk == 1) = false) (q5 : (uk == 5) = false) (bd : Int) :
    Calls Tryz.prog 142 #[.pointer (some ⟨pb, 0, none⟩), .int .i64 bd] w fun e w' => e = .returned (.bool false) ∧ Below w.heap.size w w' := by
  have CS : Hid (∀ W, Below w.heap.size w W → Calls Tryz.prog 70 #[.pointer (some ⟨pb, 0, none⟩), .int .i64 0] W fun e w' => e = .returned (.agg #[.int .i64 uk, .string us, .int .i64 un]) ∧ Below w.heap.size w w') := fun W hW => (see_lit (h.below hW) 0 (by omega) hT hat hu).mono fun e w' ⟨k1, k2⟩ => ⟨k1, hW.trans (k2.mono hW.size)⟩
  have q1' : (uk != 1) = true := by simp only [bne, q1]; rfl
  have q5' : (uk != 5) = true := by simp only [bne, q5]; rfl
  have HB0 : Hid (Below w.heap.size w w) := Below.refl _ _
  clear h
  go_enter Tryz.func142, Tryz.ntmps142
  go_wp2_with (first
    | (go_at_call 70; have HNX := HB0; (first | refine (CS.out _ HB0.out).mono ?_ | refine (CS.out _ (HB0.out.alloc HB0.out.size _)).mono ?_); rintro e w1 ⟨rfl, hb⟩; have HB1 : Hid (Below w.heap.size w w1) := hb; clear hb HNX HB0))
  go_ret
  exact ⟨rfl, by first | exact HB1.out | exact HB1.out.alloc HB1.out.size _⟩
set_option maxHeartbeats 1600000 in
theorem operatorNext_1 {w : World} {pb b c : Nat} {T : List Tok} {st : Pst} (h : PaS w pb b c T st) (hT : T.length ≤ 200) (hat : st.at' ≤ 300) {us : ByteArray} {un : Int} (hu : seeM T st 0 = ⟨1, us, un⟩) (bd : Int) (ho : OpTab w) :
    Calls Tryz.prog 142 #[.pointer (some ⟨pb, 0, none⟩), .int .i64 bd] w fun e w' => e = .returned (.bool (decide (0 ≤ opOf us) && (opOf us == bd))) ∧ Below w.heap.size w w' := by
  have CS : Hid (∀ W, Below w.heap.size w W → Calls Tryz.prog 70 #[.pointer (some ⟨pb, 0, none⟩), .int .i64 0] W fun e w' => e = .returned (.agg #[.int .i64 1, .string us, .int .i64 un]) ∧ Below w.heap.size w w') := fun W hW => (see_lit (h.below hW) 0 (by omega) hT hat hu).mono fun e w' ⟨k1, k2⟩ => ⟨k1, hW.trans (k2.mono hW.size)⟩
  have HO : Hid (∀ W, Below w.heap.size w W → OpTab W) := fun W hW => ho.below hW
  obtain ⟨R, hR⟩ : ∃ R, R = (decide (0 ≤ opOf us) && (opOf us == bd)) := ⟨_, rfl⟩
  rw [← hR]
  replace hR : Hid (R = (decide (0 ≤ opOf us) && (opOf us == bd))) := hR
  clear ho
  have HB0 : Hid (Below w.heap.size w w) := Below.refl _ _
  clear h
  go_enter Tryz.func142, Tryz.ntmps142
  go_upto_region 4 with (first | (go_at_call 70; have HNX := HB0; (first | refine (CS.out _ HB0.out).mono ?_ | refine (CS.out _ (HB0.out.alloc HB0.out.size _)).mono ?_); rintro e w1 ⟨rfl, hb⟩; have HB1 : Hid (Below w.heap.size w w1) := hb; clear hb HNX HB0))
  obtain ⟨W2, hW2⟩ : ∃ W, W = w1.alloc (.cells #[.int .i64 1, .string us, .int .i64 un] 50) := ⟨_, rfl⟩
  have HB2 : Hid (Below w.heap.size w W2) := by rw [hW2]; exact HB1.out.alloc HB1.out.size _
  have x1 : W2.cell? ⟨w1.heap.size, 1, none⟩ = some (.string us) := by rw [hW2]; simp
  have hxl : w1.heap.size < W2.heap.size := by rw [hW2]; simp
  have HSS : Hid (∀ W, Below W2.heap.size W2 W → W.cell? ⟨w1.heap.size, 1, none⟩ = some (.string us) ∧ w1.heap.size < W.heap.size) := fun W hb => ⟨(hb.cell (p := ⟨w1.heap.size, 1, none⟩) hxl).trans x1, Nat.lt_of_lt_of_le hxl hb.size⟩
  obtain ⟨tt, fr, hgt⟩ := HO.out W2 HB2.out
  have HGT : Hid (W2.heap[4]? = some (.cells opCells tt fr)) := hgt
  rw [← hW2]
  clear hW2 hgt x1 hxl HB1 CS HO
  go_wp2_with (refine wpList_load_row rfl 189 _ rfl 4 rfl tt _ fr _ HGT.out Tryz.underlying189 rfl (by kernel_rfl) ?_)
  go_loopw [19] (fun i wr => ∃ k : Nat, k ≤ 21 ∧ i = .int .i64 k ∧ Below W2.heap.size W2 wr ∧ Hid (∀ j, j < k → ((opN j).toList == us.toList) = false)) (fun i _ => 21 - (intOf i).toNat)
  case atStart => exact ⟨0, by omega, rfl, Below.refl _ _, fun j hj => absurd hj (by omega)⟩
  case round =>
    obtain ⟨k, hk, rfl, hbw, HN⟩ := hrel
    have HBW : Hid (Below W2.heap.size W2 wr) := hbw
    obtain ⟨y1, yl⟩ := HSS.out _ hbw
    clear hbw
    by_cases hlt : k < 21
    · have hI := op_index k hlt
      have hki : (k : Int) < 21 := by omega
      cases hy : (opN k).toList == us.toList
      · have HN2 : Hid (∀ j, j < k + 1 → ((opN j).toList == us.toList) = false) := fun j hj => by
          by_cases e : j = k
          · rw [e]; exact hy
          · exact HN.out j (by omega)
        generalize opN k = on at hI hy
        generalize opB k = ob at hI
        go_wp2
        go_roundw
        case rel => exact ⟨k + 1, by omega, by go_num, HBW.out.alloc HBW.out.size _, HN2⟩
        case measure => simp [intOf]; omega
      · have HV : Hid (R = (opB k == bd)) := hR.out.trans (by
          have h1 : opOf us = opB k := goF_at hlt HN.out hy
          rw [h1, decide_eq_true (opB_pos k), Bool.true_and])
        generalize opN k = on at hI hy
        generalize opB k = ob at hI HV
        go_wp2
        go_ret
        exact ⟨by rw [HV.out]; rfl, HB2.out.trans ((HBW.out.alloc HBW.out.size _).mono HB2.out.size)⟩
    · have hki : ¬ ((k : Int) < 21) := by omega
      obtain rfl : k = 21 := by omega
      have HV : Hid (R = false) := hR.out.trans (by
        have h1 : opOf us = -1 := goF_none HN.out
        rw [h1]; rfl)
      go_wp2
      go_ret
      exact ⟨by rw [HV.out]; rfl, HB2.out.trans (HBW.out.mono HB2.out.size)⟩
set_option maxHeartbeats 1600000 in
theorem operatorNext_5 {w : World} {pb b c : Nat} {T : List Tok} {st : Pst} (h : PaS w pb b c T st) (hT : T.length ≤ 200) (hat : st.at' ≤ 300) {us : ByteArray} {un : Int} (hu : seeM T st 0 = ⟨5, us, un⟩) (bd : Int) (ho : OpTab w) :
    Calls Tryz.prog 142 #[.pointer (some ⟨pb, 0, none⟩), .int .i64 bd] w fun e w' => e = .returned (.bool (decide (0 ≤ opOf us) && (opOf us == bd))) ∧ Below w.heap.size w w' := by
  have CS : Hid (∀ W, Below w.heap.size w W → Calls Tryz.prog 70 #[.pointer (some ⟨pb, 0, none⟩), .int .i64 0] W fun e w' => e = .returned (.agg #[.int .i64 5, .string us, .int .i64 un]) ∧ Below w.heap.size w w') := fun W hW => (see_lit (h.below hW) 0 (by omega) hT hat hu).mono fun e w' ⟨k1, k2⟩ => ⟨k1, hW.trans (k2.mono hW.size)⟩
  have HO : Hid (∀ W, Below w.heap.size w W → OpTab W) := fun W hW => ho.below hW
  obtain ⟨R, hR⟩ : ∃ R, R = (decide (0 ≤ opOf us) && (opOf us == bd)) := ⟨_, rfl⟩
  rw [← hR]
  replace hR : Hid (R = (decide (0 ≤ opOf us) && (opOf us == bd))) := hR
  clear ho
  have HB0 : Hid (Below w.heap.size w w) := Below.refl _ _
  clear h
  go_enter Tryz.func142, Tryz.ntmps142
  go_upto_region 4 with (first | (go_at_call 70; have HNX := HB0; (first | refine (CS.out _ HB0.out).mono ?_ | refine (CS.out _ (HB0.out.alloc HB0.out.size _)).mono ?_); rintro e w1 ⟨rfl, hb⟩; have HB1 : Hid (Below w.heap.size w w1) := hb; clear hb HNX HB0))
  obtain ⟨W2, hW2⟩ : ∃ W, W = w1.alloc (.cells #[.int .i64 5, .string us, .int .i64 un] 50) := ⟨_, rfl⟩
  have HB2 : Hid (Below w.heap.size w W2) := by rw [hW2]; exact HB1.out.alloc HB1.out.size _
  have x1 : W2.cell? ⟨w1.heap.size, 1, none⟩ = some (.string us) := by rw [hW2]; simp
  have hxl : w1.heap.size < W2.heap.size := by rw [hW2]; simp
  have HSS : Hid (∀ W, Below W2.heap.size W2 W → W.cell? ⟨w1.heap.size, 1, none⟩ = some (.string us) ∧ w1.heap.size < W.heap.size) := fun W hb => ⟨(hb.cell (p := ⟨w1.heap.size, 1, none⟩) hxl).trans x1, Nat.lt_of_lt_of_le hxl hb.size⟩
  obtain ⟨tt, fr, hgt⟩ := HO.out W2 HB2.out
  have HGT : Hid (W2.heap[4]? = some (.cells opCells tt fr)) := hgt
  rw [← hW2]
  clear hW2 hgt x1 hxl HB1 CS HO
  go_wp2_with (refine wpList_load_row rfl 189 _ rfl 4 rfl tt _ fr _ HGT.out Tryz.underlying189 rfl (by kernel_rfl) ?_)
  go_loopw [19] (fun i wr => ∃ k : Nat, k ≤ 21 ∧ i = .int .i64 k ∧ Below W2.heap.size W2 wr ∧ Hid (∀ j, j < k → ((opN j).toList == us.toList) = false)) (fun i _ => 21 - (intOf i).toNat)
  case atStart => exact ⟨0, by omega, rfl, Below.refl _ _, fun j hj => absurd hj (by omega)⟩
  case round =>
    obtain ⟨k, hk, rfl, hbw, HN⟩ := hrel
    have HBW : Hid (Below W2.heap.size W2 wr) := hbw
    obtain ⟨y1, yl⟩ := HSS.out _ hbw
    clear hbw
    by_cases hlt : k < 21
    · have hI := op_index k hlt
      have hki : (k : Int) < 21 := by omega
      cases hy : (opN k).toList == us.toList
      · have HN2 : Hid (∀ j, j < k + 1 → ((opN j).toList == us.toList) = false) := fun j hj => by
          by_cases e : j = k
          · rw [e]; exact hy
          · exact HN.out j (by omega)
        generalize opN k = on at hI hy
        generalize opB k = ob at hI
        go_wp2
        go_roundw
        case rel => exact ⟨k + 1, by omega, by go_num, HBW.out.alloc HBW.out.size _, HN2⟩
        case measure => simp [intOf]; omega
      · have HV : Hid (R = (opB k == bd)) := hR.out.trans (by
          have h1 : opOf us = opB k := goF_at hlt HN.out hy
          rw [h1, decide_eq_true (opB_pos k), Bool.true_and])
        generalize opN k = on at hI hy
        generalize opB k = ob at hI HV
        go_wp2
        go_ret
        exact ⟨by rw [HV.out]; rfl, HB2.out.trans ((HBW.out.alloc HBW.out.size _).mono HB2.out.size)⟩
    · have hki : ¬ ((k : Int) < 21) := by omega
      obtain rfl : k = 21 := by omega
      have HV : Hid (R = false) := hR.out.trans (by
        have h1 : opOf us = -1 := goF_none HN.out
        rw [h1]; rfl)
      go_wp2
      go_ret
      exact ⟨by rw [HV.out]; rfl, HB2.out.trans (HBW.out.mono HB2.out.size)⟩
theorem operatorNext_any {w : World} {pb b c : Nat} {T : List Tok} {st : Pst} (h : PaS w pb b c T st) (hT : T.length ≤ 200) (hat : st.at' ≤ 300) (bd : Int) (ho : OpTab w) : Calls Tryz.prog 142 #[.pointer (some ⟨pb, 0, none⟩), .int .i64 bd] w fun e w' => e = .returned (.bool (opNext (seeM T st 0) bd)) ∧ Below w.heap.size w w' := by
  obtain ⟨⟨uk, us, un⟩, hu⟩ : ∃ u, seeM T st 0 = u := ⟨_, rfl⟩
  rw [hu]
  by_cases e1 : uk = 1
  · subst e1
    have := operatorNext_1 h hT hat hu bd ho
    rwa [show opNext ⟨1, us, un⟩ bd = (decide (0 ≤ opOf us) && (opOf us == bd)) by simp [opNext]]
  by_cases e5 : uk = 5
  · subst e5
    have := operatorNext_5 h hT hat hu bd ho
    rwa [show opNext ⟨5, us, un⟩ bd = (decide (0 ≤ opOf us) && (opOf us == bd)) by simp [opNext]]
  have q1 := beq_eq_false_iff_ne.2 e1
  have q5 := beq_eq_false_iff_ne.2 e5
  have := operatorNext_no h hT hat hu q1 q5 bd
  rwa [show opNext ⟨uk, us, un⟩ bd = false by simp only [opNext, q1, q5]; rfl]
end Go.Proofs.YtcbpjgnbdpfiiaaGreatDoor
set_option linter.unusedVariables false
namespace Go.Proofs.YtcbpjgnbdpfiiaaGreatDoor
set_option maxRecDepth 100000
open Go.RowKit

set_option maxHeartbeats 1600000 in
theorem binary_top {pb b c : Nat} {T : List Tok} {st : Pst} {s1 : Pst} {p : Ph} (hT : T.length ≤ 200) (hat : st.at' ≤ 300) (hlu : RunT pb b c T 141 #[.pointer (some ⟨pb, 0, none⟩)] st s1 p) : RunT pb b c T 121 #[.pointer (some ⟨pb, 0, none⟩), .int .i64 8] st s1 p := by
  intro w h htb
  have HTB : Hid (RTab w pb) := htb
  clear htb
  have HLU : Hid (RunT pb b c T 141 #[.pointer (some ⟨pb, 0, none⟩)] st s1 p) := hlu
  clear hlu
  have hpl := h.pl
  have hbl := h.bl
  go_enter Tryz.func121, Tryz.ntmps121
  go_upto_region 1 with fail
  obtain ⟨W1, hW1⟩ : ∃ W, W = w.alloc (.cells #[.int .i64 0, .int .i64 0, .int .i64 0, .string ⟨#[]⟩, .string ⟨#[]⟩, .int .i64 0, .int .i64 0, .int .i64 0, .string ⟨#[]⟩, .slice none 0 0, .slice none 0 0] 38) := ⟨_, rfl⟩
  have HG1 : Hid (GrowA pb w W1) := by rw [hW1]; exact (GrowA.refl _ _).alloc _
  have HP1 : Hid (PaS W1 pb b c T st) := by rw [hW1]; exact h.allocI _
  have HR1 : Hid (PhB W1 w.heap.size #[.int .i64 0, .int .i64 0, .int .i64 0, .string ⟨#[]⟩, .string ⟨#[]⟩, .int .i64 0, .int .i64 0, .int .i64 0, .string ⟨#[]⟩, .slice none 0 0, .slice none 0 0]) := by rw [hW1]; exact PhB.new w _
  rw [← hW1]
  obtain ⟨r, hr⟩ : ∃ r, r = w.heap.size := ⟨_, rfl⟩
  have HRW : Hid (w.heap.size ≤ r) := Nat.le_of_eq hr.symm
  have hrp : r ≠ pb := by omega
  have hrb : r ≠ b := by omega
  rw [← hr] at HR1 ⊢
  clear hW1 hr h hpl hbl
  go_wp2_with (first
    | (go_at_call 141; (first | refine (HLU.out.use HTB.out HP1.out HG1.out (show r < _ from by have k := HR1.out.lt; first | exact k | (simp; omega))).mono ?_ | refine (HLU.out.use HTB.out (HP1.out.allocI _) (HG1.out.alloc _) (show r < _ from by have k := HR1.out.lt; first | exact k | (simp; omega))).mono ?_ | refine (HLU.out.use HTB.out ((HP1.out.allocI _).allocI _) ((HG1.out.alloc _).alloc _) (show r < _ from by have k := HR1.out.lt; first | exact k | (simp; omega))).mono ?_); rintro e w2 ⟨lo1, v, hlo, hv, rfl, hp, hg⟩; obtain ⟨k0_1, k1_1, k2_1, k5_1, k6_1, k7_1, s3_1, s4_1, s8_1, a9_1, a10_1, l9_1, c9_1, l10_1, c10_1, rfl⟩ := hv.form; have hlo1 := hlo.1; have hlp1 := hlo.2.1; have hlz1 := hlo.2.2; have HG2 : Hid (GrowA pb w w2) := (by first | exact HG1.out.trans hg | exact (HG1.out.alloc _).trans hg | exact ((HG1.out.alloc _).alloc _).trans hg); have HP2 : Hid (PaS w2 pb b c T s1) := hp; have HR2 : Hid (PhB w2 r #[.int .i64 0, .int .i64 0, .int .i64 0, .string ⟨#[]⟩, .string ⟨#[]⟩, .int .i64 0, .int .i64 0, .int .i64 0, .string ⟨#[]⟩, .slice none 0 0, .slice none 0 0]) := (by first | exact HR1.out.grow hg hrp | exact (HR1.out.allocI _).grow hg hrp | exact ((HR1.out.allocI _).allocI _).grow hg hrp); have HV1_2 : Hid (Tre w2 lo1 p [.int .i64 k0_1, .int .i64 k1_1, .int .i64 k2_1, .string s3_1, .string s4_1, .int .i64 k5_1, .int .i64 k6_1, .int .i64 k7_1, .string s8_1, .slice a9_1 l9_1 c9_1, .slice a10_1 l10_1 c10_1]) := hv; obtain ⟨⟨y0, y1, y2, y3, y4, y5, y6, y7, y8, y9, y10⟩, z0, z1, z2, z3, z4, z5, z6, z7, z8, z9, z10⟩ := HR2.out.cells; clear hv hlo hp hg HP1 HG1 HR1))
  refine bodyPost_ret (v := .agg #[.int .i64 k0_1, .int .i64 k1_1, .int .i64 k2_1, .string s3_1, .string s4_1, .int .i64 k5_1, .int .i64 k6_1, .int .i64 k7_1, .string s8_1, .slice a9_1 l9_1 c9_1, .slice a10_1 l10_1 c10_1]) (by simp [results, Tryz.results121, go_sem, y0, y1, y2, y3, y4, y5, y6, y7, y8, y9, y10]) rfl ⟨[.int .i64 k0_1, .int .i64 k1_1, .int .i64 k2_1, .string s3_1, .string s4_1, .int .i64 k5_1, .int .i64 k6_1, .int .i64 k7_1, .string s8_1, .slice a9_1 l9_1 c9_1, .slice a10_1 l10_1 c10_1], ?_, rfl, ?_, ?_⟩
  · (refine Tre.mono (lo := lo1) ?_ (by have := HRW.out; omega); (repeat (first | with_reducible refine Tre.setR ?_ hlo1 _ _ | with_reducible refine Tre.allocI ?_ _ | with_reducible exact HV1_2.out)))
  · (repeat (first | with_reducible refine PaS.setR ?_ hrp hrb _ _ | with_reducible refine PaS.allocI ?_ _ | exact HP2.out))
  · (repeat (first | with_reducible refine GrowA.setR ?_ HRW.out _ _ | with_reducible refine GrowA.alloc ?_ _ | exact HG2.out))
set_option maxHeartbeats 1600000 in
theorem binary_none {pb b c : Nat} {T : List Tok} {st : Pst} {s1 : Pst} {p : Ph} {bd : Nat} (hT : T.length ≤ 200) (hat : st.at' ≤ 300) (hbd : bd < 8) (hat1 : s1.at' ≤ 300) (hn : opNext (seeM T s1 0) bd = false) (hlu : RunT pb b c T 121 #[.pointer (some ⟨pb, 0, none⟩), .int .i64 ((bd + 1 : Nat) : Int)] st s1 p) : RunT pb b c T 121 #[.pointer (some ⟨pb, 0, none⟩), .int .i64 (bd : Int)] st s1 p := by
  intro w h htb
  have HTB : Hid (RTab w pb) := htb
  clear htb
  have HLU : Hid (RunT pb b c T 121 #[.pointer (some ⟨pb, 0, none⟩), .int .i64 ((bd + 1 : Nat) : Int)] st s1 p) := hlu
  clear hlu
  have HON : Hid (∀ {W : World}, PaS W pb b c T s1 → OpTab W → Calls Tryz.prog 142 #[.pointer (some ⟨pb, 0, none⟩), .int .i64 bd] W fun e w' => e = .returned (.bool false) ∧ Below W.heap.size W w') := fun {W} h ho => by have := operatorNext_any h hT hat1 bd ho; rwa [hn] at this
  have hwr : IntKind.i64.wrap ((bd : Int) + 1) = ((bd + 1 : Nat) : Int) := by rw [IntWalk.i64_in _ (by omega)]; simp
  obtain ⟨b1, hb1⟩ : ∃ b1 : Int, b1 = ((bd + 1 : Nat) : Int) := ⟨_, rfl⟩
  rw [← hb1] at hwr HLU
  have h8 : ((bd : Int) == 8) = false := by rw [beq_eq_false_iff_ne]; omega
  clear hb1 hn
  have hpl := h.pl
  have hbl := h.bl
  go_enter Tryz.func121, Tryz.ntmps121
  go_upto_region 1 with fail
  obtain ⟨W1, hW1⟩ : ∃ W, W = w.alloc (.cells #[.int .i64 0, .int .i64 0, .int .i64 0, .string ⟨#[]⟩, .string ⟨#[]⟩, .int .i64 0, .int .i64 0, .int .i64 0, .string ⟨#[]⟩, .slice none 0 0, .slice none 0 0] 38) := ⟨_, rfl⟩
  have HG1 : Hid (GrowA pb w W1) := by rw [hW1]; exact (GrowA.refl _ _).alloc _
  have HP1 : Hid (PaS W1 pb b c T st) := by rw [hW1]; exact h.allocI _
  have HR1 : Hid (PhB W1 w.heap.size #[.int .i64 0, .int .i64 0, .int .i64 0, .string ⟨#[]⟩, .string ⟨#[]⟩, .int .i64 0, .int .i64 0, .int .i64 0, .string ⟨#[]⟩, .slice none 0 0, .slice none 0 0]) := by rw [hW1]; exact PhB.new w _
  rw [← hW1]
  obtain ⟨r, hr⟩ : ∃ r, r = w.heap.size := ⟨_, rfl⟩
  have HRW : Hid (w.heap.size ≤ r) := Nat.le_of_eq hr.symm
  have hrp : r ≠ pb := by omega
  have hrb : r ≠ b := by omega
  rw [← hr] at HR1 ⊢
  clear hW1 hr h hpl hbl
  go_upto_region 4 with (first
    | (go_at_call 121; (first | refine (HLU.out.use HTB.out HP1.out HG1.out (show r < _ from by have k := HR1.out.lt; first | exact k | (simp; omega))).mono ?_ | refine (HLU.out.use HTB.out (HP1.out.allocI _) (HG1.out.alloc _) (show r < _ from by have k := HR1.out.lt; first | exact k | (simp; omega))).mono ?_ | refine (HLU.out.use HTB.out ((HP1.out.allocI _).allocI _) ((HG1.out.alloc _).alloc _) (show r < _ from by have k := HR1.out.lt; first | exact k | (simp; omega))).mono ?_); rintro e w2 ⟨lo1, v, hlo, hv, rfl, hp, hg⟩; obtain ⟨k0_1, k1_1, k2_1, k5_1, k6_1, k7_1, s3_1, s4_1, s8_1, a9_1, a10_1, l9_1, c9_1, l10_1, c10_1, rfl⟩ := hv.form; have hlo1 := hlo.1; have hlp1 := hlo.2.1; have hlz1 := hlo.2.2; have HG2 : Hid (GrowA pb w w2) := (by first | exact HG1.out.trans hg | exact (HG1.out.alloc _).trans hg | exact ((HG1.out.alloc _).alloc _).trans hg); have HP2 : Hid (PaS w2 pb b c T s1) := hp; have HR2 : Hid (PhB w2 r #[.int .i64 0, .int .i64 0, .int .i64 0, .string ⟨#[]⟩, .string ⟨#[]⟩, .int .i64 0, .int .i64 0, .int .i64 0, .string ⟨#[]⟩, .slice none 0 0, .slice none 0 0]) := (by first | exact HR1.out.grow hg hrp | exact (HR1.out.allocI _).grow hg hrp | exact ((HR1.out.allocI _).allocI _).grow hg hrp); have HV1_2 : Hid (Tre w2 lo1 p [.int .i64 k0_1, .int .i64 k1_1, .int .i64 k2_1, .string s3_1, .string s4_1, .int .i64 k5_1, .int .i64 k6_1, .int .i64 k7_1, .string s8_1, .slice a9_1 l9_1 c9_1, .slice a10_1 l10_1 c10_1]) := hv; have hxp : w2.heap.size ≠ pb := (by have := HP2.out.pl; omega); have HO2 : Hid (OpTab w2) := (HTB.out.grow HG2.out).1; clear hv hlo hp hg HP1 HG1 HR1))
  have HV0 : Hid (Tre w2 lo1 p [.int .i64 k0_1, .int .i64 k1_1, .int .i64 k2_1, .string s3_1, .string s4_1, .int .i64 k5_1, .int .i64 k6_1, .int .i64 k7_1, .string s8_1, .slice a9_1 l9_1 c9_1, .slice a10_1 l10_1 c10_1]) := HV1_2.out
  go_loopw [] (fun wr => wr = w2.alloc (.cells #[.int .i64 k0_1, .int .i64 k1_1, .int .i64 k2_1, .string s3_1, .string s4_1, .int .i64 k5_1, .int .i64 k6_1, .int .i64 k7_1, .string s8_1, .slice a9_1 l9_1 c9_1, .slice a10_1 l10_1 c10_1] 38)) (fun _ => 0)
  case atStart => rfl
  case round =>
    subst hrel
    go_wp2_with (first
      | (go_at_call 142; refine (HON.out (HP2.out.allocI _) (HO2.out.below ((Below.refl _ _).alloc (Nat.le_refl _) _))).mono ?_; rintro e w3 ⟨rfl, hb⟩; have HG3 : Hid (GrowA pb w w3) := (HG2.out.alloc _).below hb; have HP3 : Hid (PaS w3 pb b c T s1) := (HP2.out.allocI _).below hb; have HR3 : Hid (PhB w3 r #[.int .i64 0, .int .i64 0, .int .i64 0, .string ⟨#[]⟩, .string ⟨#[]⟩, .int .i64 0, .int .i64 0, .int .i64 0, .string ⟨#[]⟩, .slice none 0 0, .slice none 0 0]) := (HR2.out.allocI _).below hb; have HX3 : Hid (PhB w3 w2.heap.size #[.int .i64 k0_1, .int .i64 k1_1, .int .i64 k2_1, .string s3_1, .string s4_1, .int .i64 k5_1, .int .i64 k6_1, .int .i64 k7_1, .string s8_1, .slice a9_1 l9_1 c9_1, .slice a10_1 l10_1 c10_1]) := (PhB.new w2 _).below hb; have HV1_3 : Hid (Tre w3 lo1 p [.int .i64 k0_1, .int .i64 k1_1, .int .i64 k2_1, .string s3_1, .string s4_1, .int .i64 k5_1, .int .i64 k6_1, .int .i64 k7_1, .string s8_1, .slice a9_1 l9_1 c9_1, .slice a10_1 l10_1 c10_1]) := (HV0.out.allocI _).below hb; obtain ⟨⟨y0, y1, y2, y3, y4, y5, y6, y7, y8, y9, y10⟩, z0, z1, z2, z3, z4, z5, z6, z7, z8, z9, z10⟩ := HR3.out.cells; obtain ⟨⟨m0, m1, m2, m3, m4, m5, m6, m7, m8, m9, m10⟩, j0, j1, j2, j3, j4, j5, j6, j7, j8, j9, j10⟩ := HX3.out.cells; clear hb))
    refine bodyPost_ret (v := .agg #[.int .i64 k0_1, .int .i64 k1_1, .int .i64 k2_1, .string s3_1, .string s4_1, .int .i64 k5_1, .int .i64 k6_1, .int .i64 k7_1, .string s8_1, .slice a9_1 l9_1 c9_1, .slice a10_1 l10_1 c10_1]) (by simp [results, Tryz.results121, go_sem, y0, y1, y2, y3, y4, y5, y6, y7, y8, y9, y10]) rfl ⟨[.int .i64 k0_1, .int .i64 k1_1, .int .i64 k2_1, .string s3_1, .string s4_1, .int .i64 k5_1, .int .i64 k6_1, .int .i64 k7_1, .string s8_1, .slice a9_1 l9_1 c9_1, .slice a10_1 l10_1 c10_1], ?_, rfl, ?_, ?_⟩
    · (refine Tre.mono (lo := lo1) ?_ (by have := HRW.out; omega); (repeat (first | with_reducible refine Tre.setR ?_ hlo1 _ _ | with_reducible refine Tre.allocI ?_ _ | with_reducible exact HV1_3.out)))
    · (repeat (first | with_reducible refine PaS.setR ?_ hrp hrb _ _ | with_reducible refine PaS.allocI ?_ _ | exact HP3.out))
    · (repeat (first | with_reducible refine GrowA.setR ?_ HRW.out _ _ | with_reducible refine GrowA.alloc ?_ _ | exact HG3.out))
end Go.Proofs.YtcbpjgnbdpfiiaaGreatDoor
set_option linter.unusedVariables false
namespace Go.Proofs.YtcbpjgnbdpfiiaaGreatDoor
set_option maxRecDepth 100000
open Go.RowKit Go.WideShapes Go.Shelf
attribute [local go_sem] Oper.semAt_some

/-- while no round has come -/
def AroN (lb : Nat) (m1 m2 m3 : Value) (p : Nat) (k2 : Int) (i2 : It) (nm2 at2 : ByteArray) (g2 ax2 tk2 : Int) (tn2 : ByteArray) (aa2 : Option Addr) (am2 ac2 : Nat) (w W0 : World) (W : World) : Prop :=
  W.heap[lb]? = some (.cells #[m1, m2, m3, .int .i64 ((p : Nat) : Int), .int .i64 0] 78) ∧ W.heap[w.heap.size + 1]? = some (.cells #[.int .i64 (k2), .int .i64 (i2.kind), .int .i64 (i2.n), .string i2.s, .string nm2, .string at2, .int .i64 (g2), .int .i64 (ax2), .int .i64 (tk2), .string tn2, .slice aa2 am2 ac2] 43) ∧ W.heap[w.heap.size + 2]? = some (.cells #[.int .i64 0, .int .i64 0, .int .i64 0, .string ⟨#[]⟩, .string ⟨#[]⟩, .string ⟨#[]⟩, .int .i64 0, .int .i64 0, .int .i64 0, .string ⟨#[]⟩, .slice none 0 0] 43) ∧ (∀ c, c < w.heap.size → c ≠ lb → W.heap[c]? = w.heap[c]?) ∧ Below lb w W ∧ W0.heap.size ≤ W.heap.size
theorem AroN.own (lb : Nat) (m1 m2 m3 : Value) (p : Nat) (k2 : Int) (i2 : It) (nm2 at2 : ByteArray) (g2 ax2 tk2 : Int) (tn2 : ByteArray) (aa2 : Option Addr) (am2 ac2 : Nat) (w W0 : World) (hl : lb < w.heap.size) (hz : w.heap.size ≤ W0.heap.size) : OwnFrom W0.heap.size (fun (_ : List Nat) W => AroN lb m1 m2 m3 p k2 i2 nm2 at2 g2 ax2 tk2 tn2 aa2 am2 ac2 w W0 W) := by
  rintro pre X Y row ⟨h1, h2, h4, h5, h6, h7⟩ hg hr
  exact ⟨cells_kept h1 hg hr, cells_kept h2 hg hr, cells_kept h4 hg hr, fun c hc hn => (hg.block c (by omega) (fun e => by have := (hr c e.symm).1; omega)).trans (h5 c hc hn), h6.grown hg (by omega) (fun k e => by have := (hr k e).1; omega), Nat.le_trans h7 hg.size⟩
end Go.Proofs.YtcbpjgnbdpfiiaaGreatDoor
set_option linter.unusedVariables false
namespace Go.Proofs.YtcbpjgnbdpfiiaaGreatDoor
set_option maxRecDepth 100000
open Go.RowKit Go.WideShapes

end Go.Proofs.YtcbpjgnbdpfiiaaGreatDoor
set_option linter.unusedVariables false
namespace Go.Proofs.YtcbpjgnbdpfiiaaGreatDoor
set_option maxRecDepth 100000
open Go.RowKit Go.WideShapes

set_option maxHeartbeats 3200000 in
theorem namesOf_for (b off : Nat) (nm a : ByteArray) (w : World) (h : ClAt w b off 1 nm a) :
    Calls Tryz.prog 94 #[.pointer (some ⟨b, off, none⟩)] w fun e w' => ∃ n0, e = .returned (.slice (some ⟨w.heap.size, 0, none⟩) 2 2) ∧ w' = (w.drewN n0).alloc (.cells #[.string nm, .string a] 9) := by
  obtain ⟨c0, c1, c2⟩ := h
  go_enter Tryz.func94, Tryz.ntmps94
  go_upto_region 3 with fail
  go_region
  all_goals go_wp2
  all_goals go_ret
  all_goals exact ⟨1, rfl, rfl⟩
end Go.Proofs.YtcbpjgnbdpfiiaaGreatDoor
