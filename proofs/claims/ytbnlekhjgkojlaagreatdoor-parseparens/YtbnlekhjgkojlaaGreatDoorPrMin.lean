import Derived.Test.YtbnlekhjgkojlaaGreatDoorPtPath
import Derived.Laws.OwnMore
import Derived.Test.YtbnlekhjgkojlaaGreatDoorLaidQ
import Derived.Deep.RegionHeld3
import Derived.Deep.QuietTactic
import Derived.Test.YtbnlekhjgkojlaaGreatDoorPrTest
set_option linter.unusedVariables false
namespace Go.Proofs.YtbnlekhjgkojlaaGreatDoor
set_option maxRecDepth 100000
open Go.RowKit
set_option maxHeartbeats 1600000 in
theorem operatorNext_no {w : World} {pb b c : Nat} {T : List Tok} {st : Pst} (h : PaS w pb b c T st) (hT : T.length ≤ 200) (hat : st.at' ≤ 300) {us : ByteArray} {uk un : Int} (hu : seeM T st 0 = ⟨uk, us, un⟩) (q1 : (uk == 1) = false) (q5 : (uk == 5) = false) (bd : Int) :
 Calls Tryz.prog 99 #[.pointer (some ⟨pb, 0, none⟩), .int .i64 bd] w fun e w' => e = .returned (.bool false) ∧ Below w.heap.size w w' := by
 have CS : Hid (∀ W, Below w.heap.size w W → Calls Tryz.prog 65 #[.pointer (some ⟨pb, 0, none⟩), .int .i64 0] W fun e w' => e = .returned (.agg #[.int .i64 uk, .string us, .int .i64 un]) ∧ Below w.heap.size w w') := fun W hW => (see_lit (h.below hW) 0 (by omega) hT hat hu).mono fun e w' ⟨k1, k2⟩ => ⟨k1, hW.trans (k2.mono hW.size)⟩
 have q1' : (uk != 1) = true := by simp only [bne, q1]; rfl
 have q5' : (uk != 5) = true := by simp only [bne, q5]; rfl
 have HB0 : Hid (Below w.heap.size w w) := Below.refl _ _
 clear h
 go_enter Tryz.func99, Tryz.ntmps99
 go_wp2_with (first
  | (go_at_call 65; have HNX := HB0; (refine (CS.out _ HB0.out).mono ?_); rintro e w1 ⟨rfl, hb⟩; have HB1 : Hid (Below w.heap.size w w1) := hb; clear hb HNX HB0))
 go_ret
 exact ⟨rfl, by first | exact HB1.out | exact HB1.out.alloc HB1.out.size _⟩
set_option maxHeartbeats 1600000 in
theorem operatorNext_1 {w : World} {pb b c : Nat} {T : List Tok} {st : Pst} (h : PaS w pb b c T st) (hT : T.length ≤ 200) (hat : st.at' ≤ 300) {us : ByteArray} {un : Int} (hu : seeM T st 0 = ⟨1, us, un⟩) (bd : Int) (ho : OpTab w) :
 Calls Tryz.prog 99 #[.pointer (some ⟨pb, 0, none⟩), .int .i64 bd] w fun e w' => e = .returned (.bool (decide (0 ≤ opOf us) && (opOf us == bd))) ∧ Below w.heap.size w w' := by
 have CS : Hid (∀ W, Below w.heap.size w W → Calls Tryz.prog 65 #[.pointer (some ⟨pb, 0, none⟩), .int .i64 0] W fun e w' => e = .returned (.agg #[.int .i64 1, .string us, .int .i64 un]) ∧ Below w.heap.size w w') := fun W hW => (see_lit (h.below hW) 0 (by omega) hT hat hu).mono fun e w' ⟨k1, k2⟩ => ⟨k1, hW.trans (k2.mono hW.size)⟩
 have HO : Hid (∀ W, Below w.heap.size w W → OpTab W) := fun W hW => ho.below hW
 obtain ⟨R, hR⟩ : ∃ R, R = (decide (0 ≤ opOf us) && (opOf us == bd)) := ⟨_, rfl⟩
 rw [← hR]
 replace hR : Hid (R = (decide (0 ≤ opOf us) && (opOf us == bd))) := hR
 clear ho
 have HB0 : Hid (Below w.heap.size w w) := Below.refl _ _
 clear h
 go_enter Tryz.func99, Tryz.ntmps99
 go_upto_region 4 with (first | (go_at_call 65; have HNX := HB0; (refine (CS.out _ HB0.out).mono ?_); rintro e w1 ⟨rfl, hb⟩; have HB1 : Hid (Below w.heap.size w w1) := hb; clear hb HNX HB0))
 obtain ⟨W2, hW2⟩ : ∃ W, W = w1.alloc (.cells #[.int .i64 1, .string us, .int .i64 un] 41) := ⟨_, rfl⟩
 have HB2 : Hid (Below w.heap.size w W2) := by rw [hW2]; exact HB1.out.alloc HB1.out.size _
 have x1 : W2.cell? ⟨w1.heap.size, 1, none⟩ = some (.string us) := by rw [hW2]; simp
 have hxl : w1.heap.size < W2.heap.size := by rw [hW2]; simp
 have HSS : Hid (∀ W, Below W2.heap.size W2 W → W.cell? ⟨w1.heap.size, 1, none⟩ = some (.string us) ∧ w1.heap.size < W.heap.size) := fun W hb => ⟨(hb.cell (p := ⟨w1.heap.size, 1, none⟩) hxl).trans x1, Nat.lt_of_lt_of_le hxl hb.size⟩
 obtain ⟨tt, fr, hgt⟩ := HO.out W2 HB2.out
 have HGT : Hid (W2.heap[5]? = some (.cells opCells tt fr)) := hgt
 rw [← hW2]
 clear hW2 hgt x1 hxl HB1 CS HO
 go_wp2_with (refine wpList_load_row rfl 146 _ rfl 5 rfl tt _ fr _ HGT.out Tryz.underlying146 rfl (by kernel_rfl) ?_)
 go_loopw [19] (fun i wr => ∃ k : Nat, k ≤ 21 ∧ i = .int .i64 k ∧ Below W2.heap.size W2 wr ∧ Hid (∀ j, j < k → ((opN j).toList == us.toList) = false)) (fun i _ => 21 - (intOf i).toNat)
 case atStart => exact ⟨0, by omega, rfl, Below.refl _ _, fun j hj => absurd hj (by omega)⟩
 case round =>
  obtain ⟨k, hk, rfl, hbw, HN⟩ := hrel
  have HBW : Hid (Below W2.heap.size W2 wr) := hbw
  obtain ⟨y1, yl⟩ := HSS.out _ hbw
  clear hbw
  by_cases hlt : k < 21
  · have hI := op_index k hlt
    have hki : (k : Int) < 21 := by omega
    cases hy : (opN k).toList == us.toList
    · have HN2 : Hid (∀ j, j < k + 1 → ((opN j).toList == us.toList) = false) := fun j hj => by
       by_cases e : j = k
       · rw [e]; exact hy
       · exact HN.out j (by omega)
      generalize opN k = on at hI hy
      generalize opB k = ob at hI
      go_wp2
      go_roundw
      case rel => exact ⟨k + 1, by omega, by go_num, HBW.out.alloc HBW.out.size _, HN2⟩
      case measure => simp [intOf]; omega
    · have HV : Hid (R = (opB k == bd)) := hR.out.trans (by
       have h1 : opOf us = opB k := goF_at hlt HN.out hy
       rw [h1, decide_eq_true (opB_pos k), Bool.true_and])
      generalize opN k = on at hI hy
      generalize opB k = ob at hI HV
      go_wp2
      go_ret
      exact ⟨by rw [HV.out]; rfl, HB2.out.trans ((HBW.out.alloc HBW.out.size _).mono HB2.out.size)⟩
  · have hki : ¬ ((k : Int) < 21) := by omega
    obtain rfl : k = 21 := by omega
    have HV : Hid (R = false) := hR.out.trans (by
     have h1 : opOf us = -1 := goF_none HN.out
     rw [h1]; rfl)
    go_wp2
    go_ret
    exact ⟨by rw [HV.out]; rfl, HB2.out.trans (HBW.out.mono HB2.out.size)⟩
set_option maxHeartbeats 1600000 in
theorem operatorNext_5 {w : World} {pb b c : Nat} {T : List Tok} {st : Pst} (h : PaS w pb b c T st) (hT : T.length ≤ 200) (hat : st.at' ≤ 300) {us : ByteArray} {un : Int} (hu : seeM T st 0 = ⟨5, us, un⟩) (bd : Int) (ho : OpTab w) :
 Calls Tryz.prog 99 #[.pointer (some ⟨pb, 0, none⟩), .int .i64 bd] w fun e w' => e = .returned (.bool (decide (0 ≤ opOf us) && (opOf us == bd))) ∧ Below w.heap.size w w' := by
 have CS : Hid (∀ W, Below w.heap.size w W → Calls Tryz.prog 65 #[.pointer (some ⟨pb, 0, none⟩), .int .i64 0] W fun e w' => e = .returned (.agg #[.int .i64 5, .string us, .int .i64 un]) ∧ Below w.heap.size w w') := fun W hW => (see_lit (h.below hW) 0 (by omega) hT hat hu).mono fun e w' ⟨k1, k2⟩ => ⟨k1, hW.trans (k2.mono hW.size)⟩
 have HO : Hid (∀ W, Below w.heap.size w W → OpTab W) := fun W hW => ho.below hW
 obtain ⟨R, hR⟩ : ∃ R, R = (decide (0 ≤ opOf us) && (opOf us == bd)) := ⟨_, rfl⟩
 rw [← hR]
 replace hR : Hid (R = (decide (0 ≤ opOf us) && (opOf us == bd))) := hR
 clear ho
 have HB0 : Hid (Below w.heap.size w w) := Below.refl _ _
 clear h
 go_enter Tryz.func99, Tryz.ntmps99
 go_upto_region 4 with (first | (go_at_call 65; have HNX := HB0; (refine (CS.out _ HB0.out).mono ?_); rintro e w1 ⟨rfl, hb⟩; have HB1 : Hid (Below w.heap.size w w1) := hb; clear hb HNX HB0))
 obtain ⟨W2, hW2⟩ : ∃ W, W = w1.alloc (.cells #[.int .i64 5, .string us, .int .i64 un] 41) := ⟨_, rfl⟩
 have HB2 : Hid (Below w.heap.size w W2) := by rw [hW2]; exact HB1.out.alloc HB1.out.size _
 have x1 : W2.cell? ⟨w1.heap.size, 1, none⟩ = some (.string us) := by rw [hW2]; simp
 have hxl : w1.heap.size < W2.heap.size := by rw [hW2]; simp
 have HSS : Hid (∀ W, Below W2.heap.size W2 W → W.cell? ⟨w1.heap.size, 1, none⟩ = some (.string us) ∧ w1.heap.size < W.heap.size) := fun W hb => ⟨(hb.cell (p := ⟨w1.heap.size, 1, none⟩) hxl).trans x1, Nat.lt_of_lt_of_le hxl hb.size⟩
 obtain ⟨tt, fr, hgt⟩ := HO.out W2 HB2.out
 have HGT : Hid (W2.heap[5]? = some (.cells opCells tt fr)) := hgt
 rw [← hW2]
 clear hW2 hgt x1 hxl HB1 CS HO
 go_wp2_with (refine wpList_load_row rfl 146 _ rfl 5 rfl tt _ fr _ HGT.out Tryz.underlying146 rfl (by kernel_rfl) ?_)
 go_loopw [19] (fun i wr => ∃ k : Nat, k ≤ 21 ∧ i = .int .i64 k ∧ Below W2.heap.size W2 wr ∧ Hid (∀ j, j < k → ((opN j).toList == us.toList) = false)) (fun i _ => 21 - (intOf i).toNat)
 case atStart => exact ⟨0, by omega, rfl, Below.refl _ _, fun j hj => absurd hj (by omega)⟩
 case round =>
  obtain ⟨k, hk, rfl, hbw, HN⟩ := hrel
  have HBW : Hid (Below W2.heap.size W2 wr) := hbw
  obtain ⟨y1, yl⟩ := HSS.out _ hbw
  clear hbw
  by_cases hlt : k < 21
  · have hI := op_index k hlt
    have hki : (k : Int) < 21 := by omega
    cases hy : (opN k).toList == us.toList
    · have HN2 : Hid (∀ j, j < k + 1 → ((opN j).toList == us.toList) = false) := fun j hj => by
       by_cases e : j = k
       · rw [e]; exact hy
       · exact HN.out j (by omega)
      generalize opN k = on at hI hy
      generalize opB k = ob at hI
      go_wp2
      go_roundw
      case rel => exact ⟨k + 1, by omega, by go_num, HBW.out.alloc HBW.out.size _, HN2⟩
      case measure => simp [intOf]; omega
    · have HV : Hid (R = (opB k == bd)) := hR.out.trans (by
       have h1 : opOf us = opB k := goF_at hlt HN.out hy
       rw [h1, decide_eq_true (opB_pos k), Bool.true_and])
      generalize opN k = on at hI hy
      generalize opB k = ob at hI HV
      go_wp2
      go_ret
      exact ⟨by rw [HV.out]; rfl, HB2.out.trans ((HBW.out.alloc HBW.out.size _).mono HB2.out.size)⟩
  · have hki : ¬ ((k : Int) < 21) := by omega
    obtain rfl : k = 21 := by omega
    have HV : Hid (R = false) := hR.out.trans (by
     have h1 : opOf us = -1 := goF_none HN.out
     rw [h1]; rfl)
    go_wp2
    go_ret
    exact ⟨by rw [HV.out]; rfl, HB2.out.trans (HBW.out.mono HB2.out.size)⟩
theorem operatorNext_any {w : World} {pb b c : Nat} {T : List Tok} {st : Pst} (h : PaS w pb b c T st) (hT : T.length ≤ 200) (hat : st.at' ≤ 300) (bd : Int) (ho : OpTab w) : Calls Tryz.prog 99 #[.pointer (some ⟨pb, 0, none⟩), .int .i64 bd] w fun e w' => e = .returned (.bool (opNext (seeM T st 0) bd)) ∧ Below w.heap.size w w' := by
 obtain ⟨⟨uk, us, un⟩, hu⟩ : ∃ u, seeM T st 0 = u := ⟨_, rfl⟩
 rw [hu]
 by_cases e1 : uk = 1
 · subst e1
   have := operatorNext_1 h hT hat hu bd ho
   rwa [show opNext ⟨1, us, un⟩ bd = (decide (0 ≤ opOf us) && (opOf us == bd)) by simp [opNext]]
 by_cases e5 : uk = 5
 · subst e5
   have := operatorNext_5 h hT hat hu bd ho
   rwa [show opNext ⟨5, us, un⟩ bd = (decide (0 ≤ opOf us) && (opOf us == bd)) by simp [opNext]]
 have q1 := beq_eq_false_iff_ne.2 e1
 have q5 := beq_eq_false_iff_ne.2 e5
 have := operatorNext_no h hT hat hu q1 q5 bd
 rwa [show opNext ⟨uk, us, un⟩ bd = false by simp only [opNext, q1, q5]; rfl]
open Go.RowKit
set_option maxHeartbeats 1600000 in
theorem binary_top {pb b c : Nat} {T : List Tok} {st : Pst} {s1 : Pst} {p : Ph} (hT : T.length ≤ 200) (hat : st.at' ≤ 300) (hlu : RunT pb b c T 98 #[.pointer (some ⟨pb, 0, none⟩)] st s1 p) : RunT pb b c T 85 #[.pointer (some ⟨pb, 0, none⟩), .int .i64 8] st s1 p := by
 intro w h htb
 have HTB : Hid (RTab w pb) := htb
 clear htb
 have HLU : Hid (RunT pb b c T 98 #[.pointer (some ⟨pb, 0, none⟩)] st s1 p) := hlu
 clear hlu
 have hpl := h.pl
 have hbl := h.bl
 go_enter Tryz.func85, Tryz.ntmps85
 go_upto_region 1 with fail
 obtain ⟨W1, hW1⟩ : ∃ W, W = w.alloc (.cells #[.int .i64 0, .int .i64 0, .int .i64 0, .string ⟨#[]⟩, .string ⟨#[]⟩, .int .i64 0, .int .i64 0, .int .i64 0, .string ⟨#[]⟩, .slice none 0 0, .slice none 0 0] 36) := ⟨_, rfl⟩
 have HG1 : Hid (GrowA pb w W1) := by rw [hW1]; exact (GrowA.refl _ _).alloc _
 have HP1 : Hid (PaS W1 pb b c T st) := by rw [hW1]; exact h.allocI _
 have HR1 : Hid (PhZ W1 w.heap.size) := by rw [hW1]; exact PhB.new w _
 rw [← hW1]
 obtain ⟨r, hr⟩ : ∃ r, r = w.heap.size := ⟨_, rfl⟩
 have HRW : Hid (w.heap.size ≤ r) := Nat.le_of_eq hr.symm
 have hrp : r ≠ pb := by omega
 have hrb : r ≠ b := by omega
 rw [← hr] at HR1 ⊢
 clear hW1 hr h hpl hbl
 go_wp2_with (first
  | (go_at_call 98; (first | refine (HLU.out.use HTB.out HP1.out HG1.out (show r < _ from by have k := HR1.out.lt; first | exact k | (simp; omega))).mono ?_ | refine (HLU.out.use HTB.out (HP1.out.allocI _) (HG1.out.alloc _) (show r < _ from by have k := HR1.out.lt; first | exact k | (simp; omega))).mono ?_ | refine (HLU.out.use HTB.out ((HP1.out.allocI _).allocI _) ((HG1.out.alloc _).alloc _) (show r < _ from by have k := HR1.out.lt; first | exact k | (simp; omega))).mono ?_); rintro e w2 ⟨lo1, v, hlo, hv, rfl, hp, hg⟩; obtain ⟨k0_1, k1_1, k2_1, k5_1, k6_1, k7_1, s3_1, s4_1, s8_1, a9_1, a10_1, l9_1, c9_1, l10_1, c10_1, rfl⟩ := hv.form; have hlo1 := hlo.1; have hlp1 := hlo.2.1; have hlz1 := hlo.2.2; have HG2 : Hid (GrowA pb w w2) := (HG1.out.trans hg); have HP2 : Hid (PaS w2 pb b c T s1) := hp; have HR2 : Hid (PhZ w2 r) := (HR1.out.grow hg hrp); have HV1_2 : Hid (Tre w2 lo1 p [.int .i64 k0_1, .int .i64 k1_1, .int .i64 k2_1, .string s3_1, .string s4_1, .int .i64 k5_1, .int .i64 k6_1, .int .i64 k7_1, .string s8_1, .slice a9_1 l9_1 c9_1, .slice a10_1 l10_1 c10_1]) := hv; obtain ⟨⟨y0, y1, y2, y3, y4, y5, y6, y7, y8, y9, y10⟩, z0, z1, z2, z3, z4, z5, z6, z7, z8, z9, z10⟩ := HR2.out.cells; clear hv hlo hp hg HP1 HG1 HR1))
 refine bodyPost_ret (v := .agg #[.int .i64 k0_1, .int .i64 k1_1, .int .i64 k2_1, .string s3_1, .string s4_1, .int .i64 k5_1, .int .i64 k6_1, .int .i64 k7_1, .string s8_1, .slice a9_1 l9_1 c9_1, .slice a10_1 l10_1 c10_1]) (by simp [results, Tryz.results85, go_sem, y0, y1, y2, y3, y4, y5, y6, y7, y8, y9, y10]) rfl ⟨[.int .i64 k0_1, .int .i64 k1_1, .int .i64 k2_1, .string s3_1, .string s4_1, .int .i64 k5_1, .int .i64 k6_1, .int .i64 k7_1, .string s8_1, .slice a9_1 l9_1 c9_1, .slice a10_1 l10_1 c10_1], ?_, rfl, ?_, ?_⟩
 · (refine Tre.mono (lo := lo1) ?_ (by have := HRW.out; omega); (repeat (first | with_reducible refine Tre.setR ?_ hlo1 _ _ | with_reducible refine Tre.allocI ?_ _ | with_reducible exact HV1_2.out)))
 · (repeat (first | with_reducible refine PaS.setR ?_ hrp hrb _ _ | with_reducible refine PaS.allocI ?_ _ | exact HP2.out))
 · (repeat (first | with_reducible refine GrowA.setR ?_ HRW.out _ _ | with_reducible refine GrowA.alloc ?_ _ | exact HG2.out))
set_option maxHeartbeats 1600000 in
theorem binary_none {pb b c : Nat} {T : List Tok} {st : Pst} {s1 : Pst} {p : Ph} {bd : Nat} (hT : T.length ≤ 200) (hat : st.at' ≤ 300) (hbd : bd < 8) (hat1 : s1.at' ≤ 300) (hn : opNext (seeM T s1 0) bd = false) (hlu : RunT pb b c T 85 #[.pointer (some ⟨pb, 0, none⟩), .int .i64 ((bd + 1 : Nat) : Int)] st s1 p) : RunT pb b c T 85 #[.pointer (some ⟨pb, 0, none⟩), .int .i64 (bd : Int)] st s1 p := by
 intro w h htb
 have HTB : Hid (RTab w pb) := htb
 clear htb
 have HLU : Hid (RunT pb b c T 85 #[.pointer (some ⟨pb, 0, none⟩), .int .i64 ((bd + 1 : Nat) : Int)] st s1 p) := hlu
 clear hlu
 have HON : Hid (∀ {W : World}, PaS W pb b c T s1 → OpTab W → Calls Tryz.prog 99 #[.pointer (some ⟨pb, 0, none⟩), .int .i64 bd] W fun e w' => e = .returned (.bool false) ∧ Below W.heap.size W w') := fun {W} h ho => by have := operatorNext_any h hT hat1 bd ho; rwa [hn] at this
 have hwr : IntKind.i64.wrap ((bd : Int) + 1) = ((bd + 1 : Nat) : Int) := by rw [IntWalk.i64_in _ (by omega)]; simp
 obtain ⟨b1, hb1⟩ : ∃ b1 : Int, b1 = ((bd + 1 : Nat) : Int) := ⟨_, rfl⟩
 rw [← hb1] at hwr HLU
 have h8 : ((bd : Int) == 8) = false := by rw [beq_eq_false_iff_ne]; omega
 clear hb1 hn
 have hpl := h.pl
 have hbl := h.bl
 go_enter Tryz.func85, Tryz.ntmps85
 go_upto_region 1 with fail
 obtain ⟨W1, hW1⟩ : ∃ W, W = w.alloc (.cells #[.int .i64 0, .int .i64 0, .int .i64 0, .string ⟨#[]⟩, .string ⟨#[]⟩, .int .i64 0, .int .i64 0, .int .i64 0, .string ⟨#[]⟩, .slice none 0 0, .slice none 0 0] 36) := ⟨_, rfl⟩
 have HG1 : Hid (GrowA pb w W1) := by rw [hW1]; exact (GrowA.refl _ _).alloc _
 have HP1 : Hid (PaS W1 pb b c T st) := by rw [hW1]; exact h.allocI _
 have HR1 : Hid (PhZ W1 w.heap.size) := by rw [hW1]; exact PhB.new w _
 rw [← hW1]
 obtain ⟨r, hr⟩ : ∃ r, r = w.heap.size := ⟨_, rfl⟩
 have HRW : Hid (w.heap.size ≤ r) := Nat.le_of_eq hr.symm
 have hrp : r ≠ pb := by omega
 have hrb : r ≠ b := by omega
 rw [← hr] at HR1 ⊢
 clear hW1 hr h hpl hbl
 go_upto_region 4 with (first
  | (go_at_call 85; (first | refine (HLU.out.use HTB.out HP1.out HG1.out (show r < _ from by have k := HR1.out.lt; first | exact k | (simp; omega))).mono ?_ | refine (HLU.out.use HTB.out (HP1.out.allocI _) (HG1.out.alloc _) (show r < _ from by have k := HR1.out.lt; first | exact k | (simp; omega))).mono ?_ | refine (HLU.out.use HTB.out ((HP1.out.allocI _).allocI _) ((HG1.out.alloc _).alloc _) (show r < _ from by have k := HR1.out.lt; first | exact k | (simp; omega))).mono ?_); rintro e w2 ⟨lo1, v, hlo, hv, rfl, hp, hg⟩; obtain ⟨k0_1, k1_1, k2_1, k5_1, k6_1, k7_1, s3_1, s4_1, s8_1, a9_1, a10_1, l9_1, c9_1, l10_1, c10_1, rfl⟩ := hv.form; have hlo1 := hlo.1; have hlp1 := hlo.2.1; have hlz1 := hlo.2.2; have HG2 : Hid (GrowA pb w w2) := (HG1.out.trans hg); have HP2 : Hid (PaS w2 pb b c T s1) := hp; have HR2 : Hid (PhZ w2 r) := (HR1.out.grow hg hrp); have HV1_2 : Hid (Tre w2 lo1 p [.int .i64 k0_1, .int .i64 k1_1, .int .i64 k2_1, .string s3_1, .string s4_1, .int .i64 k5_1, .int .i64 k6_1, .int .i64 k7_1, .string s8_1, .slice a9_1 l9_1 c9_1, .slice a10_1 l10_1 c10_1]) := hv; have hxp : w2.heap.size ≠ pb := (by have := HP2.out.pl; omega); have HO2 : Hid (OpTab w2) := (HTB.out.grow HG2.out).1; clear hv hlo hp hg HP1 HG1 HR1))
 have HV0 : Hid (Tre w2 lo1 p [.int .i64 k0_1, .int .i64 k1_1, .int .i64 k2_1, .string s3_1, .string s4_1, .int .i64 k5_1, .int .i64 k6_1, .int .i64 k7_1, .string s8_1, .slice a9_1 l9_1 c9_1, .slice a10_1 l10_1 c10_1]) := HV1_2.out
 go_loopw [] (fun wr => wr = w2.alloc (.cells #[.int .i64 k0_1, .int .i64 k1_1, .int .i64 k2_1, .string s3_1, .string s4_1, .int .i64 k5_1, .int .i64 k6_1, .int .i64 k7_1, .string s8_1, .slice a9_1 l9_1 c9_1, .slice a10_1 l10_1 c10_1] 36)) (fun _ => 0)
 case atStart => rfl
 case round =>
  subst hrel
  go_wp2_with (first
   | (go_at_call 99; refine (HON.out (HP2.out.allocI _) (HO2.out.below ((Below.refl _ _).alloc (Nat.le_refl _) _))).mono ?_; rintro e w3 ⟨rfl, hb⟩; have HG3 : Hid (GrowA pb w w3) := (HG2.out.alloc _).below hb; have HP3 : Hid (PaS w3 pb b c T s1) := (HP2.out.allocI _).below hb; have HR3 : Hid (PhZ w3 r) := (HR2.out.allocI _).below hb; have HX3 : Hid (PhB w3 w2.heap.size #[.int .i64 k0_1, .int .i64 k1_1, .int .i64 k2_1, .string s3_1, .string s4_1, .int .i64 k5_1, .int .i64 k6_1, .int .i64 k7_1, .string s8_1, .slice a9_1 l9_1 c9_1, .slice a10_1 l10_1 c10_1]) := (PhB.new w2 _).below hb; have HV1_3 : Hid (Tre w3 lo1 p [.int .i64 k0_1, .int .i64 k1_1, .int .i64 k2_1, .string s3_1, .string s4_1, .int .i64 k5_1, .int .i64 k6_1, .int .i64 k7_1, .string s8_1, .slice a9_1 l9_1 c9_1, .slice a10_1 l10_1 c10_1]) := (HV0.out.allocI _).below hb; obtain ⟨⟨y0, y1, y2, y3, y4, y5, y6, y7, y8, y9, y10⟩, z0, z1, z2, z3, z4, z5, z6, z7, z8, z9, z10⟩ := HR3.out.cells; obtain ⟨⟨m0, m1, m2, m3, m4, m5, m6, m7, m8, m9, m10⟩, j0, j1, j2, j3, j4, j5, j6, j7, j8, j9, j10⟩ := HX3.out.cells; clear hb))
  refine bodyPost_ret (v := .agg #[.int .i64 k0_1, .int .i64 k1_1, .int .i64 k2_1, .string s3_1, .string s4_1, .int .i64 k5_1, .int .i64 k6_1, .int .i64 k7_1, .string s8_1, .slice a9_1 l9_1 c9_1, .slice a10_1 l10_1 c10_1]) (by simp [results, Tryz.results85, go_sem, y0, y1, y2, y3, y4, y5, y6, y7, y8, y9, y10]) rfl ⟨[.int .i64 k0_1, .int .i64 k1_1, .int .i64 k2_1, .string s3_1, .string s4_1, .int .i64 k5_1, .int .i64 k6_1, .int .i64 k7_1, .string s8_1, .slice a9_1 l9_1 c9_1, .slice a10_1 l10_1 c10_1], ?_, rfl, ?_, ?_⟩
  · (refine Tre.mono (lo := lo1) ?_ (by have := HRW.out; omega); (repeat (first | with_reducible refine Tre.setR ?_ hlo1 _ _ | with_reducible refine Tre.allocI ?_ _ | with_reducible exact HV1_3.out)))
  · (repeat (first | with_reducible refine PaS.setR ?_ hrp hrb _ _ | with_reducible refine PaS.allocI ?_ _ | exact HP3.out))
  · (repeat (first | with_reducible refine GrowA.setR ?_ HRW.out _ _ | with_reducible refine GrowA.alloc ?_ _ | exact HG3.out))
open Go.RowKit
theorem PhB.drewK {w : World} {r : Nat} {v : Array Value} (h : PhB w r v) (q : Nat) : PhB (w.drewN q) r v := h
theorem TkB.drewK {w : World} {r : Nat} {v : Array Value} (h : TkB w r v) (q : Nat) : TkB (w.drewN q) r v := h
theorem PaS.drewK {w : World} {pb b c : Nat} {T : List Tok} {st : Pst} (h : PaS w pb b c T st) (q : Nat) : PaS (w.drewN q) pb b c T st := h.below (below_drewA (Below.refl _ _) q)
theorem GrowA.drewK {pb : Nat} {w wr : World} (h : GrowA pb w wr) (q : Nat) : GrowA pb w (wr.drewN q) := h
theorem Leave.drewK {w : World} {pb x : Nat} (h : Leave w pb x) (q : Nat) : Leave (w.drewN q) pb x := h
def opIfA : Oper := { dst := some 52, op := Op.move (Operand.tmp 0), type := 84, pos := "parse.go:142", after := #[{ on := 3, ground := Ground.guard }], guard := some (3, true) }
theorem opIfA_eq : opIfA = { dst := some 52, op := Op.move (Operand.tmp 0), type := 84, pos := "parse.go:142", after := #[{ on := 3, ground := Ground.guard }], guard := some (3, true) } := rfl
def opIfB : Oper := { dst := some 55, op := Op.binOp BinOp.eql 41 (Operand.tmp 53) (Operand.tmp 54) 41, type := 4, pos := "parse.go:142", after := #[{ on := 5, ground := Ground.data }, { on := 6, ground := Ground.data }, { on := 3, ground := Ground.guard }], guard := some (3, true) }
theorem opIfB_eq : opIfB = { dst := some 55, op := Op.binOp BinOp.eql 41 (Operand.tmp 53) (Operand.tmp 54) 41, type := 4, pos := "parse.go:142", after := #[{ on := 5, ground := Ground.data }, { on := 6, ground := Ground.data }, { on := 3, ground := Ground.guard }], guard := some (3, true) } := rfl
set_option maxHeartbeats 3200000 in
theorem single_bin {pb b c : Nat} {T : List Tok} {st : Pst} {s0 s1 : Pst} {p : Ph} {us vs : ByteArray} {uk un vk vn : Int} (hT : T.length ≤ 200) (hat : st.at' ≤ 300) (hat0 : s0.at' ≤ 300) (ho : st.opn ≤ 100) (hop : 1 ≤ s1.opn ∧ s1.opn ≤ 200) (he : enterM T st (singleB (seeM T st 0)) = s0) (hu : seeM T s0 0 = ⟨uk, us, un⟩) (hu1 : seeM T s0 1 = ⟨vk, vs, vn⟩) (k4 : (vk == 4) = false) (nif : eqT ⟨uk, us, un⟩ ⟨1, ⟨#[105, 102]⟩, 0⟩ = false) (hlu : RunT pb b c T 85 #[.pointer (some ⟨pb, 0, none⟩), .int .i64 0] s0 s1 p) : RunT pb b c T 68 #[.pointer (some ⟨pb, 0, none⟩)] st { s1 with opn := s1.opn - 1 } p := by
 intro w h htb
 have HTB : Hid (RTab w pb) := htb
 clear htb
 have HLU : Hid (RunT pb b c T 85 #[.pointer (some ⟨pb, 0, none⟩), .int .i64 0] s0 s1 p) := hlu
 clear hlu
 have E0 := eqT_run nif
 obtain ⟨beg, hbeg⟩ : ∃ x, x = singleB (seeM T st 0) := ⟨_, rfl⟩
 have SB : Hid (∀ W, PaS W pb b c T st → Calls Tryz.prog 43 #[.pointer (some ⟨pb, 0, none⟩)] W fun e w' => e = .returned (.bool beg) ∧ Below W.heap.size W w') := fun W h => by rw [hbeg]; exact singleBegins_any h hT hat
 rw [← hbeg] at he
 clear hbeg
 have EF := field_kind vk vn vs
 have hpl := h.pl
 have hbl := h.bl
 have HPW : Hid (pb < w.heap.size) := hpl
 go_enter_defers Tryz.func68, Tryz.ntmps68
 go_upto_region 1 with fail
 obtain ⟨W1, hW1⟩ : ∃ W, W = w.alloc (.cells #[.int .i64 0, .int .i64 0, .int .i64 0, .string ⟨#[]⟩, .string ⟨#[]⟩, .int .i64 0, .int .i64 0, .int .i64 0, .string ⟨#[]⟩, .slice none 0 0, .slice none 0 0] 36) := ⟨_, rfl⟩
 have HG1 : Hid (GrowA pb w W1) := by rw [hW1]; exact (GrowA.refl _ _).alloc _
 have HP1 : Hid (PaS W1 pb b c T st) := by rw [hW1]; exact h.allocI _
 have HR1 : Hid (PhZ W1 w.heap.size) := by rw [hW1]; exact PhB.new w _
 rw [← hW1]
 obtain ⟨r, hr⟩ : ∃ r, r = w.heap.size := ⟨_, rfl⟩
 have HRW : Hid (w.heap.size ≤ r) := Nat.le_of_eq hr.symm
 have hrp : r ≠ pb := by omega
 have hrb : r ≠ b := by omega
 rw [← hr] at HR1 ⊢
 clear hW1 hr h hpl hbl
 go_upto_region 4 with (first
  | (go_at_call 43; (refine (SB.out _ HP1.out).mono ?_); rintro e w2 ⟨rfl, hb⟩; have HG2 : Hid (GrowA pb w w2) := (HG1.out.below hb); have HP2 : Hid (PaS w2 pb b c T st) := (HP1.out.below hb); have HR2 : Hid (PhZ w2 r) := (HR1.out.below hb); clear hb HP1 HG1 HR1)
  | (go_at_call 42; (refine (penter_is HP2.out _ ho).mono ?_); rintro e w3 ⟨q, rfl, hl, hp, hg, hq⟩; have HG3 : Hid (GrowA pb w w3) := (HG2.out.trans hg); have HP3 : Hid (PaS w3 pb b c T s0) := (by rw [← he]; exact hp); have HR3 : Hid (PhZ w3 r) := (HR2.out.grow hg hrp); have HL3 : Hid (Leave w3 pb q) := hl; have hrq : r ≠ q := (by have k1 := HR2.out.lt; first | omega | (simp at hq; omega)); clear hl hp hg hq HP2 HG2 HR2)
  | (go_at_call 65; (refine (see_lit HP3.out 1 (by omega) hT hat0 hu1).mono ?_); rintro e w4 ⟨rfl, hb⟩; have HG4 : Hid (GrowA pb w w4) := (HG3.out.below hb); have HP4 : Hid (PaS w4 pb b c T s0) := (HP3.out.below hb); have HR4 : Hid (PhZ w4 r) := (HR3.out.below hb); have HL4 : Hid (Leave w4 pb q) := (HL3.out.below hb); clear hb HP3 HG3 HR3 HL3)
  | (go_at_call 65; (refine (see_lit HP4.out 0 (by omega) hT hat0 hu).mono ?_); rintro e w5 ⟨rfl, hb⟩; have HG5 : Hid (GrowA pb w w5) := (HG4.out.below hb); have HP5 : Hid (PaS w5 pb b c T s0) := (HP4.out.below hb); have HR5 : Hid (PhZ w5 r) := (HR4.out.below hb); have HL5 : Hid (Leave w5 pb q) := (HL4.out.below hb); clear hb HP4 HG4 HR4 HL4))
 obtain ⟨w6, hw6⟩ : ∃ W, W = w5.alloc (.cells #[.int .i64 uk, .string us, .int .i64 un] 41) := ⟨_, rfl⟩
 obtain ⟨x, hx⟩ : ∃ x, x = w5.heap.size := ⟨_, rfl⟩
 have HG6 : Hid (GrowA pb w w6) := by rw [hw6]; exact HG5.out.alloc _
 have HP6 : Hid (PaS w6 pb b c T s0) := by rw [hw6]; exact HP5.out.allocI _
 have HR6 : Hid (PhZ w6 r) := by rw [hw6]; exact HR5.out.allocI _
 have HL6 : Hid (Leave w6 pb q) := by rw [hw6]; exact HL5.out.allocI _
 have HX6 : Hid (TkB w6 x #[.int .i64 uk, .string us, .int .i64 un]) := by rw [hw6, hx]; exact TkB.new w5 _
 obtain ⟨c0', c1', c2'⟩ := HX6.out.cells
 rw [← hw6, ← hx]
 clear hw6 hx HG5 HP5 HR5 HL5
 go_quiet (fail)
 obtain ⟨w7, hw7⟩ : ∃ W, W = w6.drewN nq := ⟨_, rfl⟩
 have HG7 : Hid (GrowA pb w w7) := by rw [hw7]; exact HG6.out.drewK nq
 have HP7 : Hid (PaS w7 pb b c T s0) := by rw [hw7]; exact HP6.out.drewK nq
 have HR7 : Hid (PhZ w7 r) := by rw [hw7]; exact HR6.out.drewK nq
 have HL7 : Hid (Leave w7 pb q) := by rw [hw7]; exact HL6.out.drewK nq
 have HX7 : Hid (TkB w7 x #[.int .i64 uk, .string us, .int .i64 un]) := by rw [hw7]; exact HX6.out.drewK nq
 rw [← hw7]
 clear hw7 HG6 HP6 HR6 HL6 HX6 c0' c1' c2'
 obtain ⟨c0, c1, c2⟩ := HX7.out.cells
 go_upto_region 6 with fail
 go_quiet (fail)
 obtain ⟨w8, hw8⟩ : ∃ W, W = w7.drewN nq := ⟨_, rfl⟩
 have HG8 : Hid (GrowA pb w w8) := by rw [hw8]; exact HG7.out.drewK nq
 have HP8 : Hid (PaS w8 pb b c T s0) := by rw [hw8]; exact HP7.out.drewK nq
 have HR8 : Hid (PhZ w8 r) := by rw [hw8]; exact HR7.out.drewK nq
 have HL8 : Hid (Leave w8 pb q) := by rw [hw8]; exact HL7.out.drewK nq
 have HX8 : Hid (TkB w8 x #[.int .i64 uk, .string us, .int .i64 un]) := by rw [hw8]; exact HX7.out.drewK nq
 rw [← hw8]
 clear hw8 HG7 HP7 HR7 HL7 HX7 c0 c1 c2
 obtain ⟨c0, c1, c2⟩ := HX8.out.cells
 go_upto_region 8 with fail
 go_quiet (fail)
 obtain ⟨w9, hw9⟩ : ∃ W, W = w8.drewN nq := ⟨_, rfl⟩
 have HG9 : Hid (GrowA pb w w9) := by rw [hw9]; exact HG8.out.drewK nq
 have HP9 : Hid (PaS w9 pb b c T s0) := by rw [hw9]; exact HP8.out.drewK nq
 have HR9 : Hid (PhZ w9 r) := by rw [hw9]; exact HR8.out.drewK nq
 have HL9 : Hid (Leave w9 pb q) := by rw [hw9]; exact HL8.out.drewK nq
 have HX9 : Hid (TkB w9 x #[.int .i64 uk, .string us, .int .i64 un]) := by rw [hw9]; exact HX8.out.drewK nq
 rw [← hw9]
 clear hw9 HG8 HP8 HR8 HL8 HX8 c0 c1 c2
 obtain ⟨c0, c1, c2⟩ := HX9.out.cells
 have CW0 : Hid (∀ W, Below w9.heap.size w9 W → Calls Tryz.prog 81 #[.string ⟨#[105, 102]⟩] W fun e w' => e = .returned (.agg #[.int .i64 1, .string ⟨#[105, 102]⟩, .int .i64 0]) ∧ Below w9.heap.size w9 w') := fun W hW => (word_is _ W).mono fun e w' ⟨k1, k2⟩ => ⟨k1, hW.trans (k2.mono hW.size)⟩
 have HSS : Hid (∀ W, Below w9.heap.size w9 W → W.cell? ⟨x, 0, none⟩ = some (.int .i64 uk) ∧ W.cell? ⟨x, 1, none⟩ = some (.string us) ∧ W.cell? ⟨x, 2, none⟩ = some (.int .i64 un)) := fun W hb => (HX9.out.below hb).cells
 go_upto_region 10 with fail
 rw [← opIfA_eq, ← opIfB_eq]
 have hopIfA := opIfA_eq
 have hopIfB := opIfB_eq
 go_region_held3 (fun W => W.cell? ⟨x, 0, none⟩ = some (.int .i64 uk) ∧ W.cell? ⟨x, 1, none⟩ = some (.string us) ∧ W.cell? ⟨x, 2, none⟩ = some (.int .i64 un))
  ((refine HSS.out _ ?_; repeat (first | exact Hid.out (by assumption) | exact Below.refl _ _ | refine Below.drew ?_)))
  (first
   | (go_at_call 81; refine (CW0.out _ ?_).mono ?_; (focus (repeat (first | exact Below.refl _ _ | refine Below.drew ?_))); rintro e w10 ⟨rfl, hb⟩; have HB10 : Hid (Below w9.heap.size w9 w10) := hb; clear hb CW0))
 have HG10 : Hid (GrowA pb w w10) := HG9.out.below HB10.out
 have HP10 : Hid (PaS w10 pb b c T s0) := HP9.out.below HB10.out
 have HR10 : Hid (PhZ w10 r) := HR9.out.below HB10.out
 have HL10 : Hid (Leave w10 pb q) := HL9.out.below HB10.out
 have HX10 : Hid (TkB w10 x #[.int .i64 uk, .string us, .int .i64 un]) := HX9.out.below HB10.out
 clear hopIfA hopIfB c0 c1 c2 HSS HG9 HP9 HR9 HL9 HX9 HB10
 go_wp2_with (first
  | (go_at_call 85; (first | refine (HLU.out.use HTB.out HP10.out HG10.out (show r < _ from by have k := HR10.out.lt; first | exact k | (simp; omega))).mono ?_ | refine (HLU.out.use HTB.out (HP10.out.allocI _) (HG10.out.alloc _) (show r < _ from by have k := HR10.out.lt; first | exact k | (simp; omega))).mono ?_ | refine (HLU.out.use HTB.out ((HP10.out.allocI _).allocI _) ((HG10.out.alloc _).alloc _) (show r < _ from by have k := HR10.out.lt; first | exact k | (simp; omega))).mono ?_); rintro e w11 ⟨lo1, v, hlo, hv, rfl, hp, hg⟩; obtain ⟨k0_1, k1_1, k2_1, k5_1, k6_1, k7_1, s3_1, s4_1, s8_1, a9_1, a10_1, l9_1, c9_1, l10_1, c10_1, rfl⟩ := hv.form; have hlo1 := hlo.1; have hlp1 := hlo.2.1; have hlz1 := hlo.2.2; have HG11 : Hid (GrowA pb w w11) := (HG10.out.trans hg); have HP11 : Hid (PaS w11 pb b c T s1) := hp; have HR11 : Hid (PhZ w11 r) := (HR10.out.grow hg hrp); have HL11 : Hid (Leave w11 pb q) := (HL10.out.grow hg); have HV1_11 : Hid (Tre w11 lo1 p [.int .i64 k0_1, .int .i64 k1_1, .int .i64 k2_1, .string s3_1, .string s4_1, .int .i64 k5_1, .int .i64 k6_1, .int .i64 k7_1, .string s8_1, .slice a9_1 l9_1 c9_1, .slice a10_1 l10_1 c10_1]) := hv; obtain ⟨⟨y0, y1, y2, y3, y4, y5, y6, y7, y8, y9, y10⟩, z0, z1, z2, z3, z4, z5, z6, z7, z8, z9, z10⟩ := HR11.out.cells; clear hv hlo hp hg HP10 HG10 HR10 HL10))
 obtain ⟨Wd, hWd⟩ : ∃ W, W = (((((((((((w11.setCell ⟨r, 0, none⟩ (.int .i64 k0_1)).setCell ⟨r, 1, none⟩ (.int .i64 k1_1)).setCell ⟨r, 2, none⟩ (.int .i64 k2_1)).setCell ⟨r, 3, none⟩ (.string s3_1)).setCell ⟨r, 4, none⟩ (.string s4_1)).setCell ⟨r, 5, none⟩ (.int .i64 k5_1)).setCell ⟨r, 6, none⟩ (.int .i64 k6_1)).setCell ⟨r, 7, none⟩ (.int .i64 k7_1)).setCell ⟨r, 8, none⟩ (.string s8_1)).setCell ⟨r, 9, none⟩ (.slice a9_1 l9_1 c9_1)).setCell ⟨r, 10, none⟩ (.slice a10_1 l10_1 c10_1)) := ⟨_, rfl⟩
 have HD : Hid (PaS Wd pb b c T s1) := by
  refine HidOf ?_
  rw [hWd]
  (repeat (first | with_reducible refine PaS.setR ?_ hrp hrb _ _ | with_reducible refine PaS.allocI ?_ _ | exact HP11.out))
 have HE : Hid (GrowA pb w Wd) := by
  refine HidOf ?_
  rw [hWd]
  (repeat (first | with_reducible refine GrowA.setR ?_ HRW.out _ _ | with_reducible refine GrowA.alloc ?_ _ | exact HG11.out))
 have HQ : Hid (Leave Wd pb q) := by
  refine HidOf ?_
  rw [hWd]
  (repeat (first | with_reducible refine Leave.setR ?_ hrq _ _ | with_reducible refine Leave.allocI ?_ _ | exact HL11.out))
 have HZ : Hid (PhB Wd r #[.int .i64 k0_1, .int .i64 k1_1, .int .i64 k2_1, .string s3_1, .string s4_1, .int .i64 k5_1, .int .i64 k6_1, .int .i64 k7_1, .string s8_1, .slice a9_1 l9_1 c9_1, .slice a10_1 l10_1 c10_1]) := by rw [hWd]; exact PhB.put HR11.out
 have HT : Hid (Tre Wd w.heap.size p [.int .i64 k0_1, .int .i64 k1_1, .int .i64 k2_1, .string s3_1, .string s4_1, .int .i64 k5_1, .int .i64 k6_1, .int .i64 k7_1, .string s8_1, .slice a9_1 l9_1 c9_1, .slice a10_1 l10_1 c10_1]) := by
  refine HidOf ?_
  rw [hWd]
  (refine Tre.mono (lo := lo1) ?_ (by have := HRW.out; omega); (repeat (first | with_reducible refine Tre.setR ?_ hlo1 _ _ | with_reducible refine Tre.allocI ?_ _ | with_reducible exact HV1_11.out)))
 rw [← hWd]
 clear hWd
 refine leaves_cons (f := 64) (args := #[.pointer (some ⟨q, 0, none⟩)]) (by simp) (by simp [go_sem]) ?_
 refine (pleave_is HD.out HQ.out hop .returning).mono ?_
 rintro e u' w99 ⟨rfl, rfl, hp, hg⟩
 obtain ⟨⟨u0, u1, u2, u3, u4, u5, u6, u7, u8, u9, u10⟩, _⟩ := (HZ.out.grow hg hrp).cells
 exact ⟨.agg #[.int .i64 k0_1, .int .i64 k1_1, .int .i64 k2_1, .string s3_1, .string s4_1, .int .i64 k5_1, .int .i64 k6_1, .int .i64 k7_1, .string s8_1, .slice a9_1 l9_1 c9_1, .slice a10_1 l10_1 c10_1], by simp [results, Tryz.results68, go_sem, u0, u1, u2, u3, u4, u5, u6, u7, u8, u9, u10], ⟨_, HT.out.grow hg HPW.out, rfl, hp, HE.out.trans hg⟩⟩
open Go.RowKit
def twoP (k : Int) (nm : ByteArray) (p q : Ph) : Ph := phN k ⟨0, 0, ⟨#[]⟩⟩ nm 0 0 0 ⟨#[]⟩ 2 (fun i => if i = 0 then p else q)
theorem v_two {w : World} {S : Nat → Prop} {g : Nat} {T : TypeId} {p q : Ph} {k : Int} {nm : ByteArray} {k0_1 k1_1 k2_1 k5_1 k6_1 k7_1 k0_2 k1_2 k2_2 k5_2 k6_2 k7_2 : Int} {s3_1 s4_1 s8_1 s3_2 s4_2 s8_2 : ByteArray} {a9_1 a10_1 a9_2 a10_2 : Option Addr} {l9_1 c9_1 l10_1 c10_1 l9_2 c9_2 l10_2 c10_2 : Nat} (hg : w.heap[g]? = some (.cells #[.int .i64 k0_1, .int .i64 k1_1, .int .i64 k2_1, .string s3_1, .string s4_1, .int .i64 k5_1, .int .i64 k6_1, .int .i64 k7_1, .string s8_1, .slice a9_1 l9_1 c9_1, .slice a10_1 l10_1 c10_1, .int .i64 k0_2, .int .i64 k1_2, .int .i64 k2_2, .string s3_2, .string s4_2, .int .i64 k5_2, .int .i64 k6_2, .int .i64 k7_2, .string s8_2, .slice a9_2 l9_2 c9_2, .slice a10_2 l10_2 c10_2] T)) (hS : S g) (h1 : p.V w S [.int .i64 k0_1, .int .i64 k1_1, .int .i64 k2_1, .string s3_1, .string s4_1, .int .i64 k5_1, .int .i64 k6_1, .int .i64 k7_1, .string s8_1, .slice a9_1 l9_1 c9_1, .slice a10_1 l10_1 c10_1]) (h2 : q.V w S [.int .i64 k0_2, .int .i64 k1_2, .int .i64 k2_2, .string s3_2, .string s4_2, .int .i64 k5_2, .int .i64 k6_2, .int .i64 k7_2, .string s8_2, .slice a9_2 l9_2 c9_2, .slice a10_2 l10_2 c10_2]) : (twoP k nm p q).V w S (phL k ⟨0, 0, ⟨#[]⟩⟩ nm 0 0 0 ⟨#[]⟩ (.slice (some ⟨g, 0, none⟩) 2 2) (.slice none 0 0)) := by
 refine ⟨_, _, none, 0, rfl, Nat.le_refl _, Nat.le_refl _, by decide, by decide, fun _ => ⟨g, 0, rfl, hS, fun i hi => ?_⟩, fun h => absurd h (by decide)⟩
 rcases (show i = 0 ∨ i = 1 by omega) with rfl | rfl
 · refine ⟨[.int .i64 k0_1, .int .i64 k1_1, .int .i64 k2_1, .string s3_1, .string s4_1, .int .i64 k5_1, .int .i64 k6_1, .int .i64 k7_1, .string s8_1, .slice a9_1 l9_1 c9_1, .slice a10_1 l10_1 c10_1], fun j hj => ?_, h1⟩
   rw [show 0 + 0 * 11 + j = j by omega]
   have hj' : j < 11 := hj
   rw [World.cell?, hg]
   match j, hj' with
   | 0, _ | 1, _ | 2, _ | 3, _ | 4, _ | 5, _ | 6, _ | 7, _ | 8, _ | 9, _ | 10, _ => rfl
 · refine ⟨[.int .i64 k0_2, .int .i64 k1_2, .int .i64 k2_2, .string s3_2, .string s4_2, .int .i64 k5_2, .int .i64 k6_2, .int .i64 k7_2, .string s8_2, .slice a9_2 l9_2 c9_2, .slice a10_2 l10_2 c10_2], fun j hj => ?_, h2⟩
   have hj' : j < 11 := hj
   rw [World.cell?, hg]
   match j, hj' with
   | 0, _ | 1, _ | 2, _ | 3, _ | 4, _ | 5, _ | 6, _ | 7, _ | 8, _ | 9, _ | 10, _ => rfl
set_option maxHeartbeats 3200000 in
theorem pathOf_is {k0_1 k1_1 k2_1 k5_1 k6_1 k7_1 k0_2 k1_2 k2_2 k5_2 k6_2 k7_2 : Int} {s3_1 s4_1 s8_1 s3_2 s4_2 s8_2 : ByteArray} {a9_1 a10_1 a9_2 a10_2 : Option Addr} {l9_1 c9_1 l10_1 c10_1 l9_2 c9_2 l10_2 c10_2 : Nat} (w : World) : Calls Tryz.prog 120 #[.agg #[.int .i64 k0_1, .int .i64 k1_1, .int .i64 k2_1, .string s3_1, .string s4_1, .int .i64 k5_1, .int .i64 k6_1, .int .i64 k7_1, .string s8_1, .slice a9_1 l9_1 c9_1, .slice a10_1 l10_1 c10_1], .agg #[.int .i64 k0_2, .int .i64 k1_2, .int .i64 k2_2, .string s3_2, .string s4_2, .int .i64 k5_2, .int .i64 k6_2, .int .i64 k7_2, .string s8_2, .slice a9_2 l9_2 c9_2, .slice a10_2 l10_2 c10_2]] w fun e w' => ∃ g, e = .returned (.agg #[.int .i64 21, .int .i64 0, .int .i64 0, .string ⟨#[]⟩, .string ⟨#[]⟩, .int .i64 0, .int .i64 0, .int .i64 0, .string ⟨#[]⟩, .slice (some ⟨g, 0, none⟩) 2 2, .slice none 0 0]) ∧ Below w.heap.size w w' ∧ (w.heap.size ≤ g ∧ g < w'.heap.size) ∧ w'.heap[g]? = some (.cells #[.int .i64 k0_1, .int .i64 k1_1, .int .i64 k2_1, .string s3_1, .string s4_1, .int .i64 k5_1, .int .i64 k6_1, .int .i64 k7_1, .string s8_1, .slice a9_1 l9_1 c9_1, .slice a10_1 l10_1 c10_1, .int .i64 k0_2, .int .i64 k1_2, .int .i64 k2_2, .string s3_2, .string s4_2, .int .i64 k5_2, .int .i64 k6_2, .int .i64 k7_2, .string s8_2, .slice a9_2 l9_2 c9_2, .slice a10_2 l10_2 c10_2] 36) := by
 go_enter Tryz.func120, Tryz.ntmps120
 go_upto_region 1 with fail
 obtain ⟨W1, hW1⟩ : ∃ W, W = ((w.alloc (.cells #[.int .i64 k0_1, .int .i64 k1_1, .int .i64 k2_1, .string s3_1, .string s4_1, .int .i64 k5_1, .int .i64 k6_1, .int .i64 k7_1, .string s8_1, .slice a9_1 l9_1 c9_1, .slice a10_1 l10_1 c10_1] 36)).alloc (.cells #[.int .i64 k0_2, .int .i64 k1_2, .int .i64 k2_2, .string s3_2, .string s4_2, .int .i64 k5_2, .int .i64 k6_2, .int .i64 k7_2, .string s8_2, .slice a9_2 l9_2 c9_2, .slice a10_2 l10_2 c10_2] 36)).alloc (.cells #[.int .i64 0, .int .i64 0, .int .i64 0, .string ⟨#[]⟩, .string ⟨#[]⟩, .int .i64 0, .int .i64 0, .int .i64 0, .string ⟨#[]⟩, .slice none 0 0, .slice none 0 0] 36) := ⟨_, rfl⟩
 have HB1 : Hid (Below w.heap.size w W1) := by rw [hW1]; exact (((Below.refl _ _).alloc (Nat.le_refl _) _).alloc (by simp) _).alloc (by simp; omega) _
 have HX1 : Hid (PhB W1 w.heap.size #[.int .i64 k0_1, .int .i64 k1_1, .int .i64 k2_1, .string s3_1, .string s4_1, .int .i64 k5_1, .int .i64 k6_1, .int .i64 k7_1, .string s8_1, .slice a9_1 l9_1 c9_1, .slice a10_1 l10_1 c10_1]) := by rw [hW1]; exact ((PhB.new w _).allocI _).allocI _
 have HY1 : Hid (PhB W1 (w.heap.size + 1) #[.int .i64 k0_2, .int .i64 k1_2, .int .i64 k2_2, .string s3_2, .string s4_2, .int .i64 k5_2, .int .i64 k6_2, .int .i64 k7_2, .string s8_2, .slice a9_2 l9_2 c9_2, .slice a10_2 l10_2 c10_2]) := by
  have k := (PhB.new (w.alloc (.cells #[.int .i64 k0_1, .int .i64 k1_1, .int .i64 k2_1, .string s3_1, .string s4_1, .int .i64 k5_1, .int .i64 k6_1, .int .i64 k7_1, .string s8_1, .slice a9_1 l9_1 c9_1, .slice a10_1 l10_1 c10_1] 36)) #[.int .i64 k0_2, .int .i64 k1_2, .int .i64 k2_2, .string s3_2, .string s4_2, .int .i64 k5_2, .int .i64 k6_2, .int .i64 k7_2, .string s8_2, .slice a9_2 l9_2 c9_2, .slice a10_2 l10_2 c10_2]).allocI (.cells #[.int .i64 0, .int .i64 0, .int .i64 0, .string ⟨#[]⟩, .string ⟨#[]⟩, .int .i64 0, .int .i64 0, .int .i64 0, .string ⟨#[]⟩, .slice none 0 0, .slice none 0 0] 36)
  rw [show (w.alloc (.cells #[.int .i64 k0_1, .int .i64 k1_1, .int .i64 k2_1, .string s3_1, .string s4_1, .int .i64 k5_1, .int .i64 k6_1, .int .i64 k7_1, .string s8_1, .slice a9_1 l9_1 c9_1, .slice a10_1 l10_1 c10_1] 36)).heap.size = w.heap.size + 1 by simp] at k
  rw [hW1]; exact k
 have HR1 : Hid (PhZ W1 (w.heap.size + 1 + 1)) := by
  have k := PhB.new ((w.alloc (.cells #[.int .i64 k0_1, .int .i64 k1_1, .int .i64 k2_1, .string s3_1, .string s4_1, .int .i64 k5_1, .int .i64 k6_1, .int .i64 k7_1, .string s8_1, .slice a9_1 l9_1 c9_1, .slice a10_1 l10_1 c10_1] 36)).alloc (.cells #[.int .i64 k0_2, .int .i64 k1_2, .int .i64 k2_2, .string s3_2, .string s4_2, .int .i64 k5_2, .int .i64 k6_2, .int .i64 k7_2, .string s8_2, .slice a9_2 l9_2 c9_2, .slice a10_2 l10_2 c10_2] 36)) #[.int .i64 0, .int .i64 0, .int .i64 0, .string ⟨#[]⟩, .string ⟨#[]⟩, .int .i64 0, .int .i64 0, .int .i64 0, .string ⟨#[]⟩, .slice none 0 0, .slice none 0 0]
  rw [show ((w.alloc (.cells #[.int .i64 k0_1, .int .i64 k1_1, .int .i64 k2_1, .string s3_1, .string s4_1, .int .i64 k5_1, .int .i64 k6_1, .int .i64 k7_1, .string s8_1, .slice a9_1 l9_1 c9_1, .slice a10_1 l10_1 c10_1] 36)).alloc (.cells #[.int .i64 k0_2, .int .i64 k1_2, .int .i64 k2_2, .string s3_2, .string s4_2, .int .i64 k5_2, .int .i64 k6_2, .int .i64 k7_2, .string s8_2, .slice a9_2 l9_2 c9_2, .slice a10_2 l10_2 c10_2] 36)).heap.size = w.heap.size + 1 + 1 by simp] at k
  rw [hW1]; exact k
 rw [← hW1]
 clear hW1
 obtain ⟨y, hy⟩ : ∃ y, y = w.heap.size + 1 := ⟨_, rfl⟩
 obtain ⟨r, hr⟩ : ∃ r, r = w.heap.size + 1 + 1 := ⟨_, rfl⟩
 have hyw : w.heap.size ≤ y := by omega
 have hrw : w.heap.size ≤ r := by omega
 rw [← hr] at HR1 ⊢
 rw [← hy] at HY1 ⊢
 clear hr hy
 obtain ⟨⟨y0, y1, y2, y3, y4, y5, y6, y7, y8, y9, y10⟩, z0, z1, z2, z3, z4, z5, z6, z7, z8, z9, z10⟩ := HR1.out.cells
 obtain ⟨⟨m0, m1, m2, m3, m4, m5, m6, m7, m8, m9, m10⟩, j0, j1, j2, j3, j4, j5, j6, j7, j8, j9, j10⟩ := HX1.out.cells
 obtain ⟨⟨p0, p1, p2, p3, p4, p5, p6, p7, p8, p9, p10⟩, i0, i1, i2, i3, i4, i5, i6, i7, i8, i9, i10⟩ := HY1.out.cells
 have hrz := HR1.out.lt
 have hr1 : r ≠ W1.heap.size := by omega
 clear j0 i0 j1 i1 j2 i2 j3 i3 j4 i4 j5 i5 j6 i6 j7 i7 j8 i8 j9 i9 j10 i10
 go_wp2
 obtain ⟨W2, hW2⟩ : ∃ W, W = (((((((((((W1.setCell ⟨r, 0, none⟩ (.int .i64 21)).setCell ⟨r, 1, none⟩ (.int .i64 0)).setCell ⟨r, 2, none⟩ (.int .i64 0)).setCell ⟨r, 3, none⟩ (.string ⟨#[]⟩)).setCell ⟨r, 4, none⟩ (.string ⟨#[]⟩)).setCell ⟨r, 5, none⟩ (.int .i64 0)).setCell ⟨r, 6, none⟩ (.int .i64 0)).setCell ⟨r, 7, none⟩ (.int .i64 0)).setCell ⟨r, 8, none⟩ (.string ⟨#[]⟩)).setCell ⟨r, 9, none⟩ (.slice (some ⟨W1.heap.size, 0, none⟩) 2 2)).setCell ⟨r, 10, none⟩ (.slice none 0 0)) := ⟨_, rfl⟩
 have HB2 : Hid (Below w.heap.size w W2) := by
  refine HidOf ?_
  rw [hW2]
  (repeat (first | with_reducible exact HB1.out | with_reducible refine below_setA ?_ hrw _ _))
 have hs2 : W2.heap.size = W1.heap.size := by rw [hW2]; simp
 have HR2 : Hid (PhB W2 r #[.int .i64 21, .int .i64 0, .int .i64 0, .string ⟨#[]⟩, .string ⟨#[]⟩, .int .i64 0, .int .i64 0, .int .i64 0, .string ⟨#[]⟩, .slice (some ⟨W1.heap.size, 0, none⟩) 2 2, .slice none 0 0]) := by rw [hW2]; exact PhB.put HR1.out
 rw [← hW2]
 clear hW2 y0 y1 y2 y3 y4 y5 y6 y7 y8 y9 y10 z0 z1 z2 z3 z4 z5 z6 z7 z8 z9 z10
 have HR3 := HidOf (HR2.out.allocI (.cells #[.int .i64 k0_1, .int .i64 k1_1, .int .i64 k2_1, .string s3_1, .string s4_1, .int .i64 k5_1, .int .i64 k6_1, .int .i64 k7_1, .string s8_1, .slice a9_1 l9_1 c9_1, .slice a10_1 l10_1 c10_1, .int .i64 k0_2, .int .i64 k1_2, .int .i64 k2_2, .string s3_2, .string s4_2, .int .i64 k5_2, .int .i64 k6_2, .int .i64 k7_2, .string s8_2, .slice a9_2 l9_2 c9_2, .slice a10_2 l10_2 c10_2] 36))
 obtain ⟨⟨y0, y1, y2, y3, y4, y5, y6, y7, y8, y9, y10⟩, z0, z1, z2, z3, z4, z5, z6, z7, z8, z9, z10⟩ := HR3.out.cells
 refine bodyPost_ret (v := .agg #[.int .i64 21, .int .i64 0, .int .i64 0, .string ⟨#[]⟩, .string ⟨#[]⟩, .int .i64 0, .int .i64 0, .int .i64 0, .string ⟨#[]⟩, .slice (some ⟨W1.heap.size, 0, none⟩) 2 2, .slice none 0 0]) (by simp [results, Tryz.results120, go_sem, y0, y1, y2, y3, y4, y5, y6, y7, y8, y9, y10]) rfl ⟨W1.heap.size, rfl, HB2.out.alloc HB2.out.size _, ⟨HB1.out.size, by simp [hs2]⟩, ?_⟩
 rw [← hs2]
 exact heap_alloc_new _ _
open Go.RowKit
set_option maxHeartbeats 3200000 in
theorem minus_one {pb b c : Nat} {T : List Tok} {st : Pst} {us : ByteArray} {uk un : Int} {s0 s1 : Pst} {p : Ph} (hT : T.length ≤ 200) (hat : st.at' ≤ 300) (hu : seeM T st 0 = ⟨uk, us, un⟩) (y1 : eqT ⟨uk, us, un⟩ ⟨5, ⟨#[45]⟩, 0⟩ = true) (ho : st.opn ≤ 100) (he : enterM T st true = s0) (hat0 : s0.at' ≤ 300) (y2 : eqT (seeM T s0 0) ⟨5, ⟨#[45]⟩, 0⟩ = true) (hop : 1 ≤ s1.opn ∧ s1.opn ≤ 200) (hlu : RunT pb b c T 98 #[.pointer (some ⟨pb, 0, none⟩)] { s0 with at' := s0.at' + 1 } s1 p) : RunT pb b c T 98 #[.pointer (some ⟨pb, 0, none⟩)] st { s1 with opn := s1.opn - 1 } (phN 26 ⟨0, 0, ⟨#[]⟩⟩ ⟨#[]⟩ 0 0 0 ⟨#[]⟩ 1 (fun _ => p)) := by
 intro w h htb
 have HTB : Hid (RTab w pb) := htb
 clear htb
 have HLU : Hid (RunT pb b c T 98 #[.pointer (some ⟨pb, 0, none⟩)] { s0 with at' := s0.at' + 1 } s1 p) := hlu
 clear hlu
 have E1 := neT_run y1
 have hpl := h.pl
 have hbl := h.bl
 have HPW : Hid (pb < w.heap.size) := hpl
 go_enter_defers Tryz.func98, Tryz.ntmps98
 go_upto_region 1 with fail
 obtain ⟨W1, hW1⟩ : ∃ W, W = w.alloc (.cells #[.int .i64 0, .int .i64 0, .int .i64 0, .string ⟨#[]⟩, .string ⟨#[]⟩, .int .i64 0, .int .i64 0, .int .i64 0, .string ⟨#[]⟩, .slice none 0 0, .slice none 0 0] 36) := ⟨_, rfl⟩
 have HG1 : Hid (GrowA pb w W1) := by rw [hW1]; exact (GrowA.refl _ _).alloc _
 have HP1 : Hid (PaS W1 pb b c T st) := by rw [hW1]; exact h.allocI _
 have HR1 : Hid (PhZ W1 w.heap.size) := by rw [hW1]; exact PhB.new w _
 rw [← hW1]
 obtain ⟨r, hr⟩ : ∃ r, r = w.heap.size := ⟨_, rfl⟩
 have HRW : Hid (w.heap.size ≤ r) := Nat.le_of_eq hr.symm
 have hrp : r ≠ pb := by omega
 have hrb : r ≠ b := by omega
 rw [← hr] at HR1 ⊢
 clear hW1 hr h hpl hbl
 go_wp2_with (first
  | (go_at_call 65; (refine (see_lit HP1.out 0 (by omega) hT hat hu).mono ?_); rintro e w2 ⟨rfl, hb⟩; have HG2 : Hid (GrowA pb w w2) := (HG1.out.below hb); have HP2 : Hid (PaS w2 pb b c T st) := (HP1.out.below hb); have HR2 : Hid (PhZ w2 r) := (HR1.out.below hb); clear hb HP1 HG1 HR1)
  | (go_at_call 66; have HNX := HP2; refine (mark_is _ _).mono ?_; rintro e w3 ⟨rfl, hb⟩; have HG3 : Hid (GrowA pb w w3) := (HG2.out.below hb); have HP3 : Hid (PaS w3 pb b c T st) := (HP2.out.below hb); have HR3 : Hid (PhZ w3 r) := (HR2.out.below hb); clear hb HNX HP2 HG2 HR2)
  | (go_at_call 42; (refine (penter_is HP3.out _ ho).mono ?_); rintro e w4 ⟨q, rfl, hl, hp, hg, hq⟩; have HG4 : Hid (GrowA pb w w4) := (HG3.out.trans hg); have HP4 : Hid (PaS w4 pb b c T s0) := (by rw [← he]; exact hp); have HR4 : Hid (PhZ w4 r) := (HR3.out.grow hg hrp); have HL4 : Hid (Leave w4 pb q) := hl; have hrq : r ≠ q := (by have k1 := HR3.out.lt; first | omega | (simp at hq; omega)); clear hl hp hg hq HP3 HG3 HR3)
  | (go_at_call 66; have HNX := HP4; refine (mark_is _ _).mono ?_; rintro e w5 ⟨rfl, hb⟩; have HG5 : Hid (GrowA pb w w5) := (HG4.out.below hb); have HP5 : Hid (PaS w5 pb b c T s0) := (HP4.out.below hb); have HR5 : Hid (PhZ w5 r) := (HR4.out.below hb); have HL5 : Hid (Leave w5 pb q) := (HL4.out.below hb); clear hb HNX HP4 HG4 HR4 HL4)
  | (go_at_call 69; (refine (skip_yes HP5.out hT hat0 _ _ _ y2).mono ?_); rintro e w6 ⟨rfl, hp, hg⟩; have HG6 : Hid (GrowA pb w w6) := (HG5.out.trans hg); have HP6 : Hid (PaS w6 pb b c T { s0 with at' := s0.at' + 1 }) := hp; have HR6 : Hid (PhZ w6 r) := (HR5.out.grow hg hrp); have HL6 : Hid (Leave w6 pb q) := (HL5.out.grow hg); clear hp hg HP5 HG5 HR5 HL5)
  | (go_at_call 98; (first | refine (HLU.out.use HTB.out HP6.out HG6.out (show r < _ from by have k := HR6.out.lt; first | exact k | (simp; omega))).mono ?_ | refine (HLU.out.use HTB.out (HP6.out.allocI _) (HG6.out.alloc _) (show r < _ from by have k := HR6.out.lt; first | exact k | (simp; omega))).mono ?_ | refine (HLU.out.use HTB.out ((HP6.out.allocI _).allocI _) ((HG6.out.alloc _).alloc _) (show r < _ from by have k := HR6.out.lt; first | exact k | (simp; omega))).mono ?_); rintro e w7 ⟨lo1, v, hlo, hv, rfl, hp, hg⟩; obtain ⟨k0_1, k1_1, k2_1, k5_1, k6_1, k7_1, s3_1, s4_1, s8_1, a9_1, a10_1, l9_1, c9_1, l10_1, c10_1, rfl⟩ := hv.form; have hlo1 := hlo.1; have hlp1 := hlo.2.1; have hlz1 := hlo.2.2; have HG7 : Hid (GrowA pb w w7) := (HG6.out.trans hg); have HP7 : Hid (PaS w7 pb b c T s1) := hp; have HR7 : Hid (PhZ w7 r) := (HR6.out.grow hg hrp); have HL7 : Hid (Leave w7 pb q) := (HL6.out.grow hg); have HV1_7 : Hid (Tre w7 lo1 p [.int .i64 k0_1, .int .i64 k1_1, .int .i64 k2_1, .string s3_1, .string s4_1, .int .i64 k5_1, .int .i64 k6_1, .int .i64 k7_1, .string s8_1, .slice a9_1 l9_1 c9_1, .slice a10_1 l10_1 c10_1]) := hv; obtain ⟨⟨y0, y1, y2, y3, y4, y5, y6, y7, y8, y9, y10⟩, z0, z1, z2, z3, z4, z5, z6, z7, z8, z9, z10⟩ := HR7.out.cells; have hrz := HR7.out.lt; clear hv hlo hp hg HP6 HG6 HR6 HL6))
 obtain ⟨Wd, hWd⟩ : ∃ W, W = ((((((((((((w7.setCell ⟨r, 0, none⟩ (.int .i64 26)).setCell ⟨r, 1, none⟩ (.int .i64 0)).setCell ⟨r, 2, none⟩ (.int .i64 0)).setCell ⟨r, 3, none⟩ (.string ⟨#[]⟩)).setCell ⟨r, 4, none⟩ (.string ⟨#[]⟩)).setCell ⟨r, 5, none⟩ (.int .i64 0)).setCell ⟨r, 6, none⟩ (.int .i64 0)).setCell ⟨r, 7, none⟩ (.int .i64 0)).setCell ⟨r, 8, none⟩ (.string ⟨#[]⟩)).setCell ⟨r, 9, none⟩ (.slice (some ⟨w7.heap.size, 0, none⟩) 1 1)).setCell ⟨r, 10, none⟩ (.slice none 0 0))).alloc (.cells #[.int .i64 k0_1, .int .i64 k1_1, .int .i64 k2_1, .string s3_1, .string s4_1, .int .i64 k5_1, .int .i64 k6_1, .int .i64 k7_1, .string s8_1, .slice a9_1 l9_1 c9_1, .slice a10_1 l10_1 c10_1] 36) := ⟨_, rfl⟩
 have HD : Hid (PaS Wd pb b c T s1) := by
  refine HidOf ?_
  rw [hWd]
  (repeat (first | with_reducible refine PaS.setR ?_ hrp hrb _ _ | with_reducible refine PaS.allocI ?_ _ | exact HP7.out))
 have HE : Hid (GrowA pb w Wd) := by
  refine HidOf ?_
  rw [hWd]
  (repeat (first | with_reducible refine GrowA.setR ?_ HRW.out _ _ | with_reducible refine GrowA.alloc ?_ _ | exact HG7.out))
 have HQ : Hid (Leave Wd pb q) := by
  refine HidOf ?_
  rw [hWd]
  (repeat (first | with_reducible refine Leave.setR ?_ hrq _ _ | with_reducible refine Leave.allocI ?_ _ | exact HL7.out))
 have HZ : Hid (PhB Wd r #[.int .i64 26, .int .i64 0, .int .i64 0, .string ⟨#[]⟩, .string ⟨#[]⟩, .int .i64 0, .int .i64 0, .int .i64 0, .string ⟨#[]⟩, .slice (some ⟨w7.heap.size, 0, none⟩) 1 1, .slice none 0 0]) := by rw [hWd]; exact PhB.allocI (PhB.put HR7.out) _
 have HT : Hid (Tre Wd w.heap.size (phN 26 ⟨0, 0, ⟨#[]⟩⟩ ⟨#[]⟩ 0 0 0 ⟨#[]⟩ 1 (fun _ => p)) [.int .i64 26, .int .i64 0, .int .i64 0, .string ⟨#[]⟩, .string ⟨#[]⟩, .int .i64 0, .int .i64 0, .int .i64 0, .string ⟨#[]⟩, .slice (some ⟨w7.heap.size, 0, none⟩) 1 1, .slice none 0 0]) := by
  refine HidOf ?_
  rw [hWd]
  (refine Tre.mono (lo := lo1) ?_ (by have := HRW.out; omega))
  (refine Phs.tre (A := fun _ => p) (v := .slice (some ⟨w7.heap.size, 0, none⟩) 1 1) ?_)
  (refine phs_at (by simp) ?_ hlz1 rfl)
  (repeat (first | with_reducible refine Tre.setR ?_ hlo1 _ _ | with_reducible refine Tre.allocI ?_ _ | with_reducible exact HV1_7.out))
 rw [← hWd]
 clear hWd
 refine leaves_cons (f := 64) (args := #[.pointer (some ⟨q, 0, none⟩)]) (by simp) (by simp [go_sem]) ?_
 refine (pleave_is HD.out HQ.out hop .returning).mono ?_
 rintro e u' w99 ⟨rfl, rfl, hp, hg⟩
 obtain ⟨⟨u0, u1, u2, u3, u4, u5, u6, u7, u8, u9, u10⟩, _⟩ := (HZ.out.grow hg hrp).cells
 exact ⟨.agg #[.int .i64 26, .int .i64 0, .int .i64 0, .string ⟨#[]⟩, .string ⟨#[]⟩, .int .i64 0, .int .i64 0, .int .i64 0, .string ⟨#[]⟩, .slice (some ⟨w7.heap.size, 0, none⟩) 1 1, .slice none 0 0], by simp [results, Tryz.results98, go_sem, u0, u1, u2, u3, u4, u5, u6, u7, u8, u9, u10], ⟨_, HT.out.grow hg HPW.out, rfl, hp, HE.out.trans hg⟩⟩
end Go.Proofs.YtbnlekhjgkojlaaGreatDoor
