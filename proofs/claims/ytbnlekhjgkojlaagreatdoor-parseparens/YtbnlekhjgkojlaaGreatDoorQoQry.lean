import Derived.Test.YtbnlekhjgkojlaaGreatDoorPtCall
import Derived.Defers
import Derived.Test.YtbnlekhjgkojlaaGreatDoorQoNodF
import Derived.Test.YtbnlekhjgkojlaaGreatDoorQoNodT
import Derived.Test.YtbnlekhjgkojlaaGreatDoorQoArr
import Derived.Test.YtbnlekhjgkojlaaGreatDoorQoNumD
import Derived.Test.YtbnlekhjgkojlaaGreatDoorQoTru
import Derived.Test.YtbnlekhjgkojlaaGreatDoorQoQue
import Derived.Laws.Concat
set_option linter.unusedVariables false
namespace Go.Proofs.YtbnlekhjgkojlaaGreatDoor
set_option maxRecDepth 100000
open Go.RowKit
set_option maxHeartbeats 3200000 in
theorem step_plain {pb b c : Nat} {T : List Tok} {st : Pst} {s0 s1 : Pst} {p : Ph} {u1s : ByteArray} {u1k u1n : Int} (hT : T.length ≤ 200) (hat : st.at' ≤ 300) (ho : st.opn ≤ 100) (hop : 1 ≤ s1.opn ∧ s1.opn ≤ 200) (hat1 : s1.at' ≤ 300) (he : enterM T st (stepB (seeM T st 0)) = s0) (hu1 : seeM T s1 0 = ⟨u1k, u1s, u1n⟩) (nb : eqT ⟨u1k, u1s, u1n⟩ ⟨5, ⟨#[91]⟩, 0⟩ = false) (hlu : RunT pb b c T 122 #[.pointer (some ⟨pb, 0, none⟩)] s0 s1 p) : RunT pb b c T 119 #[.pointer (some ⟨pb, 0, none⟩)] st { s1 with opn := s1.opn - 1 } p := by
 intro w h htb
 have HTB : Hid (RTab w pb) := htb
 clear htb
 have HLU : Hid (RunT pb b c T 122 #[.pointer (some ⟨pb, 0, none⟩)] s0 s1 p) := hlu
 clear hlu
 obtain ⟨beg, hbeg⟩ : ∃ x, x = stepB (seeM T st 0) := ⟨_, rfl⟩
 have SB : Hid (∀ W, PaS W pb b c T st → Calls Tryz.prog 67 #[.pointer (some ⟨pb, 0, none⟩)] W fun e w' => e = .returned (.bool beg) ∧ Below W.heap.size W w') := fun W h => by rw [hbeg]; exact stepBegins_any h hT hat
 rw [← hbeg] at he
 clear hbeg
 have EN := neT_run nb
 have hpl := h.pl
 have hbl := h.bl
 have HPW : Hid (pb < w.heap.size) := hpl
 go_enter_defers Tryz.func119, Tryz.ntmps119
 go_upto_region 1 with fail
 obtain ⟨W1, hW1⟩ : ∃ W, W = w.alloc (.cells #[.int .i64 0, .int .i64 0, .int .i64 0, .string ⟨#[]⟩, .string ⟨#[]⟩, .int .i64 0, .int .i64 0, .int .i64 0, .string ⟨#[]⟩, .slice none 0 0, .slice none 0 0] 36) := ⟨_, rfl⟩
 have HG1 : Hid (GrowA pb w W1) := by rw [hW1]; exact (GrowA.refl _ _).alloc _
 have HP1 : Hid (PaS W1 pb b c T st) := by rw [hW1]; exact h.allocI _
 have HR1 : Hid (PhZ W1 w.heap.size) := by rw [hW1]; exact PhB.new w _
 rw [← hW1]
 obtain ⟨r, hr⟩ : ∃ r, r = w.heap.size := ⟨_, rfl⟩
 have HRW : Hid (w.heap.size ≤ r) := Nat.le_of_eq hr.symm
 have hrp : r ≠ pb := by omega
 have hrb : r ≠ b := by omega
 rw [← hr] at HR1 ⊢
 clear hW1 hr h hpl hbl
 go_wp2_with (first
  | (go_at_call 67; (refine (SB.out _ HP1.out).mono ?_); rintro e w2 ⟨rfl, hb⟩; have HG2 := HidOf (HG1.out.below hb); have HP2 := HidOf (HP1.out.below hb); have HR2 := HidOf (HR1.out.below hb); clear hb HP1 HG1 HR1)
  | (go_at_call 42; (refine (penter_is HP2.out _ ho).mono ?_); rintro e w3 ⟨q, rfl, hl, hp, hg, hq⟩; have HG3 := HidOf (HG2.out.trans hg); have HP3 : Hid (PaS w3 pb b c T s0) := (by rw [← he]; exact hp); have HR3 := HidOf (HR2.out.grow hg hrp); have HL3 : Hid (Leave w3 pb q) := hl; have hrq : r ≠ q := (by have k1 := HR2.out.lt; first | omega | (simp at hq; omega)); clear hl hp hg hq HP2 HG2 HR2)
  | (go_at_call 122; (first | refine (HLU.out.use HTB.out HP3.out HG3.out (show r < _ from by have k := HR3.out.lt; first | exact k | (simp; omega))).mono ?_ | refine (HLU.out.use HTB.out (HP3.out.allocI _) (HG3.out.alloc _) (show r < _ from by have k := HR3.out.lt; first | exact k | (simp; omega))).mono ?_ | refine (HLU.out.use HTB.out ((HP3.out.allocI _).allocI _) ((HG3.out.alloc _).alloc _) (show r < _ from by have k := HR3.out.lt; first | exact k | (simp; omega))).mono ?_); rintro e w4 ⟨lo1, v, hlo, hv, rfl, hp, hg⟩; obtain ⟨k0_1, k1_1, k2_1, k5_1, k6_1, k7_1, s3_1, s4_1, s8_1, a9_1, a10_1, l9_1, c9_1, l10_1, c10_1, rfl⟩ := hv.form; have hlo1 := hlo.1; have hlp1 := hlo.2.1; have hlz1 := hlo.2.2; have HG4 := HidOf (HG3.out.trans hg); have HP4 : Hid (PaS w4 pb b c T s1) := hp; have HR4 := HidOf (HR3.out.grow hg hrp); have HL4 := HidOf (HL3.out.grow hg); have HV1_4 : Hid (Tre w4 lo1 p [.int .i64 k0_1, .int .i64 k1_1, .int .i64 k2_1, .string s3_1, .string s4_1, .int .i64 k5_1, .int .i64 k6_1, .int .i64 k7_1, .string s8_1, .slice a9_1 l9_1 c9_1, .slice a10_1 l10_1 c10_1]) := hv; have hxp : w4.heap.size ≠ pb := (by have := HP4.out.pl; omega); clear hv hlo hp hg HP3 HG3 HR3 HL3)
  | (go_at_call 65; (refine (see_lit (HP4.out.allocI _) 0 (by omega) hT hat1 hu1).mono ?_); rintro e w5 ⟨rfl, hb⟩; have HG5 := HidOf ((HG4.out.alloc _).below hb); have HP5 := HidOf ((HP4.out.allocI _).below hb); have HR5 := HidOf ((HR4.out.allocI _).below hb); have HL5 := HidOf ((HL4.out.allocI _).below hb); have HV1_5 := HidOf ((HV1_4.out.allocI _).below hb); have HX5 : Hid (PhB w5 w4.heap.size #[.int .i64 k0_1, .int .i64 k1_1, .int .i64 k2_1, .string s3_1, .string s4_1, .int .i64 k5_1, .int .i64 k6_1, .int .i64 k7_1, .string s8_1, .slice a9_1 l9_1 c9_1, .slice a10_1 l10_1 c10_1]) := (PhB.new w4 #[.int .i64 k0_1, .int .i64 k1_1, .int .i64 k2_1, .string s3_1, .string s4_1, .int .i64 k5_1, .int .i64 k6_1, .int .i64 k7_1, .string s8_1, .slice a9_1 l9_1 c9_1, .slice a10_1 l10_1 c10_1]).below hb; clear hb HP4 HG4 HR4 HL4 HV1_4)
  | (go_at_call 66; have HNX := HP5; refine (mark_is _ _).mono ?_; rintro e w6 ⟨rfl, hb⟩; have HG6 := HidOf (HG5.out.below hb); have HP6 := HidOf (HP5.out.below hb); have HR6 := HidOf (HR5.out.below hb); have HL6 := HidOf (HL5.out.below hb); have HV1_6 := HidOf (HV1_5.out.below hb); have HX6 := HidOf (HX5.out.below hb); obtain ⟨⟨y0, y1, y2, y3, y4, y5, y6, y7, y8, y9, y10⟩, z0, z1, z2, z3, z4, z5, z6, z7, z8, z9, z10⟩ := HR6.out.cells; obtain ⟨⟨m0, m1, m2, m3, m4, m5, m6, m7, m8, m9, m10⟩, j0, j1, j2, j3, j4, j5, j6, j7, j8, j9, j10⟩ := HX6.out.cells; clear hb HNX HP5 HG5 HR5 HL5 HV1_5 HX5))
 obtain ⟨Wd, hWd⟩ : ∃ W, W = (((((((((((w6.setCell ⟨r, 0, none⟩ (.int .i64 k0_1)).setCell ⟨r, 1, none⟩ (.int .i64 k1_1)).setCell ⟨r, 2, none⟩ (.int .i64 k2_1)).setCell ⟨r, 3, none⟩ (.string s3_1)).setCell ⟨r, 4, none⟩ (.string s4_1)).setCell ⟨r, 5, none⟩ (.int .i64 k5_1)).setCell ⟨r, 6, none⟩ (.int .i64 k6_1)).setCell ⟨r, 7, none⟩ (.int .i64 k7_1)).setCell ⟨r, 8, none⟩ (.string s8_1)).setCell ⟨r, 9, none⟩ (.slice a9_1 l9_1 c9_1)).setCell ⟨r, 10, none⟩ (.slice a10_1 l10_1 c10_1)) := ⟨_, rfl⟩
 have HD : Hid (PaS Wd pb b c T s1) := by
  refine HidOf ?_
  rw [hWd]
  (repeat (first | with_reducible refine PaS.setR ?_ hrp hrb _ _ | with_reducible refine PaS.allocI ?_ _ | exact HP6.out))
 have HE : Hid (GrowA pb w Wd) := by
  refine HidOf ?_
  rw [hWd]
  (repeat (first | with_reducible refine GrowA.setR ?_ HRW.out _ _ | with_reducible refine GrowA.alloc ?_ _ | exact HG6.out))
 have HQ : Hid (Leave Wd pb q) := by
  refine HidOf ?_
  rw [hWd]
  (repeat (first | with_reducible refine Leave.setR ?_ hrq _ _ | with_reducible refine Leave.allocI ?_ _ | exact HL6.out))
 have HZ : Hid (PhB Wd r #[.int .i64 k0_1, .int .i64 k1_1, .int .i64 k2_1, .string s3_1, .string s4_1, .int .i64 k5_1, .int .i64 k6_1, .int .i64 k7_1, .string s8_1, .slice a9_1 l9_1 c9_1, .slice a10_1 l10_1 c10_1]) := by rw [hWd]; exact PhB.put HR6.out
 have HT : Hid (Tre Wd w.heap.size p [.int .i64 k0_1, .int .i64 k1_1, .int .i64 k2_1, .string s3_1, .string s4_1, .int .i64 k5_1, .int .i64 k6_1, .int .i64 k7_1, .string s8_1, .slice a9_1 l9_1 c9_1, .slice a10_1 l10_1 c10_1]) := by
  refine HidOf ?_
  rw [hWd]
  (refine Tre.mono (lo := lo1) ?_ (by have := HRW.out; omega); (repeat (first | with_reducible refine Tre.setR ?_ hlo1 _ _ | with_reducible refine Tre.allocI ?_ _ | with_reducible exact HV1_6.out)))
 rw [← hWd]
 clear hWd
 refine leaves_cons (f := 64) (args := #[.pointer (some ⟨q, 0, none⟩)]) (by simp) (by simp [go_sem]) ?_
 refine (pleave_is HD.out HQ.out hop .returning).mono ?_
 rintro e u' w99 ⟨rfl, rfl, hp, hg⟩
 obtain ⟨⟨u0, u1, u2, u3, u4, u5, u6, u7, u8, u9, u10⟩, _⟩ := (HZ.out.grow hg hrp).cells
 exact ⟨.agg #[.int .i64 k0_1, .int .i64 k1_1, .int .i64 k2_1, .string s3_1, .string s4_1, .int .i64 k5_1, .int .i64 k6_1, .int .i64 k7_1, .string s8_1, .slice a9_1 l9_1 c9_1, .slice a10_1 l10_1 c10_1], by simp [results, Tryz.results119, go_sem, u0, u1, u2, u3, u4, u5, u6, u7, u8, u9, u10], ⟨_, HT.out.grow hg HPW.out, rfl, hp, HE.out.trans hg⟩⟩
theorem nodes_is (d : Int) (n : Nat) (hd : -10 ≤ d ∧ d ≤ 10) (hn : n ≤ 100000) (HQ : 0 < d → QueOk (d - 1) n) : NodOk d (n + 104) := by
 intro w0 w pb dt h
 cases dt
 · exact nodesF_is d n hd hn HQ h
 · exact nodesT_is d n hd hn HQ h
open Go.RowKit
theorem NodOk.more {d : Int} {n m : Nat} (H : NodOk d n) (h : n ≤ m) : NodOk d m := fun k => (H k).mono fun e w' ⟨s, k1, k2⟩ => ⟨s, k1.more h, k2⟩
theorem TextOk.more {d : Int} {n m : Nat} (H : TextOk d n) (h : n ≤ m) : TextOk d m := fun k => (H k).mono fun e w' ⟨s, k1, k2⟩ => ⟨s, k1.more h, k2⟩
theorem NumOk.more {d : Int} {n m : Nat} (H : NumOk d n) (h : n ≤ m) : NumOk d m := fun k => (H k).mono fun e w' ⟨s, k1, k2⟩ => ⟨s, k1.more h, k2⟩
theorem TruOk.more {d : Int} {n m : Nat} (H : TruOk d n) (h : n ≤ m) : TruOk d m := fun k => (H k).mono fun e w' ⟨s, k1, k2⟩ => ⟨s, k1.more h, k2⟩
theorem QueOk.more {d : Int} {n m : Nat} (H : QueOk d n) (h : n ≤ m) : QueOk d m := fun k => (H k).mono fun e w' ⟨s, k1, k2⟩ => ⟨s, k1.more h, k2⟩
theorem nod_m : NodOk (0 - 1) 104 := nodes_is (0 - 1) 0 (by omega) (by omega) (fun h => absurd h (by omega))
theorem nod_0 : NodOk (1 - 1) 104 := nodes_is (1 - 1) 0 (by omega) (by omega) (fun h => absurd h (by omega))
theorem txt_m : TextOk (0 - 1) 40 := qtext_is (0 - 1) 0 (by omega) (by omega) (fun h => absurd h (by omega))
theorem txt_0 : TextOk (1 - 1) 40 := qtext_is (1 - 1) 0 (by omega) (by omega) (fun h => absurd h (by omega))
theorem num_0 : NumOk (1 - 1) 144 := number0_is 0 104 (by omega) (by omega) nod_m (txt_m.more (by omega))
theorem tru_0 : TruOk (1 - 1) 11 := truth0_is (1 - 1) (by omega)
theorem que_0 : QueOk (1 - 1) 6 := query0_ok
theorem que_1 : QueOk 1 530 := query_is 1 150 (by omega) (by omega) (nod_0.more (by omega)) (txt_0.more (by omega)) (num_0.more (by omega)) (tru_0.more (by omega)) (que_0.more (by omega))
theorem nod_1 : NodOk (2 - 1) 110 := nodes_is 1 6 (by omega) (by omega) (fun _ => que_0)
theorem txt_1 : TextOk (2 - 1) 184 := qtext_is 1 144 (by omega) (by omega) (fun _ => num_0)
theorem num_1 : NumOk (2 - 1) 340 := number_is 1 150 (by omega) (by omega) (nod_0.more (by omega)) (txt_0.more (by omega)) (fun _ => num_0.more (by omega))
theorem tru_1 : TruOk (2 - 1) 360 := truth_is 1 150 (by omega) (by omega) (nod_0.more (by omega)) (txt_0.more (by omega)) (num_0.more (by omega)) (tru_0.more (by omega))
theorem que_2 : QueOk 2 1670 := query_is 2 530 (by omega) (by omega) (nod_1.more (by omega)) (txt_1.more (by omega)) (num_1.more (by omega)) (tru_1.more (by omega)) (show QueOk (2 - 1) 530 from que_1)
open Go.RowKit
def TQ (s : ByteArray) (n : Nat) : Prop := (∃ d : Int, d ≤ 2 ∧ Po .que false d s) ∧ True ∧ s.size ≤ n
theorem TQ.more {s : ByteArray} {n m : Nat} (h : TQ s n) (hn : n ≤ m) : TQ s m := ⟨h.1, h.2.1, Nat.le_trans h.2.2 hn⟩
theorem TextP.tq {d : Int} {s : ByteArray} {n : Nat} (h : TextP .que false d s n) (hd : d ≤ 2) : TQ s n := ⟨⟨d, hd, h.1⟩, h.2⟩
theorem GrowQ.from {pb : Nat} {w0 w w' : World} (hb : Below pb w0 w) (h : GrowQ pb w w') (hp : pb ≤ w.heap.size) : Below pb w0 w' := hb.trans (h.low hp)
theorem poet_new {w0 w : World} {v : Value} {n : Nat} {X : Nat → Rw} (hr : RawsIs w v n X) (hf : RawsFine n X) : PoS w (w.alloc (.cells #[v, .bool false, .int .i64 0] 52)) w.heap.size false :=
 ⟨rfl, ⟨v, n, X, ⟨by simp, by simp, by simp, by simp, by simp⟩, hr, hf⟩, (Below.refl _ _).alloc (Nat.le_refl _) _⟩
theorem poet_query {d : Int} {k : Nat} (hd2 : d ≤ 2) (HQ : QueOk d k) {w : World} {v : Value} {n : Nat} {X : Nat → Rw} (hr : RawsIs w v n X) (hf : RawsFine n X) :
 Calls Tryz.prog 16 #[.pointer (some ⟨w.heap.size, 0, none⟩), .int .i64 d] (w.alloc (.cells #[v, .bool false, .int .i64 0] 52)) fun e w' => ∃ s, Hid (TQ s k) ∧ e = .returned (.string s) ∧ Below w.heap.size w w' :=
 (HQ (poet_new (w0 := w) hr hf)).mono fun e w' ⟨s, k1, k2, k3, k4⟩ => ⟨s, k1.tq hd2, k2, k4.lo⟩
set_option maxHeartbeats 1600000 in
theorem query_text {n1 n2 : Nat} (H2 : QueOk 2 n2) (H1 : QueOk 1 n1) (hn : n1 ≤ 1000000 ∧ n2 ≤ 1000000) (v : Value) (n : Nat) (X : Nat → Rw) (w : World) (hr : RawsIs w v n X) (hf : RawsFine n X) :
 Calls Tryz.prog 8 #[v] w fun e w' => ∃ s, TQ s 190 ∧ e = .returned (.string s) ∧ Below w.heap.size w w' := by
 have C2 : Hid (Calls Tryz.prog 16 #[.pointer (some ⟨w.heap.size, 0, none⟩), .int .i64 2] (w.alloc (.cells #[v, .bool false, .int .i64 0] 52)) fun e w' => ∃ s, Hid (TQ s n2) ∧ e = .returned (.string s) ∧ Below w.heap.size w w') := poet_query (by decide) H2 hr hf
 have C1 : Hid (∀ W, Below w.heap.size w W → Calls Tryz.prog 16 #[.pointer (some ⟨W.heap.size, 0, none⟩), .int .i64 1] (W.alloc (.cells #[v, .bool false, .int .i64 0] 52)) fun e w' => ∃ s, Hid (TQ s n1) ∧ e = .returned (.string s) ∧ Below W.heap.size W w') := fun W hW => poet_query (by decide) H1 (hr.below hW) hf
 have C0 : Hid (∀ W, Below w.heap.size w W → Calls Tryz.prog 16 #[.pointer (some ⟨W.heap.size, 0, none⟩), .int .i64 0] (W.alloc (.cells #[v, .bool false, .int .i64 0] 52)) fun e w' => ∃ s, Hid (TQ s 6) ∧ e = .returned (.string s) ∧ Below W.heap.size W w') := fun W hW => poet_query (by decide) query0_ok (hr.below hW) hf
 clear H2 H1
 obtain ⟨a, cap, rfl, _, _, _⟩ := hr
 clear hf
 go_enter Tryz.func8, Tryz.ntmps8
 go_wp2_with (first
  | (go_at_call 16; refine C2.out.mono ?_; rintro e w1 ⟨s1, HT1, rfl, hb1⟩; have HB1 : Hid (Below w.heap.size w w1) := hb1; clear hb1 C2))
 go_loopw [3, 4, 5] (fun pv sv iv wr => ∃ (j pb : Nat) (s : ByteArray), pv = .pointer (some ⟨pb, 0, none⟩) ∧ j ≤ 2 ∧ iv = .int .i64 j ∧ sv = .string s ∧ TQ s 1000000 ∧ (j = 2 → s.size ≤ 190) ∧ Below w.heap.size w wr) (fun _ _ iv _ => 2 - (intOf iv).toNat)
 case atStart => exact ⟨0, _, s1, rfl, by omega, rfl, rfl, HT1.out.more hn.2, fun h => by omega, HB1.out⟩
 case round =>
  obtain ⟨j, pb, s, rfl, hj, rfl, rfl, hs, h2, hbw⟩ := hrel
  have HS : Hid (TQ s 1000000) := hs
  have HBW : Hid (Below w.heap.size w wr) := hbw
  have hsz : s.size ≤ 1000000 := hs.2.2
  clear hs hbw
  by_cases hl : 190 < s.size
  · have hli : (190 : Int) < (s.size : Int) := by omega
    have e2 : j = 0 ∨ j = 1 := by omega
    clear h2
    rcases e2 with rfl | rfl
    · rw [show ((0 : Nat) : Int) = 0 from rfl]
      go_wp2_with (first
       | (go_at_call 16; refine (C1.out _ HBW.out).mono ?_; rintro e w2 ⟨s2, HT2, rfl, hb2⟩; have HB2 : Hid (Below w.heap.size w w2) := HBW.out.trans (hb2.mono HBW.out.size); clear hb2))
      go_roundw
      case rel => exact ⟨1, _, s2, rfl, by omega, by go_num, rfl, HT2.out.more hn.1, fun h => by omega, HB2.out⟩
      case measure => simp [intOf]
    · rw [show ((1 : Nat) : Int) = 1 from rfl]
      go_wp2_with (first
       | (go_at_call 16; refine (C0.out _ HBW.out).mono ?_; rintro e w2 ⟨s2, HT2, rfl, hb2⟩; have HB2 : Hid (Below w.heap.size w w2) := HBW.out.trans (hb2.mono HBW.out.size); clear hb2))
      go_roundw
      case rel => exact ⟨2, _, s2, rfl, by omega, by go_num, rfl, HT2.out.more (by omega), fun _ => by have := HT2.out.2.2; omega, HB2.out⟩
      case measure => simp [intOf]
  · have hli : ¬ ((190 : Int) < (s.size : Int)) := by omega
    clear h2
    go_wp2_with fail
    go_ret
    exact ⟨s, ⟨HS.out.1, HS.out.2.1, by omega⟩, rfl, HBW.out⟩
end Go.Proofs.YtbnlekhjgkojlaaGreatDoor
