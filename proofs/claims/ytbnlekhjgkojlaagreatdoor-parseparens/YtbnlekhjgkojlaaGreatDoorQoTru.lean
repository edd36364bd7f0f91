import Derived.Test.YtbnlekhjgkojlaaGreatDoorQoArr
import Derived.Laws.Concat
set_option linter.unusedVariables false
namespace Go.Proofs.YtbnlekhjgkojlaaGreatDoor
set_option maxRecDepth 100000
open Go.RowKit
set_option maxHeartbeats 6400000 in
theorem truth0_is (d : Int) (hd : -10 ≤ d ∧ d ≤ 0) : TruOk d 11 := by
 intro w0 w pb dt h
 have hpw := h.lt
 have CN : Hid (Calls Tryz.prog 34 #[.pointer (some ⟨pb, 0, none⟩)] w fun e w' => ∃ r, e = .returned (.agg #[.int .i64 r.k, .int .i64 r.a, .int .i64 r.b, .int .i64 r.c, .string r.t]) ∧ RwFine r ∧ GrowQ pb w w' ∧ PoS w0 w' pb dt) := next_is h
 clear h
 go_enter Tryz.func38, Tryz.ntmps38
 go_upto_region 2 with (first
  | (go_at_call 34; refine CN.out.mono ?_; rintro e w1 ⟨r, rfl, hr, hg1, hp1⟩; have HG1 : Hid (GrowQ pb w w1) := hg1; have HP1 : Hid (PoS w0 w1 pb dt) := hp1; have HR : Hid (RwFine r) := hr; clear hg1 hp1 hr))
 obtain ⟨⟨rk, ra, rb', rc, rt⟩, hre⟩ : ∃ q, q = r := ⟨_, rfl⟩
 subst hre
 obtain ⟨W2, hW2⟩ : ∃ W, W = w1.alloc (.cells #[.int .i64 rk, .int .i64 ra, .int .i64 rb', .int .i64 rc, .string rt] 81) := ⟨_, rfl⟩
 have hx0 : W2.cell? ⟨w1.heap.size, 0, none⟩ = some (.int .i64 rk) := by rw [hW2]; simp
 have hx1 : W2.cell? ⟨w1.heap.size, 1, none⟩ = some (.int .i64 ra) := by rw [hW2]; simp
 have hx2 : W2.cell? ⟨w1.heap.size, 2, none⟩ = some (.int .i64 rb') := by rw [hW2]; simp
 have hx4 : W2.cell? ⟨w1.heap.size, 4, none⟩ = some (.string rt) := by rw [hW2]; simp
 have hxs : W2.heap.size = w1.heap.size + 1 := by rw [hW2]; simp
 have HP2 : Hid (PoS w0 W2 pb dt) := by rw [hW2]; exact HP1.out.below ((Below.refl _ _).alloc (Nat.le_refl _) _)
 have HG2 : Hid (GrowQ pb w W2) := by rw [hW2]; exact HG1.out.alloc _
 dsimp only
 rw [← hW2]
 clear hW2
 obtain ⟨ri, hri⟩ : ∃ b, b = w1.heap.size := ⟨_, rfl⟩
 rw [← hri] at hx0 hx1 hx2 hx4 hxs ⊢
 have hpri : pb < ri := by rw [hri]; exact HP1.out.lt
 clear hri HP1 HG1 CN
 obtain ⟨v0, n0, X0, hpo, _, _⟩ := HP2.out.st
 obtain ⟨y0, y1, y2, y3, y4⟩ := hpo
 have hlt : ri < W2.heap.size := by omega
 obtain ⟨q4, hq4, q4_lt⟩ := pk_nat (n := rk) (m := 4) (by omega)
 have Cq4 : Hid (∀ W, Calls Tryz.prog 10 #[.int .i64 rk, .int .i64 4] W fun e w' => e = .returned (.int .i64 q4) ∧ W = w') := fun W => (picked_is rk 4 W HR.out.1 (by omega) (by omega)).mono fun e w' ⟨k1, k2⟩ => ⟨by rw [k1]; exact ret_int hq4, k2.symm⟩
 clear hq4
 have hd0 : d ≤ 0 := hd.2
 have e4 : q4 = 0 ∨ q4 = 1 ∨ q4 = 2 ∨ q4 = 3 := by omega
 rcases e4 with rfl | rfl | rfl | rfl
 · go_wp2_with (first | (go_at_call 10; refine (Cq4.out _).mono ?_; rintro e w9 ⟨rfl, rfl⟩; clear Cq4))
   all_goals
    go_ret
    exact ⟨_, tr_true.more (by omega), rfl, HG2.out.alloc _, HP2.out.below ((Below.refl _ _).alloc (Nat.le_refl _) _)⟩
 · go_wp2_with (first | (go_at_call 10; refine (Cq4.out _).mono ?_; rintro e w9 ⟨rfl, rfl⟩; clear Cq4))
   all_goals
    go_ret
    exact ⟨_, tr_false.more (by omega), rfl, HG2.out.alloc _, HP2.out.below ((Below.refl _ _).alloc (Nat.le_refl _) _)⟩
 · go_wp2_with (first | (go_at_call 10; refine (Cq4.out _).mono ?_; rintro e w9 ⟨rfl, rfl⟩; clear Cq4))
   all_goals
    go_ret
    exact ⟨_, tr_ex.more (by omega), rfl, HG2.out.alloc _, HP2.out.below ((Below.refl _ _).alloc (Nat.le_refl _) _)⟩
 · go_wp2_with (first | (go_at_call 10; refine (Cq4.out _).mono ?_; rintro e w9 ⟨rfl, rfl⟩; clear Cq4))
   all_goals
    go_ret
    exact ⟨_, tr_lt.more (by omega), rfl, HG2.out.alloc _, HP2.out.below ((Below.refl _ _).alloc (Nat.le_refl _) _)⟩
def opTruL : Oper := { dst := some 42, op := Op.load 9 (Operand.tmp 41), type := 9, pos := "raw.go:214", after := #[{ on := 8, ground := Ground.data }], guard := none }
theorem opTruL_eq : opTruL = { dst := some 42, op := Op.load 9 (Operand.tmp 41), type := 9, pos := "raw.go:214", after := #[{ on := 8, ground := Ground.data }], guard := none } := rfl
set_option maxHeartbeats 6400000 in
theorem truth_is (d : Int) (n : Nat) (hd : 0 < d ∧ d ≤ 10) (hn : n ≤ 40000) (HNo : NodOk (d - 1) n) (HTx : TextOk (d - 1) n) (HNu : NumOk (d - 1) n) (HTr : TruOk (d - 1) n) : TruOk d (n + n + 60) := by
 intro w0 w pb dt h
 have hpw := h.lt
 have CN : Hid (Calls Tryz.prog 34 #[.pointer (some ⟨pb, 0, none⟩)] w fun e w' => ∃ r, e = .returned (.agg #[.int .i64 r.k, .int .i64 r.a, .int .i64 r.b, .int .i64 r.c, .string r.t]) ∧ RwFine r ∧ GrowQ pb w w' ∧ PoS w0 w' pb dt) := next_is h
 clear h
 go_enter Tryz.func38, Tryz.ntmps38
 go_upto_region 2 with (first
  | (go_at_call 34; refine CN.out.mono ?_; rintro e w1 ⟨r, rfl, hr, hg1, hp1⟩; have HG1 : Hid (GrowQ pb w w1) := hg1; have HP1 : Hid (PoS w0 w1 pb dt) := hp1; have HR : Hid (RwFine r) := hr; clear hg1 hp1 hr))
 obtain ⟨⟨rk, ra, rb', rc, rt⟩, hre⟩ : ∃ q, q = r := ⟨_, rfl⟩
 subst hre
 obtain ⟨W2, hW2⟩ : ∃ W, W = w1.alloc (.cells #[.int .i64 rk, .int .i64 ra, .int .i64 rb', .int .i64 rc, .string rt] 81) := ⟨_, rfl⟩
 have hx0 : W2.cell? ⟨w1.heap.size, 0, none⟩ = some (.int .i64 rk) := by rw [hW2]; simp
 have hx1 : W2.cell? ⟨w1.heap.size, 1, none⟩ = some (.int .i64 ra) := by rw [hW2]; simp
 have hx2 : W2.cell? ⟨w1.heap.size, 2, none⟩ = some (.int .i64 rb') := by rw [hW2]; simp
 have hx4 : W2.cell? ⟨w1.heap.size, 4, none⟩ = some (.string rt) := by rw [hW2]; simp
 have hxs : W2.heap.size = w1.heap.size + 1 := by rw [hW2]; simp
 have HP2 : Hid (PoS w0 W2 pb dt) := by rw [hW2]; exact HP1.out.below ((Below.refl _ _).alloc (Nat.le_refl _) _)
 have HG2 : Hid (GrowQ pb w W2) := by rw [hW2]; exact HG1.out.alloc _
 dsimp only
 rw [← hW2]
 clear hW2
 obtain ⟨ri, hri⟩ : ∃ b, b = w1.heap.size := ⟨_, rfl⟩
 rw [← hri] at hx0 hx1 hx2 hx4 hxs ⊢
 have hpri : pb < ri := by rw [hri]; exact HP1.out.lt
 clear hri HP1 HG1 CN
 obtain ⟨v0, n0, X0, hpo, _, _⟩ := HP2.out.st
 obtain ⟨y0, y1, y2, y3, y4⟩ := hpo
 have hlt : ri < W2.heap.size := by omega
 obtain ⟨q7, hq7, q7_lt⟩ := pk_nat (n := rk) (m := 7) (by omega)
 have Cq7 : Hid (∀ W, Calls Tryz.prog 10 #[.int .i64 rk, .int .i64 7] W fun e w' => e = .returned (.int .i64 q7) ∧ W = w') := fun W => (picked_is rk 7 W HR.out.1 (by omega) (by omega)).mono fun e w' ⟨k1, k2⟩ => ⟨by rw [k1]; exact ret_int hq7, k2.symm⟩
 clear hq7
 have CP1 : Hid (∀ W, Calls Tryz.prog 61 #[.string rt, .int .i64 1] W fun e w' => ∃ x : ByteArray, Let x.data.toList ∧ x.size ≤ 6 ∧ e = .returned (.string x) ∧ Below W.heap.size W w') := fun W => by
  have k := plain_any rt 1 W HR.out.2.2.2.2 (by omega)
  exact k.mono fun e w' ⟨k1, k2⟩ => ⟨_, pl_let _ _, by rw [pl_size]; omega, k1, k2⟩
 have hwr : IntKind.i64.wrap (d - 1) = d - 1 := IntWalk.i64_in _ (by omega)
 have hd0 : ¬ d ≤ 0 := by omega
 have e7 : q7 = 0 ∨ q7 = 1 ∨ q7 = 2 ∨ q7 = 3 ∨ q7 = 4 ∨ q7 = 5 ∨ q7 = 6 := by omega
 rcases e7 with rfl | rfl | rfl | rfl | rfl | rfl | rfl
 · skip
   have C3 : Hid (∀ W, GrowQ pb w W → PoS w0 W pb dt → Calls Tryz.prog 35 #[.pointer (some ⟨pb, 0, none⟩), .int .i64 (d - 1)] W fun e w' => ∃ s, Hid (TextP .nod dt (d - 1) s n) ∧ s.size ≤ 40000 ∧ e = .returned (.string s) ∧ GrowQ pb w w' ∧ PoS w0 w' pb dt) := fun W hW hP => (HNo hP).mono fun e w' ⟨s, k1, k2, k3, k4⟩ => ⟨s, k1, Nat.le_trans k1.2.2 hn, k2, hW.trans k3, k4⟩
   have C4 : Hid (∀ W, GrowQ pb w W → PoS w0 W pb dt → Calls Tryz.prog 37 #[.pointer (some ⟨pb, 0, none⟩), .int .i64 (d - 1)] W fun e w' => ∃ s, Hid (TextP .txt dt (d - 1) s n) ∧ s.size ≤ 40000 ∧ e = .returned (.string s) ∧ GrowQ pb w w' ∧ PoS w0 w' pb dt) := fun W hW hP => (HTx hP).mono fun e w' ⟨s, k1, k2, k3, k4⟩ => ⟨s, k1, Nat.le_trans k1.2.2 hn, k2, hW.trans k3, k4⟩
   go_wp2_with (first
    | (go_at_call 10; refine (Cq7.out _).mono ?_; rintro e w9 ⟨rfl, rfl⟩; clear Cq7)
    | (go_at_call 35; refine (C3.out _ HG2.out HP2.out).mono ?_; rintro e w3 ⟨s3, HT3, hl3, rfl, hg, hp⟩; have HG3 : Hid (GrowQ pb w w3) := hg; have HP3 : Hid (PoS w0 w3 pb dt) := hp; clear hg hp C3)
    | (go_at_call 37; refine (C4.out _ HG3.out HP3.out).mono ?_; rintro e w4 ⟨s4, HT4, hl4, rfl, hg, hp⟩; have HG4 : Hid (GrowQ pb w w4) := hg; have HP4 : Hid (PoS w0 w4 pb dt) := hp; clear hg hp C4))
   all_goals
    go_ret
    exact ⟨_, (tr_eq HT3.out HT4.out).more (by omega), rfl, HG4.out, HP4.out⟩
 · skip
   obtain ⟨ia, hia, ia_lt⟩ := pk_nat (n := ra) (m := 5) (by omega)
   have CA : Hid (∀ W, Calls Tryz.prog 10 #[.int .i64 ra, .int .i64 5] W fun e w' => e = .returned (.int .i64 ia) ∧ W = w') := fun W => (picked_is ra 5 W HR.out.2.1 (by omega) (by omega)).mono fun e w' ⟨k1, k2⟩ => ⟨by rw [k1]; exact ret_int hia, k2.symm⟩
   have ia_i : (ia : Int) < 5 := by omega
   obtain ⟨zo, hzo, hto, hsc⟩ := tru_arr dt d (by omega) ia ia_lt
   have HTO : Hid (∀ (s u : ByteArray) (n : Nat), TextP .num dt (d - 1) s n → TextP .num dt (d - 1) u n → TextP .tru dt d (s ++ zo ++ u) (n + n + 4)) := hto
   have C3 : Hid (∀ W, GrowQ pb W2 W → PoS w0 W pb dt → Calls Tryz.prog 36 #[.pointer (some ⟨pb, 0, none⟩), .int .i64 (d - 1)] W fun e w' => ∃ s, Hid (TextP .num dt (d - 1) s n) ∧ s.size ≤ 40000 ∧ e = .returned (.string s) ∧ GrowQ pb W w' ∧ GrowQ pb W2 w' ∧ PoS w0 w' pb dt) := fun W hW hP => (HNu hP).mono fun e w' ⟨s, k1, k2, k3, k4⟩ => ⟨s, k1, Nat.le_trans k1.2.2 hn, k2, k3, hW.trans k3, k4⟩
   have C4 := C3
   have hlp : pb < W2.heap.size := by omega
   clear hia hto ia_lt hxs
   have HSS : Hid (∀ W, GrowQ pb W2 W → W.cell? ⟨ri, 1, none⟩ = some (.int .i64 ra) ∧ ri < W.heap.size) := fun W h => ⟨(h.cell hlt (by omega)).trans hx1, Nat.lt_of_lt_of_le hlt h.1⟩
   go_upto_region 8 with (first | (go_at_call 10; refine (Cq7.out _).mono ?_; rintro e w9 ⟨rfl, rfl⟩; clear Cq7))
   rw [← opTruL_eq]
   have hop := opTruL_eq
   go_region_held3 (fun W => W.cell? ⟨ri, 1, none⟩ = some (.int .i64 ra) ∧ ri < W.heap.size)
    ((refine HSS.out _ ?_; repeat (first | exact Hid.out (by assumption) | exact GrowQ.refl _ _ | refine GrowQ.alloc ?_ _)))
    (first
     | (go_at_call 36; refine (C3.out _ ?_ ?_).mono ?_; (focus (repeat (first | exact GrowQ.refl _ _ | refine GrowQ.alloc ?_ _))); (focus (repeat (first | exact Hid.out (by assumption) | refine PoS.drewI ?_ | refine PoS.allocI ?_ _))); rintro e w3 ⟨s3, HT3, hl3, rfl, hb, hg, hp⟩; (first | (have zz := arrBox hsc hb (by simpa using hlp); obtain ⟨z0, z1, z2⟩ := zz) | (have zz := arrBoxD hsc hb (by simpa using hlp); obtain ⟨z0, z1, z2⟩ := zz) | (have zz := arrKept hb z0 z1 z2; clear z0 z1 z2; obtain ⟨z0, z1, z2⟩ := zz) | skip); have HG3 : Hid (GrowQ pb W2 w3) := hg; have HP3 : Hid (PoS w0 w3 pb dt) := hp; clear hlp; have hlp := hp.lt; have hq0 : ¬ 9223372036854775807 < s3.size + zo.size := (by omega); clear hb hg hp C3)
     | (go_at_call 36; refine (C4.out _ ?_ ?_).mono ?_; (focus (repeat (first | exact Hid.out (by assumption) | refine GrowQ.alloc ?_ _))); (focus (repeat (first | exact Hid.out (by assumption) | refine PoS.allocI ?_ _))); rintro e w4 ⟨s4, HT4, hl4, rfl, hb, hg, hp⟩; (first | (have zz := arrBox hsc hb (by simpa using hlp); obtain ⟨z0, z1, z2⟩ := zz) | (have zz := arrBoxD hsc hb (by simpa using hlp); obtain ⟨z0, z1, z2⟩ := zz) | (have zz := arrKept hb z0 z1 z2; clear z0 z1 z2; obtain ⟨z0, z1, z2⟩ := zz) | skip); have HG4 : Hid (GrowQ pb W2 w4) := hg; have HP4 : Hid (PoS w0 w4 pb dt) := hp; clear hlp; have hlp := hp.lt; have hq1 : ¬ 9223372036854775807 < s3.size + zo.size + s4.size := (by omega); clear hb hg hp C4)
     | (go_at_call_has 10 (Value.int .i64 ra); refine (CA.out _).mono ?_; rintro e w9 ⟨rfl, rfl⟩))
   all_goals
    clear hop
    go_wp2_with fail
    go_ret
    exact ⟨_, (HTO.out s3 s4 n HT3.out HT4.out).more (by omega), rfl, by first | exact HG2.out.trans HG4.out | exact (HG2.out.trans HG4.out).alloc _, by repeat (first | exact Hid.out (by assumption) | refine PoS.allocI ?_ _)⟩
 · skip
   have C3 : Hid (∀ W, GrowQ pb w W → PoS w0 W pb dt → Calls Tryz.prog 35 #[.pointer (some ⟨pb, 0, none⟩), .int .i64 (d - 1)] W fun e w' => ∃ s, Hid (TextP .nod dt (d - 1) s n) ∧ s.size ≤ 40000 ∧ e = .returned (.string s) ∧ GrowQ pb w w' ∧ PoS w0 w' pb dt) := fun W hW hP => (HNo hP).mono fun e w' ⟨s, k1, k2, k3, k4⟩ => ⟨s, k1, Nat.le_trans k1.2.2 hn, k2, hW.trans k3, k4⟩
   go_wp2_with (first
    | (go_at_call 10; refine (Cq7.out _).mono ?_; rintro e w9 ⟨rfl, rfl⟩; clear Cq7)
    | (go_at_call 35; refine (C3.out _ HG2.out HP2.out).mono ?_; rintro e w3 ⟨s3, HT3, hl3, rfl, hg, hp⟩; have HG3 : Hid (GrowQ pb w w3) := hg; have HP3 : Hid (PoS w0 w3 pb dt) := hp; clear hg hp C3))
   all_goals
    go_ret
    exact ⟨_, (tr_empty HT3.out).more (by omega), rfl, HG3.out, HP3.out⟩
 · skip
   have C3 : Hid (∀ W, GrowQ pb w W → PoS w0 W pb dt → Calls Tryz.prog 38 #[.pointer (some ⟨pb, 0, none⟩), .int .i64 (d - 1)] W fun e w' => ∃ s, Hid (TextP .tru dt (d - 1) s n) ∧ s.size ≤ 40000 ∧ e = .returned (.string s) ∧ GrowQ pb w w' ∧ PoS w0 w' pb dt) := fun W hW hP => (HTr hP).mono fun e w' ⟨s, k1, k2, k3, k4⟩ => ⟨s, k1, Nat.le_trans k1.2.2 hn, k2, hW.trans k3, k4⟩
   have C4 : Hid (∀ W, GrowQ pb w W → PoS w0 W pb dt → Calls Tryz.prog 38 #[.pointer (some ⟨pb, 0, none⟩), .int .i64 (d - 1)] W fun e w' => ∃ s, Hid (TextP .tru dt (d - 1) s n) ∧ s.size ≤ 40000 ∧ e = .returned (.string s) ∧ GrowQ pb w w' ∧ PoS w0 w' pb dt) := fun W hW hP => (HTr hP).mono fun e w' ⟨s, k1, k2, k3, k4⟩ => ⟨s, k1, Nat.le_trans k1.2.2 hn, k2, hW.trans k3, k4⟩
   go_wp2_with (first
    | (go_at_call 10; refine (Cq7.out _).mono ?_; rintro e w9 ⟨rfl, rfl⟩; clear Cq7)
    | (go_at_call 38; refine (C3.out _ HG2.out HP2.out).mono ?_; rintro e w3 ⟨s3, HT3, hl3, rfl, hg, hp⟩; have HG3 : Hid (GrowQ pb w w3) := hg; have HP3 : Hid (PoS w0 w3 pb dt) := hp; clear hg hp C3)
    | (go_at_call 38; refine (C4.out _ HG3.out HP3.out).mono ?_; rintro e w4 ⟨s4, HT4, hl4, rfl, hg, hp⟩; have HG4 : Hid (GrowQ pb w w4) := hg; have HP4 : Hid (PoS w0 w4 pb dt) := hp; clear hg hp C4))
   all_goals
    go_ret
    exact ⟨_, (tr_not HT3.out HT4.out).more (by omega), rfl, HG4.out, HP4.out⟩
 · skip
   obtain ⟨ia, hia, ia_lt⟩ := pk_nat (n := ra) (m := 20) (by omega)
   have CA : Hid (∀ W, Calls Tryz.prog 10 #[.int .i64 ra, .int .i64 20] W fun e w' => e = .returned (.int .i64 ia) ∧ W = w') := fun W => (picked_is ra 20 W HR.out.2.1 (by omega) (by omega)).mono fun e w' ⟨k1, k2⟩ => ⟨by rw [k1]; exact ret_int hia, k2.symm⟩
   obtain ⟨zi, hzi⟩ : ∃ z : ByteArray, z = ⟨(Lib.decDigits ia).toArray⟩ := ⟨_, rfl⟩
   have CI : Hid (∀ W, Calls Tryz.prog 39 #[.int .i64 ia] W fun e w' => e = .returned (.string zi) ∧ W = w') := fun W => (Tryz.strconv_Itoa_small ia (by omega) W).mono fun e w' ⟨k1, k2⟩ => ⟨by rw [hzi]; exact k1, k2.symm⟩
   have zi_l : zi.size ≤ 2 := by rw [hzi]; exact dec_len (by omega)
   have C3 : Hid (∀ W, GrowQ pb W2 W → PoS w0 W pb dt → Calls Tryz.prog 35 #[.pointer (some ⟨pb, 0, none⟩), .int .i64 (d - 1)] W fun e w' => ∃ s, Hid (TextP .nod dt (d - 1) s n) ∧ s.size ≤ 40000 ∧ e = .returned (.string s) ∧ GrowQ pb W2 w' ∧ PoS w0 w' pb dt) := fun W hW hP => (HNo hP).mono fun e w' ⟨s, k1, k2, k3, k4⟩ => ⟨s, k1, Nat.le_trans k1.2.2 hn, k2, hW.trans k3, k4⟩
   have HT : Hid (∀ s : ByteArray, TextP .nod dt (d - 1) s n → TextP .tru dt d (⟨#[40, 115, 111, 109, 101, 32, 36, 113, 32, 105, 110, 32]⟩ ++ s ++ ⟨#[32, 115, 97, 116, 105, 115, 102, 105, 101, 115, 32, 36, 113, 32, 61, 32]⟩ ++ zi ++ ⟨#[41]⟩) (n + 31)) := fun s hs => by rw [hzi]; exact tr_some hs (by omega)
   clear hia hzi
   have HSS : Hid (∀ W, GrowQ pb W2 W → W.cell? ⟨ri, 1, none⟩ = some (.int .i64 ra) ∧ ri < W.heap.size) := fun W h => ⟨(h.cell hlt (by omega)).trans hx1, Nat.lt_of_lt_of_le hlt h.1⟩
   go_upto_region 14 with (first | (go_at_call 10; refine (Cq7.out _).mono ?_; rintro e w9 ⟨rfl, rfl⟩; clear Cq7))
   go_region_held3 (fun W => W.cell? ⟨ri, 1, none⟩ = some (.int .i64 ra) ∧ ri < W.heap.size)
    ((refine HSS.out _ ?_; repeat (first | exact Hid.out (by assumption) | exact GrowQ.refl _ _)))
    (first
     | (go_at_call 35; refine (C3.out _ ?_ ?_).mono ?_; (focus (repeat (exact GrowQ.refl _ _))); (focus (repeat (first | exact Hid.out (by assumption) | refine PoS.drewI ?_))); rintro e w3 ⟨s3, HT3, hl3, rfl, hg, hp⟩; have HG3 : Hid (GrowQ pb W2 w3) := hg; have HP3 : Hid (PoS w0 w3 pb dt) := hp; have hq0 : ¬ 9223372036854775807 < 12 + s3.size := (by omega); have hq1 : ¬ 9223372036854775807 < 12 + s3.size + 16 := (by omega); have hq2 : ¬ 9223372036854775807 < 12 + s3.size + 16 + zi.size := (by omega); have hq3 : ¬ 9223372036854775807 < 12 + s3.size + 16 + zi.size + 1 := (by omega); clear hg hp C3)
     | (go_at_call_has 10 (Value.int .i64 ra); refine (CA.out _).mono ?_; rintro e w9 ⟨rfl, rfl⟩)
     | (go_at_call_has 39 (Value.int .i64 ia); refine (CI.out _).mono ?_; rintro e w9 ⟨rfl, rfl⟩))
   all_goals
    go_wp2_with fail
    go_ret
    exact ⟨_, (HT.out s3 HT3.out).more (by omega), rfl, HG2.out.trans HG3.out, by repeat (exact Hid.out (by assumption))⟩
 · skip
   have C3 : Hid (∀ W, GrowQ pb W2 W → PoS w0 W pb dt → Calls Tryz.prog 37 #[.pointer (some ⟨pb, 0, none⟩), .int .i64 (d - 1)] W fun e w' => ∃ s, Hid (TextP .txt dt (d - 1) s n) ∧ s.size ≤ 40000 ∧ e = .returned (.string s) ∧ GrowQ pb W2 w' ∧ PoS w0 w' pb dt) := fun W hW hP => (HTx hP).mono fun e w' ⟨s, k1, k2, k3, k4⟩ => ⟨s, k1, Nat.le_trans k1.2.2 hn, k2, hW.trans k3, k4⟩
   have C5 : Hid (∀ W, GrowQ pb W2 W → PoS w0 W pb dt → Calls Tryz.prog 38 #[.pointer (some ⟨pb, 0, none⟩), .int .i64 (d - 1)] W fun e w' => ∃ s, Hid (TextP .tru dt (d - 1) s n) ∧ s.size ≤ 40000 ∧ e = .returned (.string s) ∧ GrowQ pb W2 w' ∧ PoS w0 w' pb dt) := fun W hW hP => (HTr hP).mono fun e w' ⟨s, k1, k2, k3, k4⟩ => ⟨s, k1, Nat.le_trans k1.2.2 hn, k2, hW.trans k3, k4⟩
   have CPX : Hid (∀ W, GrowQ pb W2 W → PoS w0 W pb dt → Calls Tryz.prog 61 #[.string rt, .int .i64 1] W fun e w' => ∃ x : ByteArray, Let x.data.toList ∧ x.size ≤ 6 ∧ e = .returned (.string x) ∧ GrowQ pb W2 w' ∧ PoS w0 w' pb dt) := fun W hW hP => (CP1.out W).mono fun e w' ⟨x, k1, k2, k3, k4⟩ => ⟨x, k1, k2, k3, hW.below k4, hP.below k4⟩
   have HSS : Hid (∀ W, GrowQ pb W2 W → W.cell? ⟨ri, 4, none⟩ = some (.string rt) ∧ ri < W.heap.size) := fun W h => ⟨(h.cell hlt (by omega)).trans hx4, Nat.lt_of_lt_of_le hlt h.1⟩
   go_upto_region 16 with (first | (go_at_call 10; refine (Cq7.out _).mono ?_; rintro e w9 ⟨rfl, rfl⟩; clear Cq7))
   go_region_held3 (fun W => W.cell? ⟨ri, 4, none⟩ = some (.string rt) ∧ ri < W.heap.size)
    ((refine HSS.out _ ?_; repeat (first | exact Hid.out (by assumption) | exact GrowQ.refl _ _)))
    (first
     | (go_at_call 37; refine (C3.out _ ?_ ?_).mono ?_; (focus (repeat (exact GrowQ.refl _ _))); (focus (repeat (first | exact Hid.out (by assumption) | refine PoS.drewI ?_))); rintro e w3 ⟨s3, HT3, hl3, rfl, hg, hp⟩; have HG3 : Hid (GrowQ pb W2 w3) := hg; have HP3 : Hid (PoS w0 w3 pb dt) := hp; have hq0 : ¬ 9223372036854775807 < 9 + s3.size := (by omega); have hq1 : ¬ 9223372036854775807 < 9 + s3.size + 3 := (by omega); clear hg hp C3)
     | (go_at_call 61; refine (CPX.out _ ?_ ?_).mono ?_; (focus (repeat (exact Hid.out (by assumption)))); (focus (repeat (exact Hid.out (by assumption)))); rintro e w4 ⟨x, hx, hxl, rfl, hg, hp⟩; have HX : Hid (Let x.data.toList) := hx; have HG4 : Hid (GrowQ pb W2 w4) := hg; have HP4 : Hid (PoS w0 w4 pb dt) := hp; have hq2 : ¬ 9223372036854775807 < 9 + s3.size + 3 + x.size := (by omega); have hq3 : ¬ 9223372036854775807 < 9 + s3.size + 3 + x.size + 6 := (by omega);  clear hx hg hp CPX)
     | (go_at_call 38; refine (C5.out _ ?_ ?_).mono ?_; (focus (repeat (exact Hid.out (by assumption)))); (focus (repeat (exact Hid.out (by assumption)))); rintro e w5 ⟨s5, HT5, hl5, rfl, hg, hp⟩; have HG5 : Hid (GrowQ pb W2 w5) := hg; have HP5 : Hid (PoS w0 w5 pb dt) := hp; have hq4 : ¬ 9223372036854775807 < 9 + s3.size + 3 + x.size + 6 + s5.size := (by omega); clear hg hp C5))
   all_goals
    go_wp2_with fail
    go_ret
    exact ⟨_, (tr_cont HT3.out HT5.out HX.out hxl).more (by omega), rfl, HG2.out.trans HG5.out, by repeat (exact Hid.out (by assumption))⟩
 · skip
   have C3 : Hid (∀ W, GrowQ pb w W → PoS w0 W pb dt → Calls Tryz.prog 35 #[.pointer (some ⟨pb, 0, none⟩), .int .i64 (d - 1)] W fun e w' => ∃ s, Hid (TextP .nod dt (d - 1) s n) ∧ s.size ≤ 40000 ∧ e = .returned (.string s) ∧ GrowQ pb w w' ∧ PoS w0 w' pb dt) := fun W hW hP => (HNo hP).mono fun e w' ⟨s, k1, k2, k3, k4⟩ => ⟨s, k1, Nat.le_trans k1.2.2 hn, k2, hW.trans k3, k4⟩
   go_wp2_with (first
    | (go_at_call 10; refine (Cq7.out _).mono ?_; rintro e w9 ⟨rfl, rfl⟩; clear Cq7)
    | (go_at_call 35; refine (C3.out _ HG2.out HP2.out).mono ?_; rintro e w3 ⟨s3, HT3, hl3, rfl, hg, hp⟩; have HG3 : Hid (GrowQ pb w w3) := hg; have HP3 : Hid (PoS w0 w3 pb dt) := hp; clear hg hp C3))
   all_goals
    go_ret
    exact ⟨_, (tr_every HT3.out).more (by omega), rfl, HG3.out, HP3.out⟩
end Go.Proofs.YtbnlekhjgkojlaaGreatDoor
