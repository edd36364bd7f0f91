import Derived.Test.YtbnlekhjgkojlaaGreatDoorQoArr
import Derived.Laws.Concat
set_option linter.unusedVariables false
namespace Go.Proofs.YtbnlekhjgkojlaaGreatDoor
set_option maxRecDepth 100000
open Go.RowKit
def opNumL : Oper := { dst := some 57, op := Op.load 9 (Operand.tmp 56), type := 9, pos := "raw.go:175", after := #[{ on := 9, ground := Ground.data }], guard := none }
theorem opNumL_eq : opNumL = { dst := some 57, op := Op.load 9 (Operand.tmp 56), type := 9, pos := "raw.go:175", after := #[{ on := 9, ground := Ground.data }], guard := none } := rfl
set_option maxHeartbeats 6400000 in
theorem number_is (d : Int) (n : Nat) (hd : 0 < d ∧ d ≤ 10) (hn : n ≤ 40000) (HNo : NodOk (d - 1) n) (HTx : TextOk (d - 1) n) (HNu : 0 < d → NumOk (d - 1) n) : NumOk d (n + n + 40) := by
 intro w0 w pb dt h
 have hpw := h.lt
 have CN : Hid (Calls Tryz.prog 34 #[.pointer (some ⟨pb, 0, none⟩)] w fun e w' => ∃ r, e = .returned (.agg #[.int .i64 r.k, .int .i64 r.a, .int .i64 r.b, .int .i64 r.c, .string r.t]) ∧ RwFine r ∧ GrowQ pb w w' ∧ PoS w0 w' pb dt) := next_is h
 clear h
 go_enter Tryz.func36, Tryz.ntmps36
 go_upto_region 2 with (first
  | (go_at_call 34; refine CN.out.mono ?_; rintro e w1 ⟨r, rfl, hr, hg1, hp1⟩; have HG1 : Hid (GrowQ pb w w1) := hg1; have HP1 : Hid (PoS w0 w1 pb dt) := hp1; have HR : Hid (RwFine r) := hr; clear hg1 hp1 hr))
 obtain ⟨⟨rk, ra, rb', rc, rt⟩, hre⟩ : ∃ q, q = r := ⟨_, rfl⟩
 subst hre
 obtain ⟨W2, hW2⟩ : ∃ W, W = w1.alloc (.cells #[.int .i64 rk, .int .i64 ra, .int .i64 rb', .int .i64 rc, .string rt] 81) := ⟨_, rfl⟩
 have hx0 : W2.cell? ⟨w1.heap.size, 0, none⟩ = some (.int .i64 rk) := by rw [hW2]; simp
 have hx1 : W2.cell? ⟨w1.heap.size, 1, none⟩ = some (.int .i64 ra) := by rw [hW2]; simp
 have hx2 : W2.cell? ⟨w1.heap.size, 2, none⟩ = some (.int .i64 rb') := by rw [hW2]; simp
 have hx4 : W2.cell? ⟨w1.heap.size, 4, none⟩ = some (.string rt) := by rw [hW2]; simp
 have hxs : W2.heap.size = w1.heap.size + 1 := by rw [hW2]; simp
 have HP2 : Hid (PoS w0 W2 pb dt) := by rw [hW2]; exact HP1.out.below ((Below.refl _ _).alloc (Nat.le_refl _) _)
 have HG2 : Hid (GrowQ pb w W2) := by rw [hW2]; exact HG1.out.alloc _
 dsimp only
 rw [← hW2]
 clear hW2
 obtain ⟨ri, hri⟩ : ∃ b, b = w1.heap.size := ⟨_, rfl⟩
 rw [← hri] at hx0 hx1 hx2 hx4 hxs ⊢
 have hpri : pb < ri := by rw [hri]; exact HP1.out.lt
 clear hri HP1 HG1 CN
 obtain ⟨v0, n0, X0, hpo, _, _⟩ := HP2.out.st
 obtain ⟨y0, y1, y2, y3, y4⟩ := hpo
 have hlt : ri < W2.heap.size := by omega
 obtain ⟨q7, hq7, q7_lt⟩ := pk_nat (n := rk) (m := 7) (by omega)
 have Cq7 : Hid (∀ W, Calls Tryz.prog 10 #[.int .i64 rk, .int .i64 7] W fun e w' => e = .returned (.int .i64 q7) ∧ W = w') := fun W => (picked_is rk 7 W HR.out.1 (by omega) (by omega)).mono fun e w' ⟨k1, k2⟩ => ⟨by rw [k1]; exact ret_int hq7, k2.symm⟩
 clear hq7
 have CP4 : Hid (∀ W, Calls Tryz.prog 61 #[.string rt, .int .i64 4] W fun e w' => ∃ x : ByteArray, Let x.data.toList ∧ x.size ≤ 6 ∧ e = .returned (.string x) ∧ Below W.heap.size W w') := fun W => by
  have k := plain_any rt 4 W HR.out.2.2.2.2 (by omega)
  exact k.mono fun e w' ⟨k1, k2⟩ => ⟨_, pl_let _ _, by rw [pl_size]; omega, k1, k2⟩
 have hwr : IntKind.i64.wrap (d - 1) = d - 1 := IntWalk.i64_in _ (by omega)
 have hd0 : 0 < d := hd.1
 have e7 : q7 = 0 ∨ q7 = 1 ∨ q7 = 2 ∨ q7 = 3 ∨ q7 = 4 ∨ q7 = 5 ∨ q7 = 6 := by omega
 rcases e7 with rfl | rfl | rfl | rfl | rfl | rfl | rfl
 · skip
   obtain ⟨ia, hia, ia_lt⟩ := pk_nat (n := ra) (m := 12) (by omega)
   have CA : Hid (∀ W, Calls Tryz.prog 10 #[.int .i64 ra, .int .i64 12] W fun e w' => e = .returned (.int .i64 ia) ∧ W = w') := fun W => (picked_is ra 12 W HR.out.2.1 (by omega) (by omega)).mono fun e w' ⟨k1, k2⟩ => ⟨by rw [k1]; exact ret_int hia, k2.symm⟩
   obtain ⟨zi, hzi⟩ : ∃ z : ByteArray, z = ⟨(Lib.decDigits ia).toArray⟩ := ⟨_, rfl⟩
   have CI : Hid (∀ W, Calls Tryz.prog 39 #[.int .i64 ia] W fun e w' => e = .returned (.string zi) ∧ W = w') := fun W => (Tryz.strconv_Itoa_small ia (by omega) W).mono fun e w' ⟨k1, k2⟩ => ⟨by rw [hzi]; exact k1, k2.symm⟩
   have hzl : zi.size ≤ 2 := by rw [hzi]; exact dec_len (by omega)
   have HT : Hid (TextP .num dt d zi 2) := by rw [hzi]; exact nu_dec (by omega)
   clear hia hzi
   go_wp2_with (first
    | (go_at_call 10; refine (Cq7.out _).mono ?_; rintro e w4 ⟨rfl, rfl⟩; clear Cq7)
    | (go_at_call 10; refine (CA.out _).mono ?_; rintro e w4 ⟨rfl, rfl⟩; clear CA)
    | (go_at_call 39; refine (CI.out _).mono ?_; rintro e w4 ⟨rfl, rfl⟩; clear CI))
   all_goals
    go_ret
    exact ⟨_, HT.out.more (by omega), rfl, HG2.out, HP2.out⟩
 · skip
   obtain ⟨ia, hia, ia_lt⟩ := pk_nat (n := ra) (m := 12) (by omega)
   have CA : Hid (∀ W, Calls Tryz.prog 10 #[.int .i64 ra, .int .i64 12] W fun e w' => e = .returned (.int .i64 ia) ∧ W = w') := fun W => (picked_is ra 12 W HR.out.2.1 (by omega) (by omega)).mono fun e w' ⟨k1, k2⟩ => ⟨by rw [k1]; exact ret_int hia, k2.symm⟩
   obtain ⟨zi, hzi⟩ : ∃ z : ByteArray, z = ⟨(Lib.decDigits ia).toArray⟩ := ⟨_, rfl⟩
   have CI : Hid (∀ W, Calls Tryz.prog 39 #[.int .i64 ia] W fun e w' => e = .returned (.string zi) ∧ W = w') := fun W => (Tryz.strconv_Itoa_small ia (by omega) W).mono fun e w' ⟨k1, k2⟩ => ⟨by rw [hzi]; exact k1, k2.symm⟩
   have hzl : zi.size ≤ 2 := by rw [hzi]; exact dec_len (by omega)
   have HT : Hid (TextP .num dt d zi 2) := by rw [hzi]; exact nu_dec (by omega)
   clear hia hzi
   go_wp2_with (first
    | (go_at_call 10; refine (Cq7.out _).mono ?_; rintro e w4 ⟨rfl, rfl⟩; clear Cq7)
    | (go_at_call 10; refine (CA.out _).mono ?_; rintro e w4 ⟨rfl, rfl⟩; clear CA)
    | (go_at_call 39; refine (CI.out _).mono ?_; rintro e w4 ⟨rfl, rfl⟩; clear CI))
   all_goals
    go_ret
    exact ⟨_, HT.out.more (by omega), rfl, HG2.out, HP2.out⟩
 · skip
   have CM : Hid (Calls Tryz.prog 35 #[.pointer (some ⟨pb, 0, none⟩), .int .i64 (d - 1)] W2 fun e w' => ∃ s, TextP .nod dt (d - 1) s n ∧ e = .returned (.string s) ∧ GrowQ pb w w' ∧ PoS w0 w' pb dt) := (HNo HP2.out).mono fun e w' ⟨s, k1, k2, k3, k4⟩ => ⟨s, k1, k2, HG2.out.trans k3, k4⟩
   go_wp2_with (first
    | (go_at_call 10; refine (Cq7.out _).mono ?_; rintro e w4 ⟨rfl, rfl⟩; clear Cq7)
    | (go_at_call 35; refine CM.out.mono ?_; rintro e w3 ⟨s, hs, rfl, hg, hp⟩; have HS : Hid (TextP .nod dt (d - 1) s n) := hs; have HG3 : Hid (GrowQ pb w w3) := hg; have HP3 : Hid (PoS w0 w3 pb dt) := hp; have hs1 : s.size ≤ 100000 := (Nat.le_trans hs.2.2 (by omega)); clear hs hg hp))
   all_goals
    go_ret
    exact ⟨_, (nu_count HS.out).more (by omega), rfl, HG3.out, HP3.out⟩
 · cases dt
   · skip
     go_wp2_with (first
      | (go_at_call 10; refine (Cq7.out _).mono ?_; rintro e w4 ⟨rfl, rfl⟩; clear Cq7)
      | (go_at_call 61; refine (CP4.out _).mono ?_; rintro e w3 ⟨x, hx, hxl, rfl, hb⟩; have HX : Hid (Let x.data.toList) := hx; have HG3 : Hid (GrowQ pb w w3) := (HG2.out.below hb); have HP3 : Hid (PoS w0 w3 pb _) := (HP2.out.below hb); clear hx hb))
     all_goals
      go_ret
      exact ⟨_, (nu_len HX.out hxl).more (by omega), rfl, HG3.out, HP3.out⟩
   · skip
     obtain ⟨ia, hia, ia_lt⟩ := pk_nat (n := ra) (m := 2) (by omega)
     have CA : Hid (∀ W, Calls Tryz.prog 10 #[.int .i64 ra, .int .i64 2] W fun e w' => e = .returned (.int .i64 ia) ∧ W = w') := fun W => (picked_is ra 2 W HR.out.2.1 (by omega) (by omega)).mono fun e w' ⟨k1, k2⟩ => ⟨by rw [k1]; exact ret_int hia, k2.symm⟩
     clear hia
     have e2 : ia = 0 ∨ ia = 1 := by omega
     rcases e2 with rfl | rfl
     · go_wp2_with (first
        | (go_at_call 10; refine (Cq7.out _).mono ?_; rintro e w4 ⟨rfl, rfl⟩; clear Cq7)
        | (go_at_call 10; refine (CA.out _).mono ?_; rintro e w4 ⟨rfl, rfl⟩; clear CA))
       all_goals
        go_ret
        exact ⟨_, nu_pos.more (by omega), rfl, HG2.out.alloc _, HP2.out.below ((Below.refl _ _).alloc (Nat.le_refl _) _)⟩
     · go_wp2_with (first
        | (go_at_call 10; refine (Cq7.out _).mono ?_; rintro e w4 ⟨rfl, rfl⟩; clear Cq7)
        | (go_at_call 10; refine (CA.out _).mono ?_; rintro e w4 ⟨rfl, rfl⟩; clear CA))
       all_goals
        go_ret
        exact ⟨_, nu_last.more (by omega), rfl, HG2.out.alloc _, HP2.out.below ((Below.refl _ _).alloc (Nat.le_refl _) _)⟩
 · skip
   obtain ⟨ia, hia, ia_lt⟩ := pk_nat (n := ra) (m := 5) (by omega)
   have CA : Hid (∀ W, Calls Tryz.prog 10 #[.int .i64 ra, .int .i64 5] W fun e w' => e = .returned (.int .i64 ia) ∧ W = w') := fun W => (picked_is ra 5 W HR.out.2.1 (by omega) (by omega)).mono fun e w' ⟨k1, k2⟩ => ⟨by rw [k1]; exact ret_int hia, k2.symm⟩
   have ia_i : (ia : Int) < 5 := by omega
   obtain ⟨zo, hzo, hto, hsc⟩ := num_arr dt d (by omega) ia ia_lt
   have HTO : Hid (∀ (s u : ByteArray) (n : Nat), TextP .num dt (d - 1) s n → TextP .num dt (d - 1) u n → TextP .num dt d (⟨#[40]⟩ ++ s ++ zo ++ u ++ ⟨#[41]⟩) (n + n + 7)) := hto
   have C3 : Hid (∀ W, GrowQ pb W2 W → PoS w0 W pb dt → Calls Tryz.prog 36 #[.pointer (some ⟨pb, 0, none⟩), .int .i64 (d - 1)] W fun e w' => ∃ s, Hid (TextP .num dt (d - 1) s n) ∧ s.size ≤ 40000 ∧ e = .returned (.string s) ∧ GrowQ pb W w' ∧ GrowQ pb W2 w' ∧ PoS w0 w' pb dt) := fun W hW hP => ((HNu hd0) hP).mono fun e w' ⟨s, k1, k2, k3, k4⟩ => ⟨s, k1, Nat.le_trans k1.2.2 hn, k2, k3, hW.trans k3, k4⟩
   have C4 := C3
   have hlp : pb < W2.heap.size := by omega
   clear hia hto ia_lt hxs
   have HSS : Hid (∀ W, GrowQ pb W2 W → W.cell? ⟨ri, 1, none⟩ = some (.int .i64 ra) ∧ ri < W.heap.size) := fun W h => ⟨(h.cell hlt (by omega)).trans hx1, Nat.lt_of_lt_of_le hlt h.1⟩
   go_upto_region 14 with (first | (go_at_call 10; refine (Cq7.out _).mono ?_; rintro e w9 ⟨rfl, rfl⟩; clear Cq7))
   rw [← opNumL_eq]
   have hop := opNumL_eq
   go_region_held3 (fun W => W.cell? ⟨ri, 1, none⟩ = some (.int .i64 ra) ∧ ri < W.heap.size)
    ((refine HSS.out _ ?_; repeat (first | exact Hid.out (by assumption) | exact GrowQ.refl _ _ | refine GrowQ.alloc ?_ _)))
    (first
     | (go_at_call 36; refine (C3.out _ ?_ ?_).mono ?_; (focus (repeat (first | exact GrowQ.refl _ _ | refine GrowQ.alloc ?_ _))); (focus (repeat (first | exact Hid.out (by assumption) | refine PoS.drewI ?_ | refine PoS.allocI ?_ _))); rintro e w3 ⟨s3, HT3, hl3, rfl, hb, hg, hp⟩; (first | (have zz := arrBox hsc hb (by simpa using hlp); obtain ⟨z0, z1, z2⟩ := zz) | (have zz := arrBoxD hsc hb (by simpa using hlp); obtain ⟨z0, z1, z2⟩ := zz) | (have zz := arrKept hb z0 z1 z2; clear z0 z1 z2; obtain ⟨z0, z1, z2⟩ := zz) | skip); have HG3 : Hid (GrowQ pb W2 w3) := hg; have HP3 : Hid (PoS w0 w3 pb dt) := hp; clear hlp; have hlp := hp.lt; have hq0 : ¬ 9223372036854775807 < 1 + s3.size := (by omega); have hq1 : ¬ 9223372036854775807 < 1 + s3.size + zo.size := (by omega); clear hb hg hp C3)
     | (go_at_call 36; refine (C4.out _ ?_ ?_).mono ?_; (focus (repeat (first | exact Hid.out (by assumption) | refine GrowQ.alloc ?_ _))); (focus (repeat (first | exact Hid.out (by assumption) | refine PoS.allocI ?_ _))); rintro e w4 ⟨s4, HT4, hl4, rfl, hb, hg, hp⟩; (first | (have zz := arrBox hsc hb (by simpa using hlp); obtain ⟨z0, z1, z2⟩ := zz) | (have zz := arrBoxD hsc hb (by simpa using hlp); obtain ⟨z0, z1, z2⟩ := zz) | (have zz := arrKept hb z0 z1 z2; clear z0 z1 z2; obtain ⟨z0, z1, z2⟩ := zz) | skip); have HG4 : Hid (GrowQ pb W2 w4) := hg; have HP4 : Hid (PoS w0 w4 pb dt) := hp; clear hlp; have hlp := hp.lt; have hq2 : ¬ 9223372036854775807 < 1 + s3.size + zo.size + s4.size := (by omega); have hq3 : ¬ 9223372036854775807 < 1 + s3.size + zo.size + s4.size + 1 := (by omega); clear hb hg hp C4)
     | (go_at_call_has 10 (Value.int .i64 ra); refine (CA.out _).mono ?_; rintro e w9 ⟨rfl, rfl⟩))
   all_goals
    clear hop
    go_wp2_with fail
    go_ret
    exact ⟨_, (HTO.out s3 s4 n HT3.out HT4.out).more (by omega), rfl, by first | exact HG2.out.trans HG4.out | exact (HG2.out.trans HG4.out).alloc _, by repeat (first | exact Hid.out (by assumption) | refine PoS.allocI ?_ _)⟩
 · skip
   obtain ⟨ia, hia, ia_lt⟩ := pk_nat (n := ra) (m := 9) (by omega)
   have CA : Hid (∀ W, Calls Tryz.prog 10 #[.int .i64 ra, .int .i64 9] W fun e w' => e = .returned (.int .i64 ia) ∧ W = w') := fun W => (picked_is ra 9 W HR.out.2.1 (by omega) (by omega)).mono fun e w' ⟨k1, k2⟩ => ⟨by rw [k1]; exact ret_int hia, k2.symm⟩
   obtain ⟨zi, hzi⟩ : ∃ z : ByteArray, z = ⟨(Lib.decDigits ia).toArray⟩ := ⟨_, rfl⟩
   have CI : Hid (∀ W, Calls Tryz.prog 39 #[.int .i64 ia] W fun e w' => e = .returned (.string zi) ∧ W = w') := fun W => (Tryz.strconv_Itoa_small ia (by omega) W).mono fun e w' ⟨k1, k2⟩ => ⟨by rw [hzi]; exact k1, k2.symm⟩
   have hzl : zi.size ≤ 2 := by rw [hzi]; exact dec_len (by omega)
   obtain ⟨ib, hib, ib_lt⟩ := pk_nat (n := rb') (m := 9) (by omega)
   have CB : Hid (∀ W, Calls Tryz.prog 10 #[.int .i64 rb', .int .i64 9] W fun e w' => e = .returned (.int .i64 ib) ∧ W = w') := fun W => (picked_is rb' 9 W HR.out.2.2.1 (by omega) (by omega)).mono fun e w' ⟨k1, k2⟩ => ⟨by rw [k1]; exact ret_int hib, k2.symm⟩
   obtain ⟨zj, hzj⟩ : ∃ z : ByteArray, z = ⟨(Lib.decDigits ib).toArray⟩ := ⟨_, rfl⟩
   have CJ : Hid (∀ W, Calls Tryz.prog 39 #[.int .i64 ib] W fun e w' => e = .returned (.string zj) ∧ W = w') := fun W => (Tryz.strconv_Itoa_small ib (by omega) W).mono fun e w' ⟨k1, k2⟩ => ⟨by rw [hzj]; exact k1, k2.symm⟩
   have hzm : zj.size ≤ 2 := by rw [hzj]; exact dec_len (by omega)
   have HT : Hid (TextP .num dt d (⟨#[115, 117, 109, 40, 40]⟩ ++ zi ++ ⟨#[44, 32]⟩ ++ zj ++ ⟨#[41, 41]⟩) 40) := by rw [hzi, hzj]; exact nu_sum (by omega) (by omega)
   have hq1 : ¬ 9223372036854775807 < 5 + zi.size := by omega
   have hq2 : ¬ 9223372036854775807 < 5 + zi.size + 2 := by omega
   have hq3 : ¬ 9223372036854775807 < 5 + zi.size + 2 + zj.size := by omega
   have hq4 : ¬ 9223372036854775807 < 5 + zi.size + 2 + zj.size + 2 := by omega
   clear hia hib hzi hzj
   go_upto_region 17 with (first | (go_at_call 10; refine (Cq7.out _).mono ?_; rintro e w4 ⟨rfl, rfl⟩; clear Cq7))
   go_region_held3 (fun W => W.cell? ⟨ri, 1, none⟩ = some (.int .i64 ra) ∧ W.cell? ⟨ri, 2, none⟩ = some (.int .i64 rb'))
    (exact ⟨hx1, hx2⟩)
    (first
     | (go_at_call_has 10 (Value.int .i64 ra); refine (CA.out _).mono ?_; rintro e w4 ⟨rfl, rfl⟩)
     | (go_at_call_has 10 (Value.int .i64 rb'); refine (CB.out _).mono ?_; rintro e w4 ⟨rfl, rfl⟩)
     | (go_at_call_has 39 (Value.int .i64 ia); refine (CI.out _).mono ?_; rintro e w4 ⟨rfl, rfl⟩)
     | (go_at_call_has 39 (Value.int .i64 ib); refine (CJ.out _).mono ?_; rintro e w4 ⟨rfl, rfl⟩))
   all_goals
    go_wp2_with fail
    go_ret
    exact ⟨_, HT.out.more (by omega), rfl, HG2.out, HP2.out.below (Below.refl _ _).drew⟩
 · skip
   have CM : Hid (Calls Tryz.prog 37 #[.pointer (some ⟨pb, 0, none⟩), .int .i64 (d - 1)] W2 fun e w' => ∃ s, TextP .txt dt (d - 1) s n ∧ e = .returned (.string s) ∧ GrowQ pb w w' ∧ PoS w0 w' pb dt) := (HTx HP2.out).mono fun e w' ⟨s, k1, k2, k3, k4⟩ => ⟨s, k1, k2, HG2.out.trans k3, k4⟩
   go_wp2_with (first
    | (go_at_call 10; refine (Cq7.out _).mono ?_; rintro e w4 ⟨rfl, rfl⟩; clear Cq7)
    | (go_at_call 37; refine CM.out.mono ?_; rintro e w3 ⟨s, hs, rfl, hg, hp⟩; have HS : Hid (TextP .txt dt (d - 1) s n) := hs; have HG3 : Hid (GrowQ pb w w3) := hg; have HP3 : Hid (PoS w0 w3 pb dt) := hp; have hs1 : s.size ≤ 100000 := (Nat.le_trans hs.2.2 (by omega)); clear hs hg hp))
   all_goals
    go_ret
    exact ⟨_, (nu_slen HS.out).more (by omega), rfl, HG3.out, HP3.out⟩
end Go.Proofs.YtbnlekhjgkojlaaGreatDoor
