import Derived.Test.YtbnlekhjgkojlaaGreatDoorQoArr
import Derived.Laws.Concat
set_option linter.unusedVariables false
namespace Go.Proofs.YtbnlekhjgkojlaaGreatDoor
set_option maxRecDepth 100000
open Go.RowKit
def opOrdL : Oper := { dst := some 106, op := Op.load 9 (Operand.tmp 105), type := 9, pos := "raw.go:249", after := #[{ on := 10, ground := Ground.data }], guard := none }
theorem opOrdL_eq : opOrdL = { dst := some 106, op := Op.load 9 (Operand.tmp 105), type := 9, pos := "raw.go:249", after := #[{ on := 10, ground := Ground.data }], guard := none } := rfl
def opFnL : Oper := { dst := some 138, op := Op.load 9 (Operand.tmp 137), type := 9, pos := "raw.go:255", after := #[{ on := 4, ground := Ground.data }], guard := none }
theorem opFnL_eq : opFnL = { dst := some 138, op := Op.load 9 (Operand.tmp 137), type := 9, pos := "raw.go:255", after := #[{ on := 4, ground := Ground.data }], guard := none } := rfl
set_option maxHeartbeats 6400000 in
theorem query_is (d : Int) (n : Nat) (hd : 0 < d ∧ d ≤ 10) (hn : n ≤ 40000) (HNo : NodOk (d - 1) n) (HTx : TextOk (d - 1) n) (HNu : NumOk (d - 1) n) (HTr : TruOk (d - 1) n) (HQu : QueOk (d - 1) n) : QueOk d (n + n + n + 80) := by
 intro w0 w pb dt h
 have hpw := h.lt
 have CN : Hid (Calls Tryz.prog 34 #[.pointer (some ⟨pb, 0, none⟩)] w fun e w' => ∃ r, e = .returned (.agg #[.int .i64 r.k, .int .i64 r.a, .int .i64 r.b, .int .i64 r.c, .string r.t]) ∧ RwFine r ∧ GrowQ pb w w' ∧ PoS w0 w' pb dt) := next_is h
 clear h
 go_enter Tryz.func16, Tryz.ntmps16
 go_upto_region 2 with (first
  | (go_at_call 34; refine CN.out.mono ?_; rintro e w1 ⟨r, rfl, hr, hg1, hp1⟩; have HG1 : Hid (GrowQ pb w w1) := hg1; have HP1 : Hid (PoS w0 w1 pb dt) := hp1; have HR : Hid (RwFine r) := hr; clear hg1 hp1 hr))
 obtain ⟨⟨rk, ra, rb', rc, rt⟩, hre⟩ : ∃ q, q = r := ⟨_, rfl⟩
 subst hre
 obtain ⟨W2, hW2⟩ : ∃ W, W = w1.alloc (.cells #[.int .i64 rk, .int .i64 ra, .int .i64 rb', .int .i64 rc, .string rt] 81) := ⟨_, rfl⟩
 have hx0 : W2.cell? ⟨w1.heap.size, 0, none⟩ = some (.int .i64 rk) := by rw [hW2]; simp
 have hx1 : W2.cell? ⟨w1.heap.size, 1, none⟩ = some (.int .i64 ra) := by rw [hW2]; simp
 have hx2 : W2.cell? ⟨w1.heap.size, 2, none⟩ = some (.int .i64 rb') := by rw [hW2]; simp
 have hx4 : W2.cell? ⟨w1.heap.size, 4, none⟩ = some (.string rt) := by rw [hW2]; simp
 have hxs : W2.heap.size = w1.heap.size + 1 := by rw [hW2]; simp
 have HP2 : Hid (PoS w0 W2 pb dt) := by rw [hW2]; exact HP1.out.below ((Below.refl _ _).alloc (Nat.le_refl _) _)
 have HG2 : Hid (GrowQ pb w W2) := by rw [hW2]; exact HG1.out.alloc _
 dsimp only
 rw [← hW2]
 clear hW2
 obtain ⟨ri, hri⟩ : ∃ b, b = w1.heap.size := ⟨_, rfl⟩
 rw [← hri] at hx0 hx1 hx2 hx4 hxs ⊢
 have hpri : pb < ri := by rw [hri]; exact HP1.out.lt
 clear hri HP1 HG1 CN
 obtain ⟨v0, n0, X0, hpo, _, _⟩ := HP2.out.st
 obtain ⟨y0, y1, y2, y3, y4⟩ := hpo
 have hlt : ri < W2.heap.size := by omega
 obtain ⟨q14, hq14, q14_lt⟩ := pk_nat (n := rk) (m := 14) (by omega)
 have Cq14 : Hid (∀ W, Calls Tryz.prog 10 #[.int .i64 rk, .int .i64 14] W fun e w' => e = .returned (.int .i64 q14) ∧ W = w') := fun W => (picked_is rk 14 W HR.out.1 (by omega) (by omega)).mono fun e w' ⟨k1, k2⟩ => ⟨by rw [k1]; exact ret_int hq14, k2.symm⟩
 clear hq14
 have hwr : IntKind.i64.wrap (d - 1) = d - 1 := IntWalk.i64_in _ (by omega)
 have hd0 : ¬ d ≤ 0 := by omega
 have e14 : q14 = 0 ∨ q14 = 1 ∨ q14 = 2 ∨ q14 = 3 ∨ q14 = 4 ∨ q14 = 5 ∨ q14 = 6 ∨ q14 = 7 ∨ q14 = 8 ∨ q14 = 9 ∨ q14 = 10 ∨ q14 = 11 ∨ q14 = 12 ∨ q14 = 13 := by omega
 rcases e14 with rfl | rfl | rfl | rfl | rfl | rfl | rfl | rfl | rfl | rfl | rfl | rfl | rfl | rfl
 · skip
   have C3 : Hid (∀ W, GrowQ pb w W → PoS w0 W pb dt → Calls Tryz.prog 35 #[.pointer (some ⟨pb, 0, none⟩), .int .i64 (d - 1)] W fun e w' => ∃ s, Hid (TextP .nod dt (d - 1) s n) ∧ s.size ≤ 40000 ∧ e = .returned (.string s) ∧ GrowQ pb w w' ∧ PoS w0 w' pb dt) := fun W hW hP => (HNo hP).mono fun e w' ⟨s, k1, k2, k3, k4⟩ => ⟨s, k1, Nat.le_trans k1.2.2 hn, k2, hW.trans k3, k4⟩
   go_wp2_with (first
    | (go_at_call 10; refine (Cq14.out _).mono ?_; rintro e w9 ⟨rfl, rfl⟩; clear Cq14)
    | (go_at_call 35; refine (C3.out _ HG2.out HP2.out).mono ?_; rintro e w3 ⟨s3, HT3, hl3, rfl, hg, hp⟩; have HG3 : Hid (GrowQ pb w w3) := hg; have HP3 : Hid (PoS w0 w3 pb dt) := hp; clear hg hp C3))
   all_goals
    go_ret
    exact ⟨_, (qu_nod HT3.out).more (by omega), rfl, HG3.out, HP3.out⟩
 · skip
   have C3 : Hid (∀ W, GrowQ pb w W → PoS w0 W pb dt → Calls Tryz.prog 35 #[.pointer (some ⟨pb, 0, none⟩), .int .i64 (d - 1)] W fun e w' => ∃ s, Hid (TextP .nod dt (d - 1) s n) ∧ s.size ≤ 40000 ∧ e = .returned (.string s) ∧ GrowQ pb w w' ∧ PoS w0 w' pb dt) := fun W hW hP => (HNo hP).mono fun e w' ⟨s, k1, k2, k3, k4⟩ => ⟨s, k1, Nat.le_trans k1.2.2 hn, k2, hW.trans k3, k4⟩
   go_wp2_with (first
    | (go_at_call 10; refine (Cq14.out _).mono ?_; rintro e w9 ⟨rfl, rfl⟩; clear Cq14)
    | (go_at_call 35; refine (C3.out _ HG2.out HP2.out).mono ?_; rintro e w3 ⟨s3, HT3, hl3, rfl, hg, hp⟩; have HG3 : Hid (GrowQ pb w w3) := hg; have HP3 : Hid (PoS w0 w3 pb dt) := hp; clear hg hp C3))
   all_goals
    go_ret
    exact ⟨_, (qu_nod HT3.out).more (by omega), rfl, HG3.out, HP3.out⟩
 · skip
   have C3 : Hid (∀ W, GrowQ pb w W → PoS w0 W pb dt → Calls Tryz.prog 35 #[.pointer (some ⟨pb, 0, none⟩), .int .i64 (d - 1)] W fun e w' => ∃ s, Hid (TextP .nod dt (d - 1) s n) ∧ s.size ≤ 40000 ∧ e = .returned (.string s) ∧ GrowQ pb w w' ∧ PoS w0 w' pb dt) := fun W hW hP => (HNo hP).mono fun e w' ⟨s, k1, k2, k3, k4⟩ => ⟨s, k1, Nat.le_trans k1.2.2 hn, k2, hW.trans k3, k4⟩
   go_wp2_with (first
    | (go_at_call 10; refine (Cq14.out _).mono ?_; rintro e w9 ⟨rfl, rfl⟩; clear Cq14)
    | (go_at_call 35; refine (C3.out _ HG2.out HP2.out).mono ?_; rintro e w3 ⟨s3, HT3, hl3, rfl, hg, hp⟩; have HG3 : Hid (GrowQ pb w w3) := hg; have HP3 : Hid (PoS w0 w3 pb dt) := hp; clear hg hp C3))
   all_goals
    go_ret
    exact ⟨_, (qu_nod HT3.out).more (by omega), rfl, HG3.out, HP3.out⟩
 · skip
   have C3 : Hid (∀ W, GrowQ pb w W → PoS w0 W pb dt → Calls Tryz.prog 36 #[.pointer (some ⟨pb, 0, none⟩), .int .i64 (d - 1)] W fun e w' => ∃ s, Hid (TextP .num dt (d - 1) s n) ∧ s.size ≤ 40000 ∧ e = .returned (.string s) ∧ GrowQ pb w w' ∧ PoS w0 w' pb dt) := fun W hW hP => (HNu hP).mono fun e w' ⟨s, k1, k2, k3, k4⟩ => ⟨s, k1, Nat.le_trans k1.2.2 hn, k2, hW.trans k3, k4⟩
   go_wp2_with (first
    | (go_at_call 10; refine (Cq14.out _).mono ?_; rintro e w9 ⟨rfl, rfl⟩; clear Cq14)
    | (go_at_call 36; refine (C3.out _ HG2.out HP2.out).mono ?_; rintro e w3 ⟨s3, HT3, hl3, rfl, hg, hp⟩; have HG3 : Hid (GrowQ pb w w3) := hg; have HP3 : Hid (PoS w0 w3 pb dt) := hp; clear hg hp C3))
   all_goals
    go_ret
    exact ⟨_, (qu_num HT3.out).more (by omega), rfl, HG3.out, HP3.out⟩
 · skip
   have C3 : Hid (∀ W, GrowQ pb w W → PoS w0 W pb dt → Calls Tryz.prog 37 #[.pointer (some ⟨pb, 0, none⟩), .int .i64 (d - 1)] W fun e w' => ∃ s, Hid (TextP .txt dt (d - 1) s n) ∧ s.size ≤ 40000 ∧ e = .returned (.string s) ∧ GrowQ pb w w' ∧ PoS w0 w' pb dt) := fun W hW hP => (HTx hP).mono fun e w' ⟨s, k1, k2, k3, k4⟩ => ⟨s, k1, Nat.le_trans k1.2.2 hn, k2, hW.trans k3, k4⟩
   go_wp2_with (first
    | (go_at_call 10; refine (Cq14.out _).mono ?_; rintro e w9 ⟨rfl, rfl⟩; clear Cq14)
    | (go_at_call 37; refine (C3.out _ HG2.out HP2.out).mono ?_; rintro e w3 ⟨s3, HT3, hl3, rfl, hg, hp⟩; have HG3 : Hid (GrowQ pb w w3) := hg; have HP3 : Hid (PoS w0 w3 pb dt) := hp; clear hg hp C3))
   all_goals
    go_ret
    exact ⟨_, (qu_txt HT3.out).more (by omega), rfl, HG3.out, HP3.out⟩
 · skip
   have C3 : Hid (∀ W, GrowQ pb w W → PoS w0 W pb dt → Calls Tryz.prog 38 #[.pointer (some ⟨pb, 0, none⟩), .int .i64 (d - 1)] W fun e w' => ∃ s, Hid (TextP .tru dt (d - 1) s n) ∧ s.size ≤ 40000 ∧ e = .returned (.string s) ∧ GrowQ pb w w' ∧ PoS w0 w' pb dt) := fun W hW hP => (HTr hP).mono fun e w' ⟨s, k1, k2, k3, k4⟩ => ⟨s, k1, Nat.le_trans k1.2.2 hn, k2, hW.trans k3, k4⟩
   go_wp2_with (first
    | (go_at_call 10; refine (Cq14.out _).mono ?_; rintro e w9 ⟨rfl, rfl⟩; clear Cq14)
    | (go_at_call 38; refine (C3.out _ HG2.out HP2.out).mono ?_; rintro e w3 ⟨s3, HT3, hl3, rfl, hg, hp⟩; have HG3 : Hid (GrowQ pb w w3) := hg; have HP3 : Hid (PoS w0 w3 pb dt) := hp; clear hg hp C3))
   all_goals
    go_ret
    exact ⟨_, (qu_tru HT3.out).more (by omega), rfl, HG3.out, HP3.out⟩
 · skip
   have C3 : Hid (∀ W, GrowQ pb w W → PoS w0 W pb dt → Calls Tryz.prog 16 #[.pointer (some ⟨pb, 0, none⟩), .int .i64 (d - 1)] W fun e w' => ∃ s, Hid (TextP .que dt (d - 1) s n) ∧ s.size ≤ 40000 ∧ e = .returned (.string s) ∧ GrowQ pb w w' ∧ PoS w0 w' pb dt) := fun W hW hP => (HQu hP).mono fun e w' ⟨s, k1, k2, k3, k4⟩ => ⟨s, k1, Nat.le_trans k1.2.2 hn, k2, hW.trans k3, k4⟩
   have C4 : Hid (∀ W, GrowQ pb w W → PoS w0 W pb dt → Calls Tryz.prog 16 #[.pointer (some ⟨pb, 0, none⟩), .int .i64 (d - 1)] W fun e w' => ∃ s, Hid (TextP .que dt (d - 1) s n) ∧ s.size ≤ 40000 ∧ e = .returned (.string s) ∧ GrowQ pb w w' ∧ PoS w0 w' pb dt) := fun W hW hP => (HQu hP).mono fun e w' ⟨s, k1, k2, k3, k4⟩ => ⟨s, k1, Nat.le_trans k1.2.2 hn, k2, hW.trans k3, k4⟩
   go_wp2_with (first
    | (go_at_call 10; refine (Cq14.out _).mono ?_; rintro e w9 ⟨rfl, rfl⟩; clear Cq14)
    | (go_at_call 16; refine (C3.out _ HG2.out HP2.out).mono ?_; rintro e w3 ⟨s3, HT3, hl3, rfl, hg, hp⟩; have HG3 : Hid (GrowQ pb w w3) := hg; have HP3 : Hid (PoS w0 w3 pb dt) := hp; clear hg hp C3)
    | (go_at_call 16; refine (C4.out _ HG3.out HP3.out).mono ?_; rintro e w4 ⟨s4, HT4, hl4, rfl, hg, hp⟩; have HG4 : Hid (GrowQ pb w w4) := hg; have HP4 : Hid (PoS w0 w4 pb dt) := hp; clear hg hp C4))
   all_goals
    go_ret
    exact ⟨_, (qu_seq HT3.out HT4.out).more (by omega), rfl, HG4.out, HP4.out⟩
 · skip
   have C3 : Hid (∀ W, GrowQ pb w W → PoS w0 W pb dt → Calls Tryz.prog 38 #[.pointer (some ⟨pb, 0, none⟩), .int .i64 (d - 1)] W fun e w' => ∃ s, Hid (TextP .tru dt (d - 1) s n) ∧ s.size ≤ 40000 ∧ e = .returned (.string s) ∧ GrowQ pb w w' ∧ PoS w0 w' pb dt) := fun W hW hP => (HTr hP).mono fun e w' ⟨s, k1, k2, k3, k4⟩ => ⟨s, k1, Nat.le_trans k1.2.2 hn, k2, hW.trans k3, k4⟩
   have C4 : Hid (∀ W, GrowQ pb w W → PoS w0 W pb dt → Calls Tryz.prog 16 #[.pointer (some ⟨pb, 0, none⟩), .int .i64 (d - 1)] W fun e w' => ∃ s, Hid (TextP .que dt (d - 1) s n) ∧ s.size ≤ 40000 ∧ e = .returned (.string s) ∧ GrowQ pb w w' ∧ PoS w0 w' pb dt) := fun W hW hP => (HQu hP).mono fun e w' ⟨s, k1, k2, k3, k4⟩ => ⟨s, k1, Nat.le_trans k1.2.2 hn, k2, hW.trans k3, k4⟩
   have C5 : Hid (∀ W, GrowQ pb w W → PoS w0 W pb dt → Calls Tryz.prog 16 #[.pointer (some ⟨pb, 0, none⟩), .int .i64 (d - 1)] W fun e w' => ∃ s, Hid (TextP .que dt (d - 1) s n) ∧ s.size ≤ 40000 ∧ e = .returned (.string s) ∧ GrowQ pb w w' ∧ PoS w0 w' pb dt) := fun W hW hP => (HQu hP).mono fun e w' ⟨s, k1, k2, k3, k4⟩ => ⟨s, k1, Nat.le_trans k1.2.2 hn, k2, hW.trans k3, k4⟩
   go_wp2_with (first
    | (go_at_call 10; refine (Cq14.out _).mono ?_; rintro e w9 ⟨rfl, rfl⟩; clear Cq14)
    | (go_at_call 38; refine (C3.out _ HG2.out HP2.out).mono ?_; rintro e w3 ⟨s3, HT3, hl3, rfl, hg, hp⟩; have HG3 : Hid (GrowQ pb w w3) := hg; have HP3 : Hid (PoS w0 w3 pb dt) := hp; clear hg hp C3)
    | (go_at_call 16; refine (C4.out _ HG3.out HP3.out).mono ?_; rintro e w4 ⟨s4, HT4, hl4, rfl, hg, hp⟩; have HG4 : Hid (GrowQ pb w w4) := hg; have HP4 : Hid (PoS w0 w4 pb dt) := hp; clear hg hp C4)
    | (go_at_call 16; refine (C5.out _ HG4.out HP4.out).mono ?_; rintro e w5 ⟨s5, HT5, hl5, rfl, hg, hp⟩; have HG5 : Hid (GrowQ pb w w5) := hg; have HP5 : Hid (PoS w0 w5 pb dt) := hp; clear hg hp C5))
   all_goals
    go_ret
    exact ⟨_, (qu_if HT3.out HT4.out HT5.out).more (by omega), rfl, HG5.out, HP5.out⟩
 · skip
   have C3 : Hid (∀ W, GrowQ pb w W → PoS w0 W pb dt → Calls Tryz.prog 35 #[.pointer (some ⟨pb, 0, none⟩), .int .i64 (d - 1)] W fun e w' => ∃ s, Hid (TextP .nod dt (d - 1) s n) ∧ s.size ≤ 40000 ∧ e = .returned (.string s) ∧ GrowQ pb w w' ∧ PoS w0 w' pb dt) := fun W hW hP => (HNo hP).mono fun e w' ⟨s, k1, k2, k3, k4⟩ => ⟨s, k1, Nat.le_trans k1.2.2 hn, k2, hW.trans k3, k4⟩
   have C4 : Hid (∀ W, GrowQ pb w W → PoS w0 W pb dt → Calls Tryz.prog 16 #[.pointer (some ⟨pb, 0, none⟩), .int .i64 (d - 1)] W fun e w' => ∃ s, Hid (TextP .que dt (d - 1) s n) ∧ s.size ≤ 40000 ∧ e = .returned (.string s) ∧ GrowQ pb w w' ∧ PoS w0 w' pb dt) := fun W hW hP => (HQu hP).mono fun e w' ⟨s, k1, k2, k3, k4⟩ => ⟨s, k1, Nat.le_trans k1.2.2 hn, k2, hW.trans k3, k4⟩
   go_wp2_with (first
    | (go_at_call 10; refine (Cq14.out _).mono ?_; rintro e w9 ⟨rfl, rfl⟩; clear Cq14)
    | (go_at_call 35; refine (C3.out _ HG2.out HP2.out).mono ?_; rintro e w3 ⟨s3, HT3, hl3, rfl, hg, hp⟩; have HG3 : Hid (GrowQ pb w w3) := hg; have HP3 : Hid (PoS w0 w3 pb dt) := hp; clear hg hp C3)
    | (go_at_call 16; refine (C4.out _ HG3.out HP3.out).mono ?_; rintro e w4 ⟨s4, HT4, hl4, rfl, hg, hp⟩; have HG4 : Hid (GrowQ pb w w4) := hg; have HP4 : Hid (PoS w0 w4 pb dt) := hp; clear hg hp C4))
   all_goals
    go_ret
    exact ⟨_, (qu_for HT3.out HT4.out).more (by omega), rfl, HG4.out, HP4.out⟩
 · skip
   obtain ⟨ia, hia, ia_lt⟩ := pk_nat (n := ra) (m := 2) (by omega)
   have CA : Hid (∀ W, Calls Tryz.prog 10 #[.int .i64 ra, .int .i64 2] W fun e w' => e = .returned (.int .i64 ia) ∧ W = w') := fun W => (picked_is ra 2 W HR.out.2.1 (by omega) (by omega)).mono fun e w' ⟨k1, k2⟩ => ⟨by rw [k1]; exact ret_int hia, k2.symm⟩
   have ia_i : (ia : Int) < 2 := by omega
   obtain ⟨zo, hzo, hto, hsc⟩ := ord_arr dt d (by omega) ia ia_lt
   have HTO : Hid (∀ (s : ByteArray) (n : Nat), TextP .que dt (d - 1) s n → TextP .que dt d (⟨#[40, 102, 111, 114, 32, 36, 118, 32, 97, 116, 32, 36, 105, 32, 105, 110, 32]⟩ ++ s ++ ⟨#[32, 119, 104, 101, 114, 101, 32, 36, 105, 32, 60, 32, 51, 32, 111, 114, 100, 101, 114, 32, 98, 121, 32, 36, 105]⟩ ++ zo ++ ⟨#[32, 114, 101, 116, 117, 114, 110, 32, 40, 36, 105, 44, 32, 36, 118, 41, 41]⟩) (n + 80)) := hto
   have C3 : Hid (∀ W, GrowQ pb W2 W → PoS w0 W pb dt → Calls Tryz.prog 16 #[.pointer (some ⟨pb, 0, none⟩), .int .i64 (d - 1)] W fun e w' => ∃ s, Hid (TextP .que dt (d - 1) s n) ∧ s.size ≤ 40000 ∧ e = .returned (.string s) ∧ GrowQ pb W w' ∧ GrowQ pb W2 w' ∧ PoS w0 w' pb dt) := fun W hW hP => (HQu hP).mono fun e w' ⟨s, k1, k2, k3, k4⟩ => ⟨s, k1, Nat.le_trans k1.2.2 hn, k2, k3, hW.trans k3, k4⟩
   have hlp : pb < W2.heap.size := by omega
   clear hia hto ia_lt hxs
   have HSS : Hid (∀ W, GrowQ pb W2 W → W.cell? ⟨ri, 1, none⟩ = some (.int .i64 ra) ∧ ri < W.heap.size) := fun W h => ⟨(h.cell hlt (by omega)).trans hx1, Nat.lt_of_lt_of_le hlt h.1⟩
   go_upto_region 22 with (first | (go_at_call 10; refine (Cq14.out _).mono ?_; rintro e w9 ⟨rfl, rfl⟩; clear Cq14))
   rw [← opOrdL_eq]
   have hop := opOrdL_eq
   go_region_held3 (fun W => W.cell? ⟨ri, 1, none⟩ = some (.int .i64 ra) ∧ ri < W.heap.size)
    ((refine HSS.out _ ?_; repeat (first | exact Hid.out (by assumption) | exact GrowQ.refl _ _ | refine GrowQ.alloc ?_ _)))
    (first
     | (go_at_call 16; refine (C3.out _ ?_ ?_).mono ?_; (focus (repeat (first | exact GrowQ.refl _ _ | refine GrowQ.alloc ?_ _))); (focus (repeat (first | exact Hid.out (by assumption) | refine PoS.drewI ?_ | refine PoS.allocI ?_ _))); rintro e w3 ⟨s3, HT3, hl3, rfl, hb, hg, hp⟩; (first | (have zz := arrBox hsc hb (by simpa using hlp); obtain ⟨z0, z1, z2⟩ := zz) | (have zz := arrBoxD hsc hb (by simpa using hlp); obtain ⟨z0, z1, z2⟩ := zz) | (have zz := arrKept hb z0 z1 z2; clear z0 z1 z2; obtain ⟨z0, z1, z2⟩ := zz) | skip); have HG3 : Hid (GrowQ pb W2 w3) := hg; have HP3 : Hid (PoS w0 w3 pb dt) := hp; clear hlp; have hlp := hp.lt; have hq0 : ¬ 9223372036854775807 < 17 + s3.size := (by omega); have hq1 : ¬ 9223372036854775807 < 17 + s3.size + 25 := (by omega); have hq2 : ¬ 9223372036854775807 < 17 + s3.size + 25 + zo.size := (by omega); have hq3 : ¬ 9223372036854775807 < 17 + s3.size + 25 + zo.size + 17 := (by omega); clear hb hg hp C3)
     | (go_at_call_has 10 (Value.int .i64 ra); refine (CA.out _).mono ?_; rintro e w9 ⟨rfl, rfl⟩))
   all_goals
    clear hop
    go_wp2_with fail
    go_ret
    exact ⟨_, (HTO.out s3 n HT3.out).more (by omega), rfl, by first | exact HG2.out.trans HG3.out | exact (HG2.out.trans HG3.out).alloc _, by repeat (first | exact Hid.out (by assumption) | refine PoS.allocI ?_ _)⟩
 · skip
   have C3 : Hid (∀ W, GrowQ pb w W → PoS w0 W pb dt → Calls Tryz.prog 16 #[.pointer (some ⟨pb, 0, none⟩), .int .i64 (d - 1)] W fun e w' => ∃ s, Hid (TextP .que dt (d - 1) s n) ∧ s.size ≤ 40000 ∧ e = .returned (.string s) ∧ GrowQ pb w w' ∧ PoS w0 w' pb dt) := fun W hW hP => (HQu hP).mono fun e w' ⟨s, k1, k2, k3, k4⟩ => ⟨s, k1, Nat.le_trans k1.2.2 hn, k2, hW.trans k3, k4⟩
   go_wp2_with (first
    | (go_at_call 10; refine (Cq14.out _).mono ?_; rintro e w9 ⟨rfl, rfl⟩; clear Cq14)
    | (go_at_call 16; refine (C3.out _ HG2.out HP2.out).mono ?_; rintro e w3 ⟨s3, HT3, hl3, rfl, hg, hp⟩; have HG3 : Hid (GrowQ pb w w3) := hg; have HP3 : Hid (PoS w0 w3 pb dt) := hp; clear hg hp C3))
   all_goals
    go_ret
    exact ⟨_, (qu_let HT3.out).more (by omega), rfl, HG3.out, HP3.out⟩
 · skip
   have C3 : Hid (∀ W, GrowQ pb w W → PoS w0 W pb dt → Calls Tryz.prog 37 #[.pointer (some ⟨pb, 0, none⟩), .int .i64 (d - 1)] W fun e w' => ∃ s, Hid (TextP .txt dt (d - 1) s n) ∧ s.size ≤ 40000 ∧ e = .returned (.string s) ∧ GrowQ pb w w' ∧ PoS w0 w' pb dt) := fun W hW hP => (HTx hP).mono fun e w' ⟨s, k1, k2, k3, k4⟩ => ⟨s, k1, Nat.le_trans k1.2.2 hn, k2, hW.trans k3, k4⟩
   have C4 : Hid (∀ W, GrowQ pb w W → PoS w0 W pb dt → Calls Tryz.prog 16 #[.pointer (some ⟨pb, 0, none⟩), .int .i64 (d - 1)] W fun e w' => ∃ s, Hid (TextP .que dt (d - 1) s n) ∧ s.size ≤ 40000 ∧ e = .returned (.string s) ∧ GrowQ pb w w' ∧ PoS w0 w' pb dt) := fun W hW hP => (HQu hP).mono fun e w' ⟨s, k1, k2, k3, k4⟩ => ⟨s, k1, Nat.le_trans k1.2.2 hn, k2, hW.trans k3, k4⟩
   go_wp2_with (first
    | (go_at_call 10; refine (Cq14.out _).mono ?_; rintro e w9 ⟨rfl, rfl⟩; clear Cq14)
    | (go_at_call 37; refine (C3.out _ HG2.out HP2.out).mono ?_; rintro e w3 ⟨s3, HT3, hl3, rfl, hg, hp⟩; have HG3 : Hid (GrowQ pb w w3) := hg; have HP3 : Hid (PoS w0 w3 pb dt) := hp; clear hg hp C3)
    | (go_at_call 16; refine (C4.out _ HG3.out HP3.out).mono ?_; rintro e w4 ⟨s4, HT4, hl4, rfl, hg, hp⟩; have HG4 : Hid (GrowQ pb w w4) := hg; have HP4 : Hid (PoS w0 w4 pb dt) := hp; clear hg hp C4))
   all_goals
    go_ret
    exact ⟨_, (qu_elem HT3.out HT4.out).more (by omega), rfl, HG4.out, HP4.out⟩
 · skip
   obtain ⟨ia, hia, ia_lt⟩ := pk_nat (n := ra) (m := 3) (by omega)
   have CA : Hid (∀ W, Calls Tryz.prog 10 #[.int .i64 ra, .int .i64 3] W fun e w' => e = .returned (.int .i64 ia) ∧ W = w') := fun W => (picked_is ra 3 W HR.out.2.1 (by omega) (by omega)).mono fun e w' ⟨k1, k2⟩ => ⟨by rw [k1]; exact ret_int hia, k2.symm⟩
   have ia_i : (ia : Int) < 3 := by omega
   obtain ⟨zo, hzo, hto, hsc⟩ := fn_arr dt d (by omega) ia ia_lt
   have HTO : Hid (∀ (s : ByteArray) (n i : Nat), TextP .que dt (d - 1) s n → i < 20 → TextP .que dt d (zo ++ ⟨#[40, 40]⟩ ++ s ++ ⟨#[44, 32, 49, 32, 116, 111, 32]⟩ ++ ⟨(Lib.decDigits i).toArray⟩ ++ ⟨#[41, 41]⟩) (n + 30)) := hto
   have C3 : Hid (∀ W, GrowQ pb W2 W → PoS w0 W pb dt → Calls Tryz.prog 16 #[.pointer (some ⟨pb, 0, none⟩), .int .i64 (d - 1)] W fun e w' => ∃ s, Hid (TextP .que dt (d - 1) s n) ∧ s.size ≤ 40000 ∧ e = .returned (.string s) ∧ GrowQ pb W w' ∧ GrowQ pb W2 w' ∧ PoS w0 w' pb dt) := fun W hW hP => (HQu hP).mono fun e w' ⟨s, k1, k2, k3, k4⟩ => ⟨s, k1, Nat.le_trans k1.2.2 hn, k2, k3, hW.trans k3, k4⟩
   obtain ⟨ib, hib, ib_lt⟩ := pk_nat (n := rb') (m := 5) (by omega)
   have CB : Hid (∀ W, Calls Tryz.prog 10 #[.int .i64 rb', .int .i64 5] W fun e w' => e = .returned (.int .i64 ib) ∧ W = w') := fun W => (picked_is rb' 5 W HR.out.2.2.1 (by omega) (by omega)).mono fun e w' ⟨k1, k2⟩ => ⟨by rw [k1]; exact ret_int hib, k2.symm⟩
   obtain ⟨zj, hzj⟩ : ∃ z : ByteArray, z = ⟨(Lib.decDigits ib).toArray⟩ := ⟨_, rfl⟩
   have CJ : Hid (∀ W, Calls Tryz.prog 39 #[.int .i64 ib] W fun e w' => e = .returned (.string zj) ∧ W = w') := fun W => (Tryz.strconv_Itoa_small ib (by omega) W).mono fun e w' ⟨k1, k2⟩ => ⟨by rw [hzj]; exact k1, k2.symm⟩
   have zj_l : zj.size ≤ 2 := by rw [hzj]; exact dec_len (by omega)
   have HTZ : Hid (∀ s, TextP .que dt (d - 1) s n → TextP .que dt d (zo ++ ⟨#[40, 40]⟩ ++ s ++ ⟨#[44, 32, 49, 32, 116, 111, 32]⟩ ++ zj ++ ⟨#[41, 41]⟩) (n + 30)) := fun s hs => by rw [hzj]; exact HTO.out s n ib hs (by omega)
   have hq0 : ¬ 9223372036854775807 < zo.size + 2 := (by omega); 
   clear hib hzj ib_lt HTO
   have hlp : pb < W2.heap.size := by omega
   clear hia hto ia_lt hxs
   have HSS : Hid (∀ W, GrowQ pb W2 W → W.cell? ⟨ri, 1, none⟩ = some (.int .i64 ra) ∧ W.cell? ⟨ri, 2, none⟩ = some (.int .i64 rb') ∧ ri < W.heap.size) := fun W h => ⟨(h.cell hlt (by omega)).trans hx1, (h.cell hlt (by omega)).trans hx2, Nat.lt_of_lt_of_le hlt h.1⟩
   go_upto_region 28 with (first | (go_at_call 10; refine (Cq14.out _).mono ?_; rintro e w9 ⟨rfl, rfl⟩; clear Cq14))
   rw [← opFnL_eq]
   have hop := opFnL_eq
   go_region_held3 (fun W => W.cell? ⟨ri, 1, none⟩ = some (.int .i64 ra) ∧ W.cell? ⟨ri, 2, none⟩ = some (.int .i64 rb') ∧ ri < W.heap.size)
    ((refine HSS.out _ ?_; repeat (first | exact Hid.out (by assumption) | exact GrowQ.refl _ _ | refine GrowQ.alloc ?_ _)))
    (first
     | (go_at_call 16; refine (C3.out _ ?_ ?_).mono ?_; (focus (repeat (first | exact GrowQ.refl _ _ | refine GrowQ.alloc ?_ _))); (focus (repeat (first | exact Hid.out (by assumption) | refine PoS.drewI ?_ | refine PoS.allocI ?_ _))); rintro e w3 ⟨s3, HT3, hl3, rfl, hb, hg, hp⟩; (first | (have zz := arrBox hsc hb (by simpa using hlp); obtain ⟨z0, z1, z2⟩ := zz) | (have zz := arrBoxD hsc hb (by simpa using hlp); obtain ⟨z0, z1, z2⟩ := zz) | (have zz := arrKept hb z0 z1 z2; clear z0 z1 z2; obtain ⟨z0, z1, z2⟩ := zz) | skip); have HG3 : Hid (GrowQ pb W2 w3) := hg; have HP3 : Hid (PoS w0 w3 pb dt) := hp; clear hlp; have hlp := hp.lt; have hq1 : ¬ 9223372036854775807 < zo.size + 2 + s3.size := (by omega); have hq2 : ¬ 9223372036854775807 < zo.size + 2 + s3.size + 7 := (by omega); have hq3 : ¬ 9223372036854775807 < zo.size + 2 + s3.size + 7 + zj.size := (by omega); have hq4 : ¬ 9223372036854775807 < zo.size + 2 + s3.size + 7 + zj.size + 2 := (by omega); clear hb hg hp C3)
     | (go_at_call_has 10 (Value.int .i64 ra); refine (CA.out _).mono ?_; rintro e w9 ⟨rfl, rfl⟩)
     | (go_at_call_has 10 (Value.int .i64 rb'); refine (CB.out _).mono ?_; rintro e w9 ⟨rfl, rfl⟩)
     | (go_at_call_has 39 (Value.int .i64 ib); refine (CJ.out _).mono ?_; rintro e w9 ⟨rfl, rfl⟩))
   all_goals
    clear hop
    go_wp2_with fail
    go_ret
    exact ⟨_, (HTZ.out s3 HT3.out).more (by omega), rfl, by first | exact HG2.out.trans HG3.out | exact (HG2.out.trans HG3.out).alloc _, by repeat (first | exact Hid.out (by assumption) | refine PoS.allocI ?_ _)⟩
 · skip
   have C3 : Hid (∀ W, GrowQ pb w W → PoS w0 W pb dt → Calls Tryz.prog 16 #[.pointer (some ⟨pb, 0, none⟩), .int .i64 (d - 1)] W fun e w' => ∃ s, Hid (TextP .que dt (d - 1) s n) ∧ s.size ≤ 40000 ∧ e = .returned (.string s) ∧ GrowQ pb w w' ∧ PoS w0 w' pb dt) := fun W hW hP => (HQu hP).mono fun e w' ⟨s, k1, k2, k3, k4⟩ => ⟨s, k1, Nat.le_trans k1.2.2 hn, k2, hW.trans k3, k4⟩
   go_wp2_with (first
    | (go_at_call 10; refine (Cq14.out _).mono ?_; rintro e w9 ⟨rfl, rfl⟩; clear Cq14)
    | (go_at_call 16; refine (C3.out _ HG2.out HP2.out).mono ?_; rintro e w3 ⟨s3, HT3, hl3, rfl, hg, hp⟩; have HG3 : Hid (GrowQ pb w w3) := hg; have HP3 : Hid (PoS w0 w3 pb dt) := hp; clear hg hp C3))
   all_goals
    go_ret
    exact ⟨_, (qu_text HT3.out).more (by omega), rfl, HG3.out, HP3.out⟩
end Go.Proofs.YtbnlekhjgkojlaaGreatDoor
