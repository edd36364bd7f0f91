/-
  read.Parse at parentheses around a number.
-/
import Derived.Test.YteapocgpenokfaaGreatDoorPaDeep
import Derived.Test.YteapocgpenokfaaGreatDoorTkCheck
set_option linter.unusedVariables false
namespace Go.Proofs.YteapocgpenokfaaGreatDoor
set_option maxRecDepth 100000
open Go.RowKit

theorem deep_get {k j : Nat} (h : j < (deepT k).length) : (deepT k)[j] = (deepT k).getD j tok0 := by
  rw [List.getD_eq_getElem?_getD, List.getElem?_eq_getElem h]; rfl
theorem deep_good {k j : Nat} (h : j < (deepT k).length) : ∃ kd s n, (deepT k)[j] = ⟨kd, s, n⟩ ∧ tokF kd s n = 0 ∧ s.size ≤ 10 := by
  have hl := deep_len k
  rw [deep_get h]
  by_cases h1 : j < k
  · rw [deep_lp h1]; exact ⟨5, ⟨#[40]⟩, 0, rfl, by decide, by decide⟩
  · by_cases h2 : j = k
    · rw [h2, deep_one]; exact ⟨2, ⟨#[]⟩, 1, rfl, by decide, by decide⟩
    · rw [deep_rp (by omega) (by omega)]; exact ⟨5, ⟨#[41]⟩, 0, rfl, by decide, by decide⟩
def deepI (k : Nat) : Int := if k ≤ 9 then 0 else 10
def deepE (k : Nat) : Int := if k ≤ 9 then 0 else 8
/-- a parser that is made anew -/
theorem PaS.new {w : World} {b c : Nat} {T : List Tok} (hb : b < w.heap.size) (ht : ToksL w b T) : PaS (w.alloc (.cells #[.slice (some ⟨b, 0, none⟩) T.length c, .int .i64 0, .int .i64 0, .int .i64 0] 61)) w.heap.size b c T ⟨0, 0, 0⟩ :=
  ⟨by simp, by simp, by simp, by simp, by simp, by simp, by simp, by simp, by simp; omega, by omega, ht.grow ((GrowA.refl (w.heap.size) w).alloc _) hb (by omega)⟩
theorem ToksL.below {w w' : World} {b : Nat} {L : List Tok} (h : ToksL w b L) (hb : Below w.heap.size w w') (hlt : b < w.heap.size) : ToksL w' b L := fun k hk => by
  obtain ⟨h1, h2, h3⟩ := h k hk
  exact ⟨(hb.cell (p := ⟨b, k * 3, none⟩) hlt).trans h1, (hb.cell (p := ⟨b, k * 3 + 1, none⟩) hlt).trans h2, (hb.cell (p := ⟨b, k * 3 + 2, none⟩) hlt).trans h3⟩
theorem OpTab.lt {w : World} (h : OpTab w) : 4 < w.heap.size := by
  obtain ⟨t, fr, h⟩ := h
  exact (Array.getElem?_eq_some_iff.1 h).1
set_option maxHeartbeats 3200000 in
theorem parse_deep (k b c : Nat) (hk0 : 1 ≤ k) (hk : k ≤ 25) (w : World) (hb : b < w.heap.size) (ht : ToksL w b (deepT k)) (hot : OpTab w) (hTb : Tabs w) (hM : MarkTab w) (hg : 0 < w.heap.size) :
    Calls Tryz.prog 7 #[.slice (some ⟨b, 0, none⟩) (deepT k).length c] w fun e w' => ∃ v, PhV v ∧ e = .returned (.tuple #[v, .int .i64 (deepI k), .int .i64 (deepE k)]) ∧ Below w.heap.size w w' := by
  have hlen := deep_len k
  have CK : Hid (∀ W kd s n, Below w.heap.size w W → tokF kd s n = 0 → s.size ≤ 10 → Calls Tryz.prog 16 #[.agg #[.int .i64 kd, .string s, .int .i64 n]] W fun e w' => e = .returned (.int .i64 0) ∧ Below W.heap.size W w') := fun W kd s n hW ht hs => (checkToken_any kd n s W (by unfold maxLen; omega) (Utf8Tabs_below hTb hW) (hM.below hW hg) (Nat.lt_of_lt_of_le hg hW.size)).mono fun e w' ⟨k1, k2⟩ => ⟨by rw [k1, ht], k2⟩
  have HTK : Hid (ToksL w b (deepT k)) := ht
  have HOT : Hid (OpTab w) := hot
  have HGD : Hid (∀ j (h : j < (deepT k).length), ∃ kd s n, (deepT k)[j] = ⟨kd, s, n⟩ ∧ tokF kd s n = 0 ∧ s.size ≤ 10) := fun j h => deep_good h
  have hol := hot.lt
  have HRR : Hid (∀ pb b c, 4 ≠ pb → k ≤ 9 → RunO pb b c (deepT k) 17 #[] ⟨0, 0, 0⟩ ⟨(deepT k).length, 0, 0⟩) := fun pb b c hp h9 => by
    rw [hlen]
    have h : RunO pb b c (deepT k) 17 #[] ⟨0, 3 * 0, 0⟩ ⟨2 * k + 1 - 0, 3 * 0, 0⟩ := list_right (pb := pb) (b := b) (c := c) h9 hp k 0 (by omega)
    simp only [Nat.mul_zero, Nat.sub_zero] at h
    exact @h
  have HRD : Hid (∀ pb b c, 4 ≠ pb → ¬ k ≤ 9 → RunO pb b c (deepT k) 17 #[] ⟨0, 0, 0⟩ ⟨10, 0, 8⟩) := fun pb b c hp h9 => list_deep (pb := pb) (b := b) (c := c) (by omega) hk hp 10 0 (by omega)
  obtain ⟨T, hT⟩ : ∃ T, T = deepT k := ⟨_, rfl⟩
  rw [← hT] at HTK HGD HRR HRD hlen ⊢
  have hl51 : T.length ≤ 51 := by omega
  have hl3 : 10 < T.length ∨ k ≤ 9 := by omega
  clear hlen
  have hl200 : ¬ ((200 : Int) < (T.length : Int)) := by omega
  clear ht hot hTb hM hg hT
  go_enter Tryz.func7, Tryz.ntmps7
  go_wp2
  obtain ⟨W1, hW1⟩ : ∃ W, W = w.alloc (.cells #[.int .i64 0, .int .i64 0, .int .i64 0, .string ⟨#[]⟩, .string ⟨#[]⟩, .int .i64 0, .int .i64 0, .int .i64 0, .string ⟨#[]⟩, .slice none 0 0, .slice none 0 0] 35) := ⟨_, rfl⟩
  have HB1 : Hid (Below w.heap.size w W1) := by rw [hW1]; exact (Below.refl _ _).alloc (Nat.le_refl _) _
  have HR1 : Hid (PhB W1 w.heap.size #[.int .i64 0, .int .i64 0, .int .i64 0, .string ⟨#[]⟩, .string ⟨#[]⟩, .int .i64 0, .int .i64 0, .int .i64 0, .string ⟨#[]⟩, .slice none 0 0, .slice none 0 0]) := by rw [hW1]; exact PhB.new w _
  rw [← hW1]
  obtain ⟨r, hr⟩ : ∃ r, r = w.heap.size := ⟨_, rfl⟩
  have HRW : Hid (r = w.heap.size) := hr
  rw [← hr] at HR1 ⊢
  clear hW1 hr
  go_loopw [16] (fun i wr => ∃ j : Nat, j ≤ T.length ∧ i = .int .i64 j ∧ Below W1.heap.size W1 wr) (fun i _ => T.length - (intOf i).toNat)
  case atStart => exact ⟨0, Nat.zero_le _, rfl, Below.refl _ _⟩
  case round =>
    obtain ⟨j, hj, rfl, hbw⟩ := hrel
    have HBW : Hid (Below W1.heap.size W1 wr) := hbw
    have HBA : Hid (Below w.heap.size w wr) := HB1.out.trans (hbw.mono HB1.out.size)
    clear hbw
    by_cases hlt : j < T.length
    · obtain ⟨x0, x1, x2⟩ := (HTK.out.below HBA.out hb) j hlt
      obtain ⟨kd, s, n, e1, e2, e3⟩ := HGD.out j hlt
      rw [e1] at x0 x1 x2
      simp only at x0 x1 x2
      have hji : (j : Int) < (T.length : Int) := by omega
      have hbr : b < wr.heap.size := Nat.lt_of_lt_of_le hb HBA.out.size
      have C3 : Hid (∀ o, Calls Tryz.prog 16 #[.agg #[.int .i64 kd, .string s, .int .i64 n]] (wr.alloc o) fun e w' => e = .returned (.int .i64 0) ∧ Below W1.heap.size W1 w') := fun o => (CK.out (wr.alloc o) kd s n (HBA.out.alloc HBA.out.size o) e2 e3).mono fun e w' ⟨k1, k2⟩ => ⟨k1, (HBW.out.alloc HBW.out.size o).trans (k2.mono (by have := HBW.out.size; simp; omega))⟩
      clear e1 e2 e3
      go_wp2_with (first
        | (go_at_call 16; refine (C3.out _).mono ?_; rintro e w3 ⟨rfl, hb3⟩; have HB3 : Hid (Below W1.heap.size W1 w3) := hb3; clear hb3))
      go_roundw
      case rel => exact ⟨j + 1, by omega, by go_num, HB3.out⟩
      case measure => simp [intOf]; omega
    · have hji : ¬ ((j : Int) < (T.length : Int)) := by omega
      go_upto_region 11 with fail
      obtain ⟨WP, hWP⟩ : ∃ W, W = wr.alloc (.cells #[.slice (some ⟨b, 0, none⟩) T.length c, .int .i64 0, .int .i64 0, .int .i64 0] 61) := ⟨_, rfl⟩
      obtain ⟨pb, hpb⟩ : ∃ p, p = wr.heap.size := ⟨_, rfl⟩
      have hpo : 4 ≠ pb := by have := HBA.out.size; omega
      have hrp : r ≠ pb := by have k1 := HRW.out; have k2 := (HR1.out.below HBW.out).lt; omega
      have hrb : r ≠ b := by have k1 := HRW.out; omega
      have hwp : w.heap.size ≤ pb := by rw [hpb]; exact HBA.out.size
      have HP1 : Hid (PaS WP pb b c T ⟨0, 0, 0⟩) := by rw [hWP, hpb]; exact PaS.new (Nat.lt_of_lt_of_le hb HBA.out.size) (HTK.out.below HBA.out hb)
      have HO1 : Hid (OpTab WP) := by rw [hWP]; exact (HOT.out.below HBA.out).allocI _
      have HR2 : Hid (PhB WP r #[.int .i64 0, .int .i64 0, .int .i64 0, .string ⟨#[]⟩, .string ⟨#[]⟩, .int .i64 0, .int .i64 0, .int .i64 0, .string ⟨#[]⟩, .slice none 0 0, .slice none 0 0]) := by rw [hWP]; exact (HR1.out.below HBW.out).allocI _
      have HBP : Hid (Below w.heap.size w WP) := by rw [hWP]; exact HBA.out.alloc HBA.out.size _
      have hpz : pb ≤ WP.heap.size := Nat.le_of_lt HP1.out.pl
      rw [← hWP, ← hpb]
      clear hWP hpb HR1 HBW HBA
      by_cases h9 : k ≤ 9
      · have CL : Hid (Calls Tryz.prog 17 #[.pointer (some ⟨pb, 0, none⟩)] WP fun e w' => ∃ v, PhV v ∧ e = .returned v ∧ PaS w' pb b c T ⟨T.length, 0, 0⟩ ∧ GrowA pb WP w') := HRR.out pb b c hpo h9 HP1.out HO1.out
        go_wp2_with (first
          | (go_at_call 17; refine CL.out.mono ?_; rintro e w2 ⟨v, hv, rfl, hp, hg⟩; obtain ⟨k0, k1, k2, k5, k6, k7, s3, s4, s8, a9, a10, l9, c9, l10, c10, rfl⟩ := hv; have HB2 : Hid (Below w.heap.size w w2) := (HBP.out.trans ((hg.low hpz).mono hwp)); have hx1 := hp.a; have hx3 := hp.e; have hpl := hp.pl; obtain ⟨⟨y0, y1, y2, y3, y4, y5, y6, y7, y8, y9, y10⟩, z0, z1, z2, z3, z4, z5, z6, z7, z8, z9, z10⟩ := (HR2.out.grow hg hrp).cells; have hrl := (HR2.out.grow hg hrp).lt; clear hp hg))
        refine bodyPost_ret (v := .tuple #[.agg #[.int .i64 k0, .int .i64 k1, .int .i64 k2, .string s3, .string s4, .int .i64 k5, .int .i64 k6, .int .i64 k7, .string s8, .slice a9 l9 c9, .slice a10 l10 c10], .int .i64 0, .int .i64 0]) (by simp [results, Tryz.results7, go_sem, hrl, y0, y1, y2, y3, y4, y5, y6, y7, y8, y9, y10]) rfl ⟨_, PhV.mk, by rw [show deepI k = 0 from if_pos h9, show deepE k = 0 from if_pos h9], ?_⟩
        (first | (with_reducible refine Below.alloc ?_ (by have := HB2.out.size; simp; omega) _) | skip)
        repeat with_reducible refine below_setA ?_ (Nat.le_of_eq HRW.out.symm) _ _
        with_reducible exact HB2.out
      · have CL : Hid (Calls Tryz.prog 17 #[.pointer (some ⟨pb, 0, none⟩)] WP fun e w' => ∃ v, PhV v ∧ e = .returned v ∧ PaS w' pb b c T ⟨10, 0, 8⟩ ∧ GrowA pb WP w') := HRD.out pb b c hpo h9 HP1.out HO1.out
        have h10 : (10 : Int) < (T.length : Int) := by omega
        have HMI : Hid (∀ W, PaS W pb b c T ⟨10, 0, 8⟩ → Calls Tryz.prog 18 #[.pointer (some ⟨pb, 0, none⟩)] W fun e w' => e = .returned (.tuple #[]) ∧ PaS w' pb b c T ⟨10, 0, 8⟩ ∧ GrowA pb W w') := fun W h => by
          have := miss_is h
          rw [missM_wr (by decide)] at this
          exact this
        go_upto_region 15 with (first
          | (go_at_call 17; refine CL.out.mono ?_; rintro e w2 ⟨v, hv, rfl, hp, hg⟩; obtain ⟨k0, k1, k2, k5, k6, k7, s3, s4, s8, a9, a10, l9, c9, l10, c10, rfl⟩ := hv; have HB2 : Hid (Below w.heap.size w w2) := (HBP.out.trans ((hg.low hpz).mono hwp)); have hx1 : w2.cell? ⟨pb, 1, none⟩ = some (.int .i64 10) := hp.a; have hpl := hp.pl; have HP2 : Hid (PaS w2 pb b c T ⟨10, 0, 8⟩) := hp; have HR3 : Hid (PhB w2 r #[.int .i64 0, .int .i64 0, .int .i64 0, .string ⟨#[]⟩, .string ⟨#[]⟩, .int .i64 0, .int .i64 0, .int .i64 0, .string ⟨#[]⟩, .slice none 0 0, .slice none 0 0]) := HR2.out.grow hg hrp; clear hp hg)
          | (go_at_call 18; refine (HMI.out _ (HP2.out.allocI _)).mono ?_; rintro e w3 ⟨rfl, hp, hg⟩; have HB3 : Hid (Below w.heap.size w w3) := ((HB2.out.alloc HB2.out.size _).trans ((hg.low (by have := hpl; simp; omega)).mono hwp)); have hy1 : w3.cell? ⟨pb, 1, none⟩ = some (.int .i64 10) := hp.a; have hy3 : w3.cell? ⟨pb, 3, none⟩ = some (.int .i64 8) := hp.e; have hpl3 := hp.pl; obtain ⟨⟨y0, y1, y2, y3, y4, y5, y6, y7, y8, y9, y10⟩, z0, z1, z2, z3, z4, z5, z6, z7, z8, z9, z10⟩ := ((HR3.out.allocI _).grow hg hrp).cells; have hrl := ((HR3.out.allocI _).grow hg hrp).lt; clear hp hg))
        go_region
        go_wp2
        refine bodyPost_ret (v := .tuple #[.agg #[.int .i64 0, .int .i64 0, .int .i64 0, .string ⟨#[]⟩, .string ⟨#[]⟩, .int .i64 0, .int .i64 0, .int .i64 0, .string ⟨#[]⟩, .slice none 0 0, .slice none 0 0], .int .i64 10, .int .i64 8]) (by simp [results, Tryz.results7, go_sem, y0, y1, y2, y3, y4, y5, y6, y7, y8, y9, y10]) rfl ⟨_, PhV.mk, by rw [show deepI k = 10 from if_neg h9, show deepE k = 8 from if_neg h9], ?_⟩
        (first | (with_reducible refine Below.drew ?_) | skip)
        repeat with_reducible refine below_setA ?_ (Nat.le_of_eq HRW.out.symm) _ _
        with_reducible exact HB3.out
end Go.Proofs.YteapocgpenokfaaGreatDoor
