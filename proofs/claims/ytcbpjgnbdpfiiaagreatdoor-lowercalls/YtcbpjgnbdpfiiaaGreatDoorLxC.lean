/-
  CONTRACT of package core: exprs, by the rules of its phrases.
-/
import Derived.Test.YtcbpjgnbdpfiiaaGreatDoorLxB
import Derived.Sort.AtCall
set_option linter.unusedVariables false
namespace Go.Proofs.YtcbpjgnbdpfiiaaGreatDoor
set_option maxRecDepth 100000
open Go.RowKit Go.WideShapes

set_option maxHeartbeats 6400000 in
theorem exprs_is {n : Nat} {A : Nat → Ph} {X : Nat → Ex} {P : Nat → Nat} {N : ByteArray → Nat} (hn : n ≤ 1000) (hP : ∀ k, k ≤ n → P k ≤ 700) (hr : ∀ k, k < n → RunE (A k) N (P k) (P (k + 1)) (X k)) (w : World) (lb tb ob sb : Nat) (S : Nat → Prop) (aa : Option Addr) (ac : Nat) (hac : n ≤ ac) (hcm : ac ≤ maxLen) (hl : 0 < n → ∃ g o, aa = some ⟨g, o, none⟩ ∧ ∀ k, k < n → ∃ u, PhIn w lb sb g (o + k * 11) (A k) S u) (hB : XB w lb tb ob sb) (hX : XS w lb tb ob sb N (P 0) w) :
    Calls Tryz.prog 100 #[.pointer (some ⟨lb, 0, none⟩), .slice aa n ac] w fun e w' => ∃ v, e = .returned v ∧ LOwn 43 11 (ExE X) w' w.heap.size v n ∧ XS w lb tb ob sb N (P n) w' := by
  have HB := HidOf hB
  have HX := HidOf hX
  have HR := HidOf hr
  have HL := HidOf hl
  have HPP := HidOf hP
  have hll := hB.ll
  have hsl := hB.sl
  obtain ⟨i0, hi0, hz0, hz1, hz2⟩ := info_parts infoEx
  clear hB hX hr hl hP
  unfold maxLen at hcm
  go_enter Tryz.func100, Tryz.ntmps100
  go_wp2
  go_loopw [5, 10] (fun lv iv wr => ∃ k : Nat, k ≤ n ∧ iv = .int .i64 k ∧ XS w lb tb ob sb N (P k) wr ∧ LOwn 43 11 (ExE X) wr w.heap.size lv k) (fun _ iv _ => n - (intOf iv).toNat)
  case atStart => exact ⟨0, Nat.zero_le _, rfl, HX.out, LOwn.nil _ _ _ _ _⟩
  case round =>
    obtain ⟨k, hk, rfl, hs0, hl0⟩ := hrel
    have HS0 : Hid (XS w lb tb ob sb N (P k) wr) := hs0
    obtain ⟨la, lc, rfl⟩ := hl0.form
    have HL0 : Hid (LOwn 43 11 (ExE X) wr w.heap.size (.slice la k lc) k) := hl0
    clear hs0 hl0
    by_cases hlt : k < n
    · have hki : (k : Int) < (n : Int) := by omega
      have hka : (k : Int) < (ac : Int) := by omega
      obtain ⟨g, o, rfl, hph⟩ := HL.out (by omega)
      obtain ⟨u, hu⟩ := hph k hlt
      have HU := HidOf hu
      have HRK : Hid (RunE (A k) N (P k) (P (k + 1)) (X k)) := HR.out k hlt
      have hp7 : P (k + 1) ≤ 700 := HPP.out (k + 1) (by omega)
      clear hph hu
      go_wp2_with (first
        | (go_at_call 25; refine (HRK.out.use HB.out HS0.out HU.out).mono ?_; rintro e w1 ⟨x0, x1, x2, x6, x7, x8, y3, y4, y5, y9, b10, l10, c10, hx, rfl, hs, hk, hz⟩; have HS1 : Hid (XS w lb tb ob sb N (P (k + 1)) w1) := hs; have HE1 := HidOf hx; have HO1 := HidOf hx.ones; have HZ1 : Hid (wr.heap.size ≤ w1.heap.size) := hz; have HOW : Hid (∀ z, (Value.slice la k lc).ownBlock = some z → z < wr.heap.size) := (fun z hz => (HL0.out.own z hz).2); have HL1 : Hid (LOwn 43 11 (ExE X) w1 w.heap.size (.slice la k lc) k) := HL0.out.step (ExE.keeps X) hz (fun b h1 h2 => hk b h2 (by omega) (by omega)); have HWR : Hid (w.heap.size ≤ wr.heap.size) := HS0.out.z; clear hs hx hk hz HS0 HL0)
        | (go_at_call 93; refine (keeps_is lb (.map (some tb)) (.map (some ob)) (.map (some sb)) (P (k + 1)) _ _ (HS1.out.alloc _).l hp7).mono ?_; rintro e w2 ⟨rfl, hw2⟩; obtain rfl := hw2.symm)
        | (at_builtin; obtain ⟨L, ho, hE⟩ := (HL1.out.below (ExE.keeps X) ((Below.refl _ _).alloc (Nat.le_refl _) (.cells #[.int .i64 x0, .int .i64 x1, .int .i64 x2, .string y3, .string y4, .string y5, .int .i64 x6, .int .i64 x7, .int .i64 x8, .string y9, .slice b10 l10 c10] 43))).below (ExE.keeps X) ((Below.refl _ _).alloc (Nat.le_refl _) (.cells #[.int .i64 x0, .int .i64 x1, .int .i64 x2, .string y3, .string y4, .string y5, .int .i64 x6, .int .i64 x7, .int .i64 x8, .string y9, .slice b10 l10 c10] 43)); refine wpList_append_own_at _ rfl (.tmp 20) (.tmp 22) 41 rfl w.heap.size 43 i0 _ 11 136 Tryz.underlying41 hi0 hz0 hz1 hz2 rfl (by decide) _ _ _ rfl ho ⟨w1.heap.size + 1, 0, none⟩ 1 1 [.int .i64 x0, .int .i64 x1, .int .i64 x2, .string y3, .string y4, .string y5, .int .i64 x6, .int .i64 x7, .int .i64 x8, .string y9, .slice b10 l10 c10] rfl rfl (new_at (by simp)) HO1.out (by unfold maxLen; omega) (by omega) (by have := HS1.out.z; simp; omega) ?_; intro v7 w7 hown7 hgrow7 _ hat7; have HL7 : Hid (LOwn 43 11 (ExE X) w7 w.heap.size v7 (k + 1)) := LOwn.push (lo1 := wr.heap.size) (ExE.keeps X) hE rfl (Ex.W.keep (fun b q => ⟨q.1, by simp; omega⟩) (fun b q => (Below.heap_alloc _ _ _ (by simp; omega)).trans (Below.heap_alloc _ _ _ q.2)) HE1.out) HWR.out HOW.out hown7 hgrow7 hat7; have HX7 : Hid (∀ z, z < w1.heap.size → z < w.heap.size → w7.heap[z]? = w1.heap[z]?) := (fun z h1 h2 => (hgrow7.block z (by simp; omega) (fun e => by have := (HL1.out.own z e.symm).1; omega)).trans ((Below.heap_alloc _ _ _ (by simp; omega)).trans (Below.heap_alloc _ _ _ h1))); have HS7 : Hid (XS w lb tb ob sb N (P (k + 1)) w7) := (by have hz1 := HS1.out.z; exact ⟨(HX7.out lb (by omega) hll).trans HS1.out.l, HS1.out.s.keep (HX7.out sb (by omega) hsl), Nat.le_trans hz1 (Nat.le_trans (by simp; omega) hgrow7.size), hgrow7.os.trans HS1.out.os, hgrow7.tape.trans HS1.out.tape, hgrow7.output.trans HS1.out.output, fun b h0 h1 h2 => (HX7.out b (by omega) h0).trans (HS1.out.k b h0 h1 h2)⟩); clear ho hE hown7 hgrow7 hat7 HL1 HX7))
      go_roundw
      case rel => exact ⟨k + 1, by omega, by go_num, HS7.out, HL7.out⟩
      case measure => simp [intOf]; omega
    · have hki : ¬ ((k : Int) < (n : Int)) := by omega
      obtain rfl : k = n := by omega
      go_wp2
      go_ret
      exact ⟨_, rfl, HL0.out, HS0.out⟩
end Go.Proofs.YtcbpjgnbdpfiiaaGreatDoor
