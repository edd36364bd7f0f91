/-
  CONTRACTS of the parser's mark, word, fail, miss, skip, want.
-/
import Derived.Test.YteapocgpenokfaaGreatDoorPaSee
import Derived.Deep.RegionHeld3
set_option linter.unusedVariables false
namespace Go.Proofs.YteapocgpenokfaaGreatDoor
set_option maxRecDepth 100000
open Go.RowKit

theorem mark_is (s : ByteArray) (w : World) : Calls Tryz.prog 51 #[.string s] w fun e w' => e = .returned (.agg #[.int .i64 5, .string s, .int .i64 0]) ∧ Below w.heap.size w w' := by
  go_enter Tryz.func51, Tryz.ntmps51
  go_wp2
  refine bodyPost_ret (v := .agg #[.int .i64 5, .string s, .int .i64 0]) (by simp [results, Tryz.results51, go_sem]) rfl ⟨rfl, ?_⟩
  repeat (first | exact Below.refl _ _ | refine below_setA ?_ (Nat.le_refl _) _ _ | refine Below.alloc ?_ (Nat.le_refl _) _)
theorem word_is (s : ByteArray) (w : World) : Calls Tryz.prog 63 #[.string s] w fun e w' => e = .returned (.agg #[.int .i64 1, .string s, .int .i64 0]) ∧ Below w.heap.size w w' := by
  go_enter Tryz.func63, Tryz.ntmps63
  go_wp2
  refine bodyPost_ret (v := .agg #[.int .i64 1, .string s, .int .i64 0]) (by simp [results, Tryz.results63, go_sem]) rfl ⟨rfl, ?_⟩
  repeat (first | exact Below.refl _ _ | refine below_setA ?_ (Nat.le_refl _) _ _ | refine Below.alloc ?_ (Nat.le_refl _) _)
theorem fail_is {w : World} {pb b c : Nat} {T : List Tok} {st : Pst} (h : PaS w pb b c T st) (e0 : Int) :
    Calls Tryz.prog 36 #[.pointer (some ⟨pb, 0, none⟩), .int .i64 e0] w fun e w' => e = .returned (.tuple #[]) ∧ PaS w' pb b c T (failM st e0) ∧ GrowA pb w w' := by
  have H : Hid (PaS w pb b c T st) := h
  obtain ⟨x0, x1, x2, x3, f1, f2, f3, hp, hb, hne, hts⟩ := h
  clear x0 x1 x2 f1 f2 hts
  unfold failM
  by_cases hw : st.wrong = 0
  · rw [if_pos hw]
    rw [hw] at x3
    clear hw
    go_enter Tryz.func36, Tryz.ntmps36
    go_wp2
    first
      | (go_end0; exact ⟨rfl, H.out.setE e0, (GrowA.refl _ _).set 3 _⟩)
      | (refine bodyPost_ret (v := .tuple #[]) (by simp [results, Tryz.results36, go_sem]) rfl ⟨rfl, H.out.setE e0, (GrowA.refl _ _).set 3 _⟩)
  · rw [if_neg hw]
    have hwb : (st.wrong == 0) = false := by rw [beq_eq_false_iff_ne]; exact hw
    generalize hq : st.wrong = q at x3 hw hwb
    go_enter Tryz.func36, Tryz.ntmps36
    go_wp2
    first
      | (go_end0; exact ⟨rfl, H.out, GrowA.refl _ _⟩)
      | (refine bodyPost_ret (v := .tuple #[]) (by simp [results, Tryz.results36, go_sem]) rfl ⟨rfl, H.out, GrowA.refl _ _⟩)
theorem miss_is {w : World} {pb b c : Nat} {T : List Tok} {st : Pst} (h : PaS w pb b c T st) :
    Calls Tryz.prog 18 #[.pointer (some ⟨pb, 0, none⟩)] w fun e w' => e = .returned (.tuple #[]) ∧ PaS w' pb b c T (missM T st) ∧ GrowA pb w w' := by
  have CF : Hid (∀ q e0, Calls Tryz.prog 36 #[.pointer (some ⟨pb, 0, none⟩), .int .i64 e0] (w.drewN q) fun e w' => e = .returned (.tuple #[]) ∧ PaS w' pb b c T (failM st e0) ∧ GrowA pb w w') := fun q e0 => (fail_is (h.below (below_drewA (Below.refl _ _) q)) e0).mono fun e w' ⟨k1, k2, k3⟩ => ⟨k1, k2, k3⟩
  obtain ⟨x0, x1, x2, x3, f1, f2, f3, hp, hb, hne, hts⟩ := h
  clear x2 x3 f1 f2 f3 hts
  unfold missM
  by_cases ha : st.at' = T.length
  · rw [if_pos ha]
    rw [ha] at x1
    clear ha
    go_enter Tryz.func18, Tryz.ntmps18
    go_upto_region 0 with fail
    go_quiet (fail)
    go_wp2_with (first | (go_at_call 36; refine (CF.out _ _).mono ?_; rintro e w1 ⟨rfl, hp1, hg1⟩))
    first
      | (go_end0; exact ⟨rfl, hp1, hg1⟩)
      | (refine bodyPost_ret (v := .tuple #[]) (by simp [results, Tryz.results18, go_sem]) rfl ⟨rfl, hp1, hg1⟩)
  · rw [if_neg ha]
    have hab : ((st.at' : Int) == (T.length : Int)) = false := by rw [beq_eq_false_iff_ne]; omega
    generalize st.at' = q at x1 ha hab
    go_enter Tryz.func18, Tryz.ntmps18
    go_upto_region 0 with fail
    go_quiet (fail)
    go_wp2_with (first | (go_at_call 36; refine (CF.out _ _).mono ?_; rintro e w1 ⟨rfl, hp1, hg1⟩))
    first
      | (go_end0; exact ⟨rfl, hp1, hg1⟩)
      | (refine bodyPost_ret (v := .tuple #[]) (by simp [results, Tryz.results18, go_sem]) rfl ⟨rfl, hp1, hg1⟩)
/-- how two tokens differ -/
theorem neqT {t u : Tok} (h : ¬ eqT t u = true) : (t.kind == u.kind) = false ∨ (u.kind = t.kind ∧ (t.s.toList == u.s.toList) = false) ∨ (u.kind = t.kind ∧ u.s = t.s ∧ (t.n == u.n) = false) := by
  by_cases h1 : t.kind = u.kind
  · by_cases h2 : t.s = u.s
    · refine .inr (.inr ⟨h1.symm, h2.symm, ?_⟩)
      rw [beq_eq_false_iff_ne]
      intro h3
      exact h (by unfold eqT; rw [decide_eq_true h1, decide_eq_true h2, decide_eq_true h3]; rfl)
    · refine .inr (.inl ⟨h1.symm, ?_⟩)
      rw [beq_eq_false_iff_ne]
      intro h3
      rw [ByteArray.toList_eq, ByteArray.toList_eq] at h3
      apply h2
      cases ht : t.s; cases hu : u.s
      rw [ht, hu] at h3
      congr 1
      exact Array.toList_inj.1 h3
  · exact .inl (by rw [beq_eq_false_iff_ne]; exact h1)
set_option maxHeartbeats 1600000 in
theorem skip_is {w : World} {pb b c : Nat} {T : List Tok} {st : Pst} (h : PaS w pb b c T st) (t : Tok) (hT : T.length ≤ 200) (hat : st.at' ≤ 300) :
    Calls Tryz.prog 54 #[.pointer (some ⟨pb, 0, none⟩), .agg #[.int .i64 t.kind, .string t.s, .int .i64 t.n]] w fun e w' => e = .returned (.bool (skipM T st t).1) ∧ PaS w' pb b c T (skipM T st t).2 ∧ GrowA pb w w' := by
  have HS : Hid (PaS w pb b c T st) := h
  obtain ⟨W1, hW1⟩ : ∃ W, W = w.alloc (.cells #[.int .i64 t.kind, .string t.s, .int .i64 t.n] 41) := ⟨_, rfl⟩
  have HB1 : Hid (Below w.heap.size w W1) := by rw [hW1]; exact (Below.refl _ _).alloc (Nat.le_refl _) _
  have r0 : W1.cell? ⟨w.heap.size, 0, none⟩ = some (.int .i64 t.kind) := by rw [hW1]; simp
  have r1 : W1.cell? ⟨w.heap.size, 1, none⟩ = some (.string t.s) := by rw [hW1]; simp
  have r2 : W1.cell? ⟨w.heap.size, 2, none⟩ = some (.int .i64 t.n) := by rw [hW1]; simp
  have hrl : w.heap.size < W1.heap.size := by rw [hW1]; simp
  have HSS : Hid (∀ W, Below W1.heap.size W1 W → W.cell? ⟨w.heap.size, 0, none⟩ = some (.int .i64 t.kind) ∧ W.cell? ⟨w.heap.size, 1, none⟩ = some (.string t.s) ∧ W.cell? ⟨w.heap.size, 2, none⟩ = some (.int .i64 t.n)) := fun W hb => ⟨(hb.cell (p := ⟨w.heap.size, 0, none⟩) hrl).trans r0, (hb.cell (p := ⟨w.heap.size, 1, none⟩) hrl).trans r1, (hb.cell (p := ⟨w.heap.size, 2, none⟩) hrl).trans r2⟩
  have CS : Hid (∀ W, Below W1.heap.size W1 W → Calls Tryz.prog 50 #[.pointer (some ⟨pb, 0, none⟩), .int .i64 0] W fun e w' => e = .returned (.agg #[.int .i64 (seeM T st 0).kind, .string (seeM T st 0).s, .int .i64 (seeM T st 0).n]) ∧ Below W1.heap.size W1 w') := fun W hW => (see_is ((h.below HB1.out).below hW) 0 (by omega) hT (by omega)).mono fun e w' ⟨k1, k2⟩ => ⟨k1, hW.trans (k2.mono hW.size)⟩
  unfold skipM
  generalize seeM T st 0 = u at CS
  obtain ⟨uk, us, un⟩ := u
  obtain ⟨tk, ts, tn⟩ := t
  simp only at r0 r1 r2 CS HSS hW1 ⊢
  clear r0 r1 r2 h
  by_cases he : eqT ⟨uk, us, un⟩ ⟨tk, ts, tn⟩ = true
  · rw [if_pos he]
    simp only [eqT, Bool.and_eq_true, decide_eq_true_eq] at he
    obtain ⟨⟨rfl, rfl⟩, rfl⟩ := he
    go_enter Tryz.func54, Tryz.ntmps54
    go_upto_region 1 with fail
    rw [← hW1]
    clear hW1
    go_region_held3 (fun W => W.cell? ⟨w.heap.size, 0, none⟩ = some (.int .i64 uk) ∧ W.cell? ⟨w.heap.size, 1, none⟩ = some (.string us) ∧ W.cell? ⟨w.heap.size, 2, none⟩ = some (.int .i64 un))
      ((refine HSS.out _ ?_; repeat (first | exact Hid.out (by assumption) | exact Below.refl _ _ | refine Below.drew ?_)))
      (first
        | (go_at_call 50; refine (CS.out _ ?_).mono ?_; (focus (repeat (first | exact Hid.out (by assumption) | exact Below.refl _ _ | refine Below.drew ?_))); rintro e w2 ⟨rfl, hb2⟩; have HB2 : Hid (Below W1.heap.size W1 w2) := hb2; clear hb2))
    have HB3 : Hid (Below w.heap.size w w2) := HB1.out.trans (HB2.out.mono HB1.out.size)
    have HP3 : Hid (PaS w2 pb b c T st) := HS.out.below HB3.out
    obtain ⟨x0, x1, x2, x3, f1, f2, f3, hp, hb, hne, hts⟩ := HP3.out
    have hwr : IntKind.i64.wrap ((st.at' : Int) + 1) = ((st.at' + 1 : Nat) : Int) := by rw [IntWalk.i64_in _ (by omega)]; simp
    have HF : Hid (PaS (w2.setCell ⟨pb, 1, none⟩ (.int .i64 ((st.at' + 1 : Nat) : Int))) pb b c T { st with at' := st.at' + 1 }) := HP3.out.setA _
    generalize ((st.at' + 1 : Nat) : Int) = q1 at hwr HF
    clear x0 x2 x3 f2 f3 hts
    go_wp2
    go_ret
    exact ⟨rfl, HF.out, ((GrowA.refl _ _).below HB3.out).set 1 _⟩
  · rw [if_neg he]
    have hd := neqT he
    clear he
    simp only at hd
    rcases hd with hd | ⟨rfl, hd⟩ | ⟨rfl, rfl, hd⟩
    · skip
      go_enter Tryz.func54, Tryz.ntmps54
      go_upto_region 1 with fail
      rw [← hW1]
      clear hW1
      go_region_held3 (fun W => W.cell? ⟨w.heap.size, 0, none⟩ = some (.int .i64 tk) ∧ W.cell? ⟨w.heap.size, 1, none⟩ = some (.string ts) ∧ W.cell? ⟨w.heap.size, 2, none⟩ = some (.int .i64 tn))
        ((refine HSS.out _ ?_; repeat (first | exact Hid.out (by assumption) | exact Below.refl _ _ | refine Below.drew ?_)))
        (first
          | (go_at_call 50; refine (CS.out _ ?_).mono ?_; (focus (repeat (first | exact Hid.out (by assumption) | exact Below.refl _ _ | refine Below.drew ?_))); rintro e w2 ⟨rfl, hb2⟩; have HB2 : Hid (Below W1.heap.size W1 w2) := hb2; clear hb2))
      all_goals
        have HB3 : Hid (Below w.heap.size w w2) := HB1.out.trans (HB2.out.mono HB1.out.size)
        go_wp2
        go_ret
        exact ⟨rfl, HS.out.below HB3.out, (GrowA.refl _ _).below HB3.out⟩
    · skip
      go_enter Tryz.func54, Tryz.ntmps54
      go_upto_region 1 with fail
      rw [← hW1]
      clear hW1
      go_region_held3 (fun W => W.cell? ⟨w.heap.size, 0, none⟩ = some (.int .i64 tk) ∧ W.cell? ⟨w.heap.size, 1, none⟩ = some (.string ts) ∧ W.cell? ⟨w.heap.size, 2, none⟩ = some (.int .i64 tn))
        ((refine HSS.out _ ?_; repeat (first | exact Hid.out (by assumption) | exact Below.refl _ _ | refine Below.drew ?_)))
        (first
          | (go_at_call 50; refine (CS.out _ ?_).mono ?_; (focus (repeat (first | exact Hid.out (by assumption) | exact Below.refl _ _ | refine Below.drew ?_))); rintro e w2 ⟨rfl, hb2⟩; have HB2 : Hid (Below W1.heap.size W1 w2) := hb2; clear hb2))
      all_goals
        have HB3 : Hid (Below w.heap.size w w2) := HB1.out.trans (HB2.out.mono HB1.out.size)
        go_wp2
        go_ret
        exact ⟨rfl, HS.out.below HB3.out, (GrowA.refl _ _).below HB3.out⟩
    · skip
      go_enter Tryz.func54, Tryz.ntmps54
      go_upto_region 1 with fail
      rw [← hW1]
      clear hW1
      go_region_held3 (fun W => W.cell? ⟨w.heap.size, 0, none⟩ = some (.int .i64 tk) ∧ W.cell? ⟨w.heap.size, 1, none⟩ = some (.string ts) ∧ W.cell? ⟨w.heap.size, 2, none⟩ = some (.int .i64 tn))
        ((refine HSS.out _ ?_; repeat (first | exact Hid.out (by assumption) | exact Below.refl _ _ | refine Below.drew ?_)))
        (first
          | (go_at_call 50; refine (CS.out _ ?_).mono ?_; (focus (repeat (first | exact Hid.out (by assumption) | exact Below.refl _ _ | refine Below.drew ?_))); rintro e w2 ⟨rfl, hb2⟩; have HB2 : Hid (Below W1.heap.size W1 w2) := hb2; clear hb2))
      all_goals
        have HB3 : Hid (Below w.heap.size w w2) := HB1.out.trans (HB2.out.mono HB1.out.size)
        go_wp2
        go_ret
        exact ⟨rfl, HS.out.below HB3.out, (GrowA.refl _ _).below HB3.out⟩
end Go.Proofs.YteapocgpenokfaaGreatDoor
