/-
  AS DEEP AS IT MAY BE: the parser's list at parentheses around a number.
-/
import Derived.Test.YteapocgpenokfaaGreatDoorPaRecF
import Derived.Test.YteapocgpenokfaaGreatDoorPaRecP
set_option linter.unusedVariables false
namespace Go.Proofs.YteapocgpenokfaaGreatDoor
set_option maxRecDepth 100000
open Go.RowKit

theorem failM_at {st : Pst} {e : Int} : (failM st e).at' = st.at' := by unfold failM; split <;> rfl
theorem missM_at {T : List Tok} {st : Pst} : (missM T st).at' = st.at' := by unfold missM; split <;> exact failM_at
theorem enterM_at {T : List Tok} {st : Pst} {g : Bool} : (enterM T st g).at' = st.at' := by
  unfold enterM
  simp only
  split
  · rw [failM_at]
    split
    · rfl
    · exact missM_at
  · rfl
theorem enterM_opn {T : List Tok} {st : Pst} {g : Bool} : (enterM T st g).opn = st.opn + 1 := by
  unfold enterM
  simp only
  split
  · rw [failM_opn]
    split
    · rfl
    · rw [missM_opn]
  · rfl
theorem enterM_lt {T : List Tok} {a o : Nat} {e : Int} {g : Bool} (h : o < 30) : enterM T ⟨a, o, e⟩ g = ⟨a, o + 1, e⟩ := by
  unfold enterM
  simp only
  rw [if_neg (by omega)]
theorem failM_wrong {a o : Nat} {e x : Int} (h : ¬ e = 0) : failM ⟨a, o, e⟩ x = ⟨a, o, e⟩ := by unfold failM; rw [if_neg h]
theorem missM_wr {T : List Tok} {a o : Nat} {e : Int} (h : ¬ e = 0) : missM T ⟨a, o, e⟩ = ⟨a, o, e⟩ := missM_wrong h
theorem enterM_wrong {T : List Tok} {a o : Nat} {e : Int} {g : Bool} (h : ¬ e = 0) : enterM T ⟨a, o, e⟩ g = ⟨a, o + 1, e⟩ := by
  unfold enterM
  simp only
  split
  · rw [missM_wr h]
    split <;> rw [failM_wrong h]
  · rfl
theorem enterM_deep {T : List Tok} {a o : Nat} (h : 30 ≤ o) : enterM T ⟨a, o, 0⟩ true = ⟨a, o + 1, 8⟩ := by
  unfold enterM
  simp only
  rw [if_pos h, if_pos trivial]
  rfl
/-- the list of phrases, where what is no step is done -/
theorem list_chain {pb b c : Nat} {T : List Tok} {st s1 s2 s3 s4 : Pst} (hT : T.length ≤ 200) (hA : ∀ st a, Cls (seeM T st a)) (hpo : 4 ≠ pb) (hat : st.at' ≤ 250) (ho : st.opn ≤ 90) (h1 : s1 = enterM T st (sbM (seeM T st 0))) (h2 : s2 = enterM T s1 (sbM (seeM T s1 0))) (h3 : s3 = enterM T s2 (sbM (seeM T s2 0))) (h4 : s4.at' ≤ 300) (o4 : s4.opn = st.opn + 3) (HN : RunO pb b c T 97 #[] s3 s4) :
    RunO pb b c T 17 #[] st ⟨s4.at', st.opn, s4.wrong⟩ := by
  have a1 : s1.at' = st.at' := by rw [h1, enterM_at]
  have a2 : s2.at' = st.at' := by rw [h2, enterM_at, a1]
  have a3 : s3.at' = st.at' := by rw [h3, enterM_at, a2]
  have o1 : s1.opn = st.opn + 1 := by rw [h1, enterM_opn]
  have o2 : s2.opn = st.opn + 2 := by rw [h2, enterM_opn, o1]
  have H1 : RunO pb b c T 93 #[] s3 s4 := bareStep_runs hT (by omega) (hA s3 0) hpo HN
  rw [h3] at H1
  have H2 : RunO pb b c T 90 #[] s2 { s4 with opn := s4.opn - 1 } := step_runs hT (by omega) h4 (by omega) (by omega) (hA s2 0) (hA s4 0) hpo H1
  have H3 : RunO pb b c T 86 #[] s2 { s4 with opn := s4.opn - 1 } := path_runs (st1 := { s4 with opn := s4.opn - 1 }) hT (by omega) h4 (hA s2 0) (hA _ 0) hpo H2
  have H4 : RunO pb b c T 76 #[] s2 { s4 with opn := s4.opn - 1 } := minus_runs (st1 := { s4 with opn := s4.opn - 1 }) hT (by omega) (hA s2 0) hpo H3
  have B8 : ∀ {w : World}, PaS w pb b c T s2 → OpTab w → Calls Tryz.prog 67 #[.pointer (some ⟨pb, 0, none⟩), .int .i64 ((7 + 1 : Nat) : Int)] w fun e w' => ∃ v, PhV v ∧ e = .returned v ∧ PaS w' pb b c T { s4 with opn := s4.opn - 1 } ∧ GrowA pb w w' := fun h ho => binary_top hpo H4 h ho
  have B7 : ∀ {w : World}, PaS w pb b c T s2 → OpTab w → Calls Tryz.prog 67 #[.pointer (some ⟨pb, 0, none⟩), .int .i64 ((6 + 1 : Nat) : Int)] w fun e w' => ∃ v, PhV v ∧ e = .returned v ∧ PaS w' pb b c T { s4 with opn := s4.opn - 1 } ∧ GrowA pb w w' := fun h ho => binary_more (bd := 7) (st1 := { s4 with opn := s4.opn - 1 }) hT h4 (hA _ 0) (by omega) h ho hpo B8
  have B6 : ∀ {w : World}, PaS w pb b c T s2 → OpTab w → Calls Tryz.prog 67 #[.pointer (some ⟨pb, 0, none⟩), .int .i64 ((5 + 1 : Nat) : Int)] w fun e w' => ∃ v, PhV v ∧ e = .returned v ∧ PaS w' pb b c T { s4 with opn := s4.opn - 1 } ∧ GrowA pb w w' := fun h ho => binary_more (bd := 6) (st1 := { s4 with opn := s4.opn - 1 }) hT h4 (hA _ 0) (by omega) h ho hpo B7
  have B5 : ∀ {w : World}, PaS w pb b c T s2 → OpTab w → Calls Tryz.prog 67 #[.pointer (some ⟨pb, 0, none⟩), .int .i64 ((4 + 1 : Nat) : Int)] w fun e w' => ∃ v, PhV v ∧ e = .returned v ∧ PaS w' pb b c T { s4 with opn := s4.opn - 1 } ∧ GrowA pb w w' := fun h ho => binary_more (bd := 5) (st1 := { s4 with opn := s4.opn - 1 }) hT h4 (hA _ 0) (by omega) h ho hpo B6
  have B4 : ∀ {w : World}, PaS w pb b c T s2 → OpTab w → Calls Tryz.prog 67 #[.pointer (some ⟨pb, 0, none⟩), .int .i64 ((3 + 1 : Nat) : Int)] w fun e w' => ∃ v, PhV v ∧ e = .returned v ∧ PaS w' pb b c T { s4 with opn := s4.opn - 1 } ∧ GrowA pb w w' := fun h ho => binary_more (bd := 4) (st1 := { s4 with opn := s4.opn - 1 }) hT h4 (hA _ 0) (by omega) h ho hpo B5
  have B3 : ∀ {w : World}, PaS w pb b c T s2 → OpTab w → Calls Tryz.prog 67 #[.pointer (some ⟨pb, 0, none⟩), .int .i64 ((2 + 1 : Nat) : Int)] w fun e w' => ∃ v, PhV v ∧ e = .returned v ∧ PaS w' pb b c T { s4 with opn := s4.opn - 1 } ∧ GrowA pb w w' := fun h ho => binary_more (bd := 3) (st1 := { s4 with opn := s4.opn - 1 }) hT h4 (hA _ 0) (by omega) h ho hpo B4
  have B2 : ∀ {w : World}, PaS w pb b c T s2 → OpTab w → Calls Tryz.prog 67 #[.pointer (some ⟨pb, 0, none⟩), .int .i64 ((1 + 1 : Nat) : Int)] w fun e w' => ∃ v, PhV v ∧ e = .returned v ∧ PaS w' pb b c T { s4 with opn := s4.opn - 1 } ∧ GrowA pb w w' := fun h ho => binary_more (bd := 2) (st1 := { s4 with opn := s4.opn - 1 }) hT h4 (hA _ 0) (by omega) h ho hpo B3
  have B1 : ∀ {w : World}, PaS w pb b c T s2 → OpTab w → Calls Tryz.prog 67 #[.pointer (some ⟨pb, 0, none⟩), .int .i64 ((0 + 1 : Nat) : Int)] w fun e w' => ∃ v, PhV v ∧ e = .returned v ∧ PaS w' pb b c T { s4 with opn := s4.opn - 1 } ∧ GrowA pb w w' := fun h ho => binary_more (bd := 1) (st1 := { s4 with opn := s4.opn - 1 }) hT h4 (hA _ 0) (by omega) h ho hpo B2
  have B0 : ∀ {w : World}, PaS w pb b c T s2 → OpTab w → Calls Tryz.prog 67 #[.pointer (some ⟨pb, 0, none⟩), .int .i64 0] w fun e w' => ∃ v, PhV v ∧ e = .returned v ∧ PaS w' pb b c T { s4 with opn := s4.opn - 1 } ∧ GrowA pb w w' := fun h ho => binary_more (bd := 0) (st1 := { s4 with opn := s4.opn - 1 }) hT h4 (hA _ 0) (by omega) h ho hpo B1
  rw [h2] at B0
  have H6 : ∀ {w : World}, PaS w pb b c T s1 → OpTab w → Calls Tryz.prog 53 #[.pointer (some ⟨pb, 0, none⟩)] w fun e w' => ∃ v, PhV v ∧ e = .returned v ∧ PaS w' pb b c T { s4 with opn := s4.opn - 1 - 1 } ∧ GrowA pb w w' := fun h ho => single_runs (st1 := { s4 with opn := s4.opn - 1 }) hT (by omega) (by rw [enterM_at]; omega) (by omega) (show 1 ≤ s4.opn - 1 ∧ s4.opn - 1 ≤ 200 by omega) (hA s1 0) (hA _ 0) (hA _ 1) hpo h ho B0
  rw [h1] at H6
  intro w h hot
  have e : (⟨s4.at', st.opn, s4.wrong⟩ : Pst) = { s4 with opn := s4.opn - 1 - 1 - 1 } := by rw [show s4.opn - 1 - 1 - 1 = st.opn by omega]
  rw [e]
  exact list_runs (st1 := { s4 with opn := s4.opn - 1 - 1 }) hT (by omega) (by omega) (show 1 ≤ s4.opn - 1 - 1 ∧ s4.opn - 1 - 1 ≤ 200 by omega) (hA st 0) hpo h hot fun h ho => singles_runs (st1 := { s4 with opn := s4.opn - 1 - 1 }) hT h4 (hA _ 0) hpo h ho H6
/-- parentheses around a number -/
def deepT (k : Nat) : List Tok := List.replicate k lpT ++ oneT :: List.replicate k rpT
theorem deep_len (k : Nat) : (deepT k).length = 2 * k + 1 := by simp [deepT]; omega
theorem deep_lp {k i : Nat} (h : i < k) : (deepT k).getD i tok0 = lpT := by
  unfold deepT
  rw [List.getD_eq_getElem?_getD, List.getElem?_append_left (by simpa using h), List.getElem?_replicate, if_pos h]
  rfl
theorem deep_one {k : Nat} : (deepT k).getD k tok0 = oneT := by
  unfold deepT
  rw [List.getD_eq_getElem?_getD, List.getElem?_append_right (by simp)]
  simp
theorem deep_rp {k i : Nat} (h : k < i) (h2 : i ≤ 2 * k) : (deepT k).getD i tok0 = rpT := by
  unfold deepT
  rw [List.getD_eq_getElem?_getD, List.getElem?_append_right (by simp; omega), List.length_replicate, List.getElem?_cons, if_neg (by omega), List.getElem?_replicate, if_pos (by omega)]
  rfl
theorem deep_cls (k : Nat) (st : Pst) (a : Nat) : Cls (seeM (deepT k) st a) := by
  unfold seeM
  split
  · exact .inl rfl
  · rename_i h
    have hl := deep_len k
    by_cases h1 : st.at' + a < k
    · rw [deep_lp h1]; exact .inr (.inl rfl)
    · by_cases h2 : st.at' + a = k
      · rw [h2, deep_one]; exact .inr (.inr (.inr rfl))
      · rw [deep_rp (by omega) (by omega)]; exact .inr (.inr (.inl rfl))
theorem deep_see {k d o : Nat} (h : d ≤ 2 * k) : seeM (deepT k) ⟨d, o, 0⟩ 0 = (deepT k).getD d tok0 := by
  unfold seeM
  rw [if_neg (by rw [deep_len]; simp; omega)]
  rfl
theorem deep_beg {k d o : Nat} (h : d ≤ k) : sbM (seeM (deepT k) ⟨d, o, 0⟩ 0) = true := by
  rw [deep_see (by omega)]
  by_cases h1 : d < k
  · rw [deep_lp h1]; decide
  · rw [show d = k by omega, deep_one]; decide
theorem deep_begin {k d o : Nat} (h : d ≤ k) : eqT (seeM (deepT k) ⟨d, o, 0⟩ 0) ⟨5, ⟨#[41]⟩, 0⟩ = false := by
  rw [deep_see (by omega)]
  by_cases h1 : d < k
  · rw [deep_lp h1]; decide
  · rw [show d = k by omega, deep_one]; decide
set_option maxHeartbeats 800000 in
/-- not too deep -/
theorem list_right {pb b c k : Nat} (hk : k ≤ 9) (hpo : 4 ≠ pb) : ∀ n d, d + n = k → RunO pb b c (deepT k) 17 #[] ⟨d, 3 * d, 0⟩ ⟨2 * k + 1 - d, 3 * d, 0⟩
  | 0, d, hd => by
    have e : d = k := by omega
    subst e
    have HN : RunO pb b c (deepT d) 97 #[] ⟨d, 3 * d + 1 + 1 + 1, 0⟩ ⟨d + 1, 3 * d + 1 + 1 + 1, 0⟩ := noStep_one (pb := pb) (b := b) (c := c) (T := deepT d) (st := ⟨d, 3 * d + 1 + 1 + 1, 0⟩) (by rw [deep_len]; omega) (show d ≤ 300 by omega) (by rw [deep_see (by omega), deep_one])
    have h : RunO pb b c (deepT d) 17 #[] ⟨d, 3 * d, 0⟩ ⟨d + 1, 3 * d, 0⟩ := list_chain (st := ⟨d, 3 * d, 0⟩) (s1 := ⟨d, 3 * d + 1, 0⟩) (s2 := ⟨d, 3 * d + 1 + 1, 0⟩) (by rw [deep_len]; omega) (deep_cls d) hpo (show d ≤ 250 by omega) (show 3 * d ≤ 90 by omega) (enterM_lt (by omega)).symm (enterM_lt (by omega)).symm (enterM_lt (by omega)).symm (show d + 1 ≤ 300 by omega) rfl HN
    rw [show 2 * d + 1 - d = d + 1 by omega]
    exact h
  | n + 1, d, hd => by
    have IH : RunO pb b c (deepT k) 17 #[] ⟨d + 1, 3 * (d + 1), 0⟩ ⟨2 * k + 1 - (d + 1), 3 * (d + 1), 0⟩ := list_right (pb := pb) (b := b) (c := c) hk hpo n (d + 1) (by omega)
    have HU : RunO pb b c (deepT k) 101 #[.agg #[.int .i64 5, .string ⟨#[41]⟩, .int .i64 0]] ⟨d + 1, 3 * (d + 1), 0⟩ (wantM (deepT k) ⟨2 * k + 1 - (d + 1), 3 * (d + 1), 0⟩ rpT) := listUpTo_runs (by rw [deep_len]; omega) (show d + 1 ≤ 300 by omega) (show 2 * k + 1 - (d + 1) ≤ 300 by omega) (deep_begin (by omega)) hpo IH
    have hw : wantM (deepT k) ⟨2 * k + 1 - (d + 1), 3 * (d + 1), 0⟩ rpT = ⟨2 * k + 1 - d, 3 * (d + 1), 0⟩ := by
      unfold wantM skipM
      rw [deep_see (by omega), deep_rp (by omega) (by omega), if_pos (show eqT rpT rpT = true by decide)]
      simp only [if_true]
      rw [show 2 * k + 1 - (d + 1) + 1 = 2 * k + 1 - d by omega]
    rw [hw] at HU
    have HN : RunO pb b c (deepT k) 97 #[] ⟨d, 3 * d + 1 + 1 + 1, 0⟩ ⟨2 * k + 1 - d, 3 * (d + 1), 0⟩ := noStep_lp (st := ⟨d, 3 * d + 1 + 1 + 1, 0⟩) (by rw [deep_len]; omega) (show d ≤ 300 by omega) (by rw [deep_see (by omega), deep_lp (by omega)]) hpo (by rw [show 3 * d + 1 + 1 + 1 = 3 * (d + 1) by omega]; exact HU)
    exact list_chain (st := ⟨d, 3 * d, 0⟩) (s1 := ⟨d, 3 * d + 1, 0⟩) (s2 := ⟨d, 3 * d + 1 + 1, 0⟩) (by rw [deep_len]; omega) (deep_cls k) hpo (show d ≤ 250 by omega) (show 3 * d ≤ 90 by omega) (enterM_lt (by omega)).symm (enterM_lt (by omega)).symm (enterM_lt (by omega)).symm (show 2 * k + 1 - d ≤ 300 by omega) (show 3 * (d + 1) = 3 * d + 3 by omega) HN
theorem see_wrong {T : List Tok} {a o : Nat} {e : Int} (h : ¬ e = 0) : seeM T ⟨a, o, e⟩ 0 = tok0 := seeM_wrong h
set_option maxHeartbeats 800000 in
/-- too deep -/
theorem list_deep {pb b c k : Nat} (hk : 10 ≤ k) (hk2 : k ≤ 25) (hpo : 4 ≠ pb) : ∀ n d, d + n = 10 → RunO pb b c (deepT k) 17 #[] ⟨d, 3 * d, 0⟩ ⟨10, 3 * d, 8⟩
  | 0, d, hd => by
    have e : d = 10 := by omega
    subst e
    have HN : RunO pb b c (deepT k) 97 #[] ⟨10, 33, 8⟩ (missM (deepT k) ⟨10, 33, 8⟩) := noStep_none (pb := pb) (b := b) (c := c) (T := deepT k) (st := ⟨10, 33, 8⟩) (by rw [deep_len]; omega) (by decide) (see_wrong (by decide))
    rw [missM_wr (by decide)] at HN
    exact list_chain (st := ⟨10, 30, 0⟩) (s1 := ⟨10, 31, 8⟩) (s2 := ⟨10, 32, 8⟩) (by rw [deep_len]; omega) (deep_cls k) hpo (by decide) (by decide) (by rw [deep_beg (by omega), enterM_deep (by omega)]) (by rw [enterM_wrong (by decide)]) (by rw [enterM_wrong (by decide)]) (by decide) rfl HN
  | n + 1, d, hd => by
    have IH : RunO pb b c (deepT k) 17 #[] ⟨d + 1, 3 * (d + 1), 0⟩ ⟨10, 3 * (d + 1), 8⟩ := list_deep (pb := pb) (b := b) (c := c) hk hk2 hpo n (d + 1) (by omega)
    have HU : RunO pb b c (deepT k) 101 #[.agg #[.int .i64 5, .string ⟨#[41]⟩, .int .i64 0]] ⟨d + 1, 3 * (d + 1), 0⟩ (wantM (deepT k) ⟨10, 3 * (d + 1), 8⟩ rpT) := listUpTo_runs (by rw [deep_len]; omega) (show d + 1 ≤ 300 by omega) (show 10 ≤ 300 by omega) (deep_begin (by omega)) hpo IH
    have hw : wantM (deepT k) ⟨10, 3 * (d + 1), 8⟩ rpT = ⟨10, 3 * (d + 1), 8⟩ := by
      unfold wantM skipM
      rw [see_wrong (by decide), if_neg (show ¬ eqT tok0 rpT = true by decide)]
      simp only
      rw [if_neg (by decide), missM_wr (by decide)]
    rw [hw] at HU
    have HN : RunO pb b c (deepT k) 97 #[] ⟨d, 3 * d + 1 + 1 + 1, 0⟩ ⟨10, 3 * (d + 1), 8⟩ := noStep_lp (st := ⟨d, 3 * d + 1 + 1 + 1, 0⟩) (by rw [deep_len]; omega) (show d ≤ 300 by omega) (by rw [deep_see (by omega), deep_lp (by omega)]) hpo (by rw [show 3 * d + 1 + 1 + 1 = 3 * (d + 1) by omega]; exact HU)
    exact list_chain (st := ⟨d, 3 * d, 0⟩) (s1 := ⟨d, 3 * d + 1, 0⟩) (s2 := ⟨d, 3 * d + 1 + 1, 0⟩) (by rw [deep_len]; omega) (deep_cls k) hpo (show d ≤ 250 by omega) (show 3 * d ≤ 90 by omega) (enterM_lt (by omega)).symm (enterM_lt (by omega)).symm (enterM_lt (by omega)).symm (show 10 ≤ 300 by omega) (show 3 * (d + 1) = 3 * d + 3 by omega) HN
end Go.Proofs.YteapocgpenokfaaGreatDoor
