/-
  CONTRACT of the law RelRanks: both answers are the same.
-/
import Derived.Test.YtlblomlblibbdaaDoorRkOf2
import Derived.Test.YtlblomlblibbdaaDoorRkBad
import Derived.Test.YtlblomlblibbdaaDoorRkMade
import Derived.Test.YtlblomlblibbdaaDoorRlChain
import Derived.Test.YtlblomlblibbdaaDoorRlRels
set_option linter.unusedVariables false
namespace Go.Proofs.YtlblomlblibbdaaDoor
set_option maxRecDepth 100000
open Go.RowKit Go.WideShapes

theorem no_empty {C : Nat → ByteArray} {n : Nat} (h : colsF C n = 0) : colI C n ⟨#[]⟩ = -1 := by
  refine colI_miss fun j hj => ?_
  have h8 := colsF_le h
  have hE : colE C j = 0 := by
    unfold colsF at h
    rw [if_neg (by omega)] at h
    exact firstE_zero h j hj
  have hs : 1 ≤ (C j).size := Classical.byContradiction fun hn => by
    rw [colE_size (.inl (by omega))] at hE
    exact absurd hE (by decide)
  rw [Lib.bytes_beq_false_iff]
  intro e
  rw [e] at hs
  exact absurd hs (by decide)
theorem part_empty {part : ByteArray} (h : part.size = 0) : part = ⟨#[]⟩ := by
  refine ByteArray.ext ?_
  exact Array.eq_empty_of_size_eq_zero h
/-- both answers, in one -/
theorem both_ranks (n m ko : Nat) (C O : Nat → ByteArray) (R : Nat → Row) (name part : ByteArray) (hf : StrsFine n C) (hg : RowsFine m R) (hfl : StrsFine ko O) (hko : ko * 32 ≤ 140737488351232) (hnm : name.size ≤ maxLen) :
    ∃ (F : Int) (N1 M1 : Nat) (E : Nat → ByteArray) (U : Nat → Row),
      (∀ W c q l, StrsIs W c n C → RowsIs W q m R → StrsIs W l ko O → Tabs W → Calls Tryd.prog 5 #[.agg #[c, q], .string name, l, .string part] W fun e w' => ∃ a3 k3 b3 l3, e = .returned (.tuple #[.agg #[.slice a3 N1 k3, .slice b3 M1 l3], .int .i64 F]) ∧ FreshRel W w' (.slice a3 N1 k3) (.slice b3 M1 l3) N1 M1 E U ∧ Chain W w') ∧
      (∀ W c q l, StrsIs W c n C → RowsIs W q m R → StrsIs W l ko O → Tabs W → Calls Tryd.prog 6 #[.agg #[c, q], .string name, l, .string part] W fun e w' => ∃ a3 k3 b3 l3, e = .returned (.tuple #[.agg #[.slice a3 N1 k3, .slice b3 M1 l3], .int .i64 F]) ∧ CopyIs w' (.slice a3 N1 k3) (.slice b3 M1 l3) N1 M1 E U ∧ Chain W w') := by
  have nilF : ∀ (F : Int) (E : Nat → ByteArray) (U : Nat → Row) (W w' : World) (e : Ending), (e = .returned (.tuple #[.agg #[.slice none 0 0, .slice none 0 0], .int .i64 F]) ∧ Below W.heap.size W w') → ∃ a3 k3 b3 l3, e = .returned (.tuple #[.agg #[.slice a3 0 k3, .slice b3 0 l3], .int .i64 F]) ∧ FreshRel W w' (.slice a3 0 k3) (.slice b3 0 l3) 0 0 E U ∧ Chain W w' := fun F E U W w' e ⟨h1, h2⟩ => ⟨none, 0, none, 0, h1, FreshRel.nil _ _ _ _, h2⟩
  have nilD : ∀ (F : Int) (E : Nat → ByteArray) (U : Nat → Row) (W w' : World) (e : Ending), (e = .returned (.tuple #[.agg #[.slice none 0 0, .slice none 0 0], .int .i64 F]) ∧ Below W.heap.size W w') → ∃ a3 k3 b3 l3, e = .returned (.tuple #[.agg #[.slice a3 0 k3, .slice b3 0 l3], .int .i64 F]) ∧ CopyIs w' (.slice a3 0 k3) (.slice b3 0 l3) 0 0 E U ∧ Chain W w' := fun F E U W w' e ⟨h1, h2⟩ => ⟨none, 0, none, 0, h1, ⟨nil_strs _ _, nil_rows _ _⟩, h2⟩
  have yesF : ∀ (F : Int) (N1 M1 : Nat) (E : Nat → ByteArray) (U : Nat → Row) (W w' : World) (e : Ending), (∃ c1 q1, e = .returned (.tuple #[.agg #[c1, q1], .int .i64 F]) ∧ FreshRel W w' c1 q1 N1 M1 E U ∧ Below W.heap.size W w') → ∃ a3 k3 b3 l3, e = .returned (.tuple #[.agg #[.slice a3 N1 k3, .slice b3 M1 l3], .int .i64 F]) ∧ FreshRel W w' (.slice a3 N1 k3) (.slice b3 M1 l3) N1 M1 E U ∧ Chain W w' := fun F N1 M1 E U W w' e ⟨c3, q3, h3, h4, h5⟩ => by
    obtain ⟨⟨a3, k3, rfl, _⟩, ⟨b3, l3, rfl, _⟩⟩ := h4 w' (Nat.le_refl _) (fun _ _ _ => rfl)
    exact ⟨a3, k3, b3, l3, h3, h4, h5⟩
  have yesD : ∀ (F : Int) (N1 M1 : Nat) (E : Nat → ByteArray) (U : Nat → Row) (W w' : World) (e : Ending), (∃ c1 q1, e = .returned (.tuple #[.agg #[c1, q1], .int .i64 F]) ∧ StrsIs w' c1 N1 E ∧ RowsIs w' q1 M1 U ∧ Below W.heap.size W w') → ∃ a3 k3 b3 l3, e = .returned (.tuple #[.agg #[.slice a3 N1 k3, .slice b3 M1 l3], .int .i64 F]) ∧ CopyIs w' (.slice a3 N1 k3) (.slice b3 M1 l3) N1 M1 E U ∧ Chain W w' := fun F N1 M1 E U W w' e ⟨c3, q3, h3, h4, h5, h6⟩ => by
    have k4 := h4
    have k5 := h5
    obtain ⟨a3, k3, rfl, _⟩ := h4
    obtain ⟨b3, l3, rfl, _⟩ := h5
    exact ⟨a3, k3, b3, l3, h3, ⟨k4, k5⟩, h6⟩
  by_cases h0 : relF C n R m = 0
  · cases hfo : foundB C n O ko
    · exact ⟨9, 0, 0, C, R, fun W c q l k1 k2 k3 k4 => (rank_cols c q l name part n m ko C O R W k1 k2 hf hg k3 hfl k4 h0 hfo).mono fun e w' h => nilF _ _ _ _ _ _ h, fun W c q l k1 k2 k3 k4 => (ranked_cols c q l name part n m ko C O R W k1 k2 hf hg k3 hfl k4 h0 hfo).mono fun e w' h => nilD _ _ _ _ _ _ h⟩
    · by_cases hz : part.size = 0
      · have hpe := part_empty hz
        subst hpe
        have hcol := no_empty (relF_zero h0).1
        by_cases hmd : madeF (colsR C n name).at_ (n + 1) m = 0
        · refine ⟨0, n + 1, m, (colsR C n name).at_, rkR R (rkF (fun i t => (R i).at_ (prP C n O t)) ko (fun _ => itZ) m), fun W c q l k1 k2 k3 k4 => (rank_none c q l name n m ko C O R W k1 k2 hf hg k3 hfl k4 h0 hfo hnm hmd).mono fun e w' h => yesF _ _ _ _ _ _ _ _ h, fun W c q l k1 k2 k3 k4 => ?_⟩
          have h := ranked_none c q l name n m ko C O R W k1 k2 hf hg k3 hfl hko k4 h0 hfo hnm hcol
          rw [hmd] at h
          exact h.mono fun e w' h => yesD _ _ _ _ _ _ _ _ h
        · refine ⟨madeF (colsR C n name).at_ (n + 1) m, 0, 0, (colsR C n name).at_, rkR R (rkF (fun i t => (R i).at_ (prP C n O t)) ko (fun _ => itZ) m), fun W c q l k1 k2 k3 k4 => (rank_none_made c q l name n m ko C O R W k1 k2 hf hg k3 hfl k4 h0 hfo hnm hmd).mono fun e w' h => nilF _ _ _ _ _ _ h, fun W c q l k1 k2 k3 k4 => ?_⟩
          have h := ranked_none c q l name n m ko C O R W k1 k2 hf hg k3 hfl hko k4 h0 hfo hnm hcol
          rw [okN, if_neg hmd, okN, if_neg hmd] at h
          exact h.mono fun e w' h => yesD _ _ _ _ _ _ _ _ h
      · have hpe : part.toList.isEmpty = false := isEmpty_no hz
        rcases colI_cases C n part with hcol | ⟨cc0, hcc, hcol⟩
        · exact ⟨9, 0, 0, C, R, fun W c q l k1 k2 k3 k4 => (rank_pcol c q l name part n m ko C O R W k1 k2 hf hg k3 hfl k4 h0 hfo hpe hcol).mono fun e w' h => nilF _ _ _ _ _ _ h, fun W c q l k1 k2 k3 k4 => (ranked_pcol c q l name part n m ko C O R W k1 k2 hf hg k3 hfl k4 h0 hfo hpe hcol).mono fun e w' h => nilD _ _ _ _ _ _ h⟩
        · by_cases hmd : madeF (colsR C n name).at_ (n + 1) m = 0
          · refine ⟨0, n + 1, m, (colsR C n name).at_, rkR R (rkF (fun i t => (R i).at_ (prP C n O t)) ko (fun i => (R i).at_ cc0) m), fun W c q l k1 k2 k3 k4 => (rank_partG c q l name part hpe n m ko cc0 C O R W k1 k2 hf hg k3 hfl k4 h0 hfo hnm hmd hcol hcc).mono fun e w' h => yesF _ _ _ _ _ _ _ _ h, fun W c q l k1 k2 k3 k4 => ?_⟩
            have h := ranked_part c q l name n m ko C O R W k1 k2 hf hg k3 hfl hko k4 h0 hfo hnm part hpe cc0 hcol hcc
            rw [hmd] at h
            exact h.mono fun e w' h => yesD _ _ _ _ _ _ _ _ h
          · refine ⟨madeF (colsR C n name).at_ (n + 1) m, 0, 0, (colsR C n name).at_, rkR R (rkF (fun i t => (R i).at_ (prP C n O t)) ko (fun i => (R i).at_ cc0) m), fun W c q l k1 k2 k3 k4 => (rank_part_made c q l name part hpe n m ko cc0 C O R W k1 k2 hf hg k3 hfl k4 h0 hfo hnm hmd hcol hcc).mono fun e w' h => nilF _ _ _ _ _ _ h, fun W c q l k1 k2 k3 k4 => ?_⟩
            have h := ranked_part c q l name n m ko C O R W k1 k2 hf hg k3 hfl hko k4 h0 hfo hnm part hpe cc0 hcol hcc
            rw [okN, if_neg hmd, okN, if_neg hmd] at h
            exact h.mono fun e w' h => yesD _ _ _ _ _ _ _ _ h
  · exact ⟨relF C n R m, 0, 0, C, R, fun W c q l k1 k2 k3 k4 => (rank_bad c q l name part n m ko C O R W k1 k2 hf hg k3 hfl k4 h0).mono fun e w' h => nilF _ _ _ _ _ _ h, fun W c q l k1 k2 k3 k4 => (ranked_bad c q l name part n m ko C O R W k1 k2 hf hg k3 hfl k4 h0).mono fun e w' h => nilD _ _ _ _ _ _ h⟩
theorem carry2 {w wr : World} {b : Nat} {x y : Value} (h : Chain w wr) (h0 : w.cell? ⟨b, 0, none⟩ = some x) (h1 : w.cell? ⟨b, 1, none⟩ = some y) (hb : b < w.heap.size) : wr.cell? ⟨b, 0, none⟩ = some x ∧ wr.cell? ⟨b, 1, none⟩ = some y ∧ b < wr.heap.size :=
  ⟨(Below.cell h (p := ⟨b, 0, none⟩) hb).trans h0, (Below.cell h (p := ⟨b, 1, none⟩) hb).trans h1, Nat.lt_of_lt_of_le hb (Below.size h)⟩
set_option maxHeartbeats 6400000 in
theorem lawRanks (c q l : Value) (name part : ByteArray) (n m ko : Nat) (C O : Nat → ByteArray) (R : Nat → Row) (w : World) (hc : StrsIs w c n C) (hq : RowsIs w q m R) (hf : StrsFine n C) (hg : RowsFine m R) (hl : StrsIs w l ko O) (hfl : StrsFine ko O) (hko : ko * 32 ≤ 140737488351232) (hnm : name.size ≤ maxLen) (hT : Tabs w) :
    Calls Tryd.prog 3 #[.agg #[c, q], .string name, l, .string part] w fun e w' => e = .returned (.bool true) ∧ Below w.heap.size w w' := by
  have CR : Hid (∀ o, Calls Tryd.prog 4 #[.agg #[c, q]] (w.alloc o) fun e w' => ∃ a1 k1 b1 l1, e = .returned (.agg #[.slice a1 n k1, .slice b1 m l1]) ∧ CopyIs w' (.slice a1 n k1) (.slice b1 m l1) n m C R ∧ Chain (w.alloc o) w') := fun o => (rels_is c q n m C R _ (hc.below ((Below.refl _ _).alloc (Nat.le_refl _) _)) (hq.below ((Below.refl _ _).alloc (Nat.le_refl _) _)) hf hg).mono (fun e w' ⟨c1, q1, h1, h2, h3, h4⟩ => by
    have k2 := h2
    have k3 := h3
    obtain ⟨a1, k1, rfl, _⟩ := h2
    obtain ⟨b1, l1, rfl, _⟩ := h3
    exact ⟨a1, k1, b1, l1, h1, ⟨k2, k3⟩, h4⟩)
  obtain ⟨F, N1, M1, E, U, cp, cd⟩ := both_ranks n m ko C O R name part hf hg hfl hko hnm
  have CP : Hid (∀ W c1 q1 v2, Below w.heap.size w W → CopyIs W c1 q1 n m C R → StrsIs W v2 ko O → Calls Tryd.prog 5 #[.agg #[c1, q1], .string name, v2, .string part] W fun e w' => ∃ a3 k3 b3 l3, e = .returned (.tuple #[.agg #[.slice a3 N1 k3, .slice b3 M1 l3], .int .i64 F]) ∧ FreshRel W w' (.slice a3 N1 k3) (.slice b3 M1 l3) N1 M1 E U ∧ Chain W w') := fun W c1 q1 v2 hW h1 h2 => cp W c1 q1 v2 h1.1 h1.2 h2 (Utf8Tabs_below hT hW)
  have CD : Hid (∀ W, Below w.heap.size w W → Calls Tryd.prog 6 #[.agg #[c, q], .string name, l, .string part] W fun e w' => ∃ a3 k3 b3 l3, e = .returned (.tuple #[.agg #[.slice a3 N1 k3, .slice b3 M1 l3], .int .i64 F]) ∧ CopyIs w' (.slice a3 N1 k3) (.slice b3 M1 l3) N1 M1 E U ∧ Chain W w') := fun W h => cd W c q l (hc.below h) (hq.below h) (hl.below h) (Utf8Tabs_below hT h)
  have CS : Hid (∀ W c3 q3 c4 q4 N M (E : Nat → ByteArray) U, CopyIs W c3 q3 N M E U → CopyIs W c4 q4 N M E U → Calls Tryd.prog 7 #[.agg #[c3, q3], .agg #[c4, q4]] W fun e w' => e = .returned (.bool true) ∧ Chain W w') := fun W c3 q3 c4 q4 N M E U h1 h2 => sameRel_is c3 q3 c4 q4 N M E U W h1.1 h1.2 h2.1 h2.2
  have HO : Hid (∀ W, Below w.heap.size w W → StrsIs W l ko O) := fun W h => hl.below h
  have HKO : Hid (ko * 16 ≤ 140737488351232) := hfl.1
  have HCQ : Hid (∀ W, Below w.heap.size w W → CopyIs W c q n m C R) := fun W h => ⟨hc.below h, hq.below h⟩
  obtain ⟨ca, ccap, rfl, _⟩ := hc
  obtain ⟨qa, qcap, rfl, _⟩ := hq
  obtain ⟨la, lcap, rfl, _⟩ := hl
  clear hT hf hg hfl hko cp cd hnm
  go_enter Tryd.func3, Tryd.ntmps3
  go_upto_region 2 with (first | (go_at_call 4; refine (CR.out _).mono ?_; rintro e w1 ⟨va, vk, ua, uk, rfl, hc1, hb1⟩; have HC1 : Hid (CopyIs w1 (.slice va n vk) (.slice ua m uk) n m C R) := hc1; have HB1 : Hid (Chain (w.alloc (.cells #[.slice ca n ccap, .slice qa m qcap] 25)) w1) := hb1; obtain ⟨x0, x1, x2, x3, x4⟩ := kept_new hb1; clear hc1 hb1))
  have HS : Hid (∀ W, Chain (w1.alloc (.cells #[.slice va n vk, .slice ua m uk] 25)) W → W.cell? ⟨w.heap.size, 0, none⟩ = some (.slice ca n ccap) ∧ W.cell? ⟨w.heap.size, 1, none⟩ = some (.slice qa m qcap) ∧ W.cell? ⟨w1.heap.size, 0, none⟩ = some (.slice va n vk) ∧ W.cell? ⟨w1.heap.size, 1, none⟩ = some (.slice ua m uk) ∧ w1.heap.size < W.heap.size ∧ Below w.heap.size w W) := fun W h => by
    have h1 : Chain w1 W := ((Chain.refl _).alloc _).trans h
    obtain ⟨y0, y1, y2, _, _⟩ := kept_new h
    exact ⟨(Below.cell h1 (p := ⟨w.heap.size, 0, none⟩) x2).trans x0, (Below.cell h1 (p := ⟨w.heap.size, 1, none⟩) x2).trans x1, y0, y1, y2, Chain.trans ((Chain.refl w).alloc _) (HB1.out.trans h1)⟩
  have HB0 : Hid (Chain (w1.alloc (.cells #[.slice va n vk, .slice ua m uk] 25)) (w1.alloc (.cells #[.slice va n vk, .slice ua m uk] 25)).drew) := (Chain.refl _).drew
  have HC0 : Hid (CopyIs (w1.alloc (.cells #[.slice va n vk, .slice ua m uk] 25)) (.slice va n vk) (.slice ua m uk) n m C R) := HC1.out.alloc _
  clear x0 x1 HC1
  go_region_held3 (fun W => W.cell? ⟨w.heap.size, 0, none⟩ = some (.slice ca n ccap) ∧ W.cell? ⟨w.heap.size, 1, none⟩ = some (.slice qa m qcap) ∧ W.cell? ⟨w1.heap.size, 0, none⟩ = some (.slice va n vk) ∧ W.cell? ⟨w1.heap.size, 1, none⟩ = some (.slice ua m uk) ∧ w1.heap.size < W.heap.size ∧ Below w.heap.size w W)
    ((refine HS.out _ ?_; repeat (first | exact Hid.out (by assumption) | exact Chain.refl _ | refine Chain.alloc ?_ _ | refine Chain.setCell ?_ (by simp <;> omega) _ | refine Chain.drew ?_)))
    (first
      | (refine step_copy_strs rfl (.const (.slice none 0 0)) (.tmp 19) rfl rfl _ ko O rfl (by refine (HO.out _ (HS.out _ ?_).2.2.2.2.2); (focus (repeat (first | exact Hid.out (by assumption) | exact Chain.refl _ | refine Chain.alloc ?_ _ | refine Chain.setCell ?_ (by simp <;> omega) _ | refine Chain.drew ?_)))) HKO.out ?_; intro v3 w3 hs3 hsh3 hb3; have hn3 := Chain.trans (a := (w1.alloc (.cells #[.slice va n vk, .slice ua m uk] 25))) (by (focus (repeat (first | exact Hid.out (by assumption) | exact Chain.refl _ | refine Chain.alloc ?_ _ | refine Chain.setCell ?_ (by simp <;> omega) _ | refine Chain.drew ?_)))) hb3; obtain ⟨ga, gk, rfl⟩ := hsh3; (first | (have zz := boxed1 hb3; obtain ⟨z0, z1, z2, z3, z4⟩ := zz) | (have zz := boxed hb3; obtain ⟨z0, z1, z2, z3, z4⟩ := zz) | (have zz := carried hb3 z0 z1 z2 z3 z4; clear z0 z1 z2 z3 z4; obtain ⟨z0, z1, z2, z3, z4⟩ := zz) | skip); have HC3 : Hid (StrsIs w3 (.slice ga ko gk) ko O) := hs3.is; have HCH3 : Hid (Chain _ w3) := hb3; have HN3 : Hid (Chain (w1.alloc (.cells #[.slice va n vk, .slice ua m uk] 25)) w3) := hn3; have hs3 := (HS.out _ hn3).2.2.2.2.1; clear hb3 hn3)
      | (go_at_call 5; refine (CP.out _ _ _ _ ?_ ?_ ?_).mono ?_; (focus (refine (HS.out _ ?_).2.2.2.2.2; (focus (repeat (first | exact Hid.out (by assumption) | exact Chain.refl _ | refine Chain.alloc ?_ _ | refine Chain.setCell ?_ (by simp <;> omega) _ | refine Chain.drew ?_))))); (focus (refine HC0.out.chain ?_; (focus (repeat (first | exact Hid.out (by assumption) | exact Chain.refl _ | refine Chain.alloc ?_ _ | refine Chain.setCell ?_ (by simp <;> omega) _ | refine Chain.drew ?_))))); (focus (repeat (first | exact HC3.out | refine strs_chain ?_ ((Chain.refl _).alloc _)))); rintro e w4 ⟨a3, k3, b3, l3, rfl, hf4, hb4⟩; have hn4 := Chain.trans (a := (w1.alloc (.cells #[.slice va n vk, .slice ua m uk] 25))) (by (focus (repeat (first | exact Hid.out (by assumption) | exact Chain.refl _ | refine Chain.alloc ?_ _ | refine Chain.setCell ?_ (by simp <;> omega) _ | refine Chain.drew ?_)))) hb4; (first | (have zz := boxed1 hb4; obtain ⟨z0, z1, z2, z3, z4⟩ := zz) | (have zz := boxed hb4; obtain ⟨z0, z1, z2, z3, z4⟩ := zz) | (have zu := z4; have zz := carried hb4 z0 z1 z2 z3 z4; clear z0 z1 z2 z3 z4; obtain ⟨z0, z1, z2, z3, z4⟩ := zz) | skip); have HFR := Hid.out (p := Hid (FreshRel _ w4 _ _ _ _ _ _)) hf4; have HN4 : Hid (Chain (w1.alloc (.cells #[.slice va n vk, .slice ua m uk] 25)) w4) := hn4; have hs4 := (HS.out _ hn4).2.2.2.2.1; clear hf4 hb4 hn4))
  all_goals
    clear HC3 HCH3 HN3
    go_split_ands
    go_wp2_with (first
      | (go_at_call 6; refine (CD.out _ ?_).mono ?_; (focus (refine (HS.out _ ?_).2.2.2.2.2; (focus (repeat (first | exact Hid.out (by assumption) | exact Chain.refl _ | refine Chain.alloc ?_ _ | refine Chain.setCell ?_ (by simp <;> omega) _ | refine Chain.drew ?_))))); rintro e w5 ⟨a4, k4, b4, l4, rfl, hc5, hb5⟩; have hn5 := Chain.trans (a := (w1.alloc (.cells #[.slice va n vk, .slice ua m uk] 25))) (by (focus (repeat (first | exact Hid.out (by assumption) | exact Chain.refl _ | refine Chain.alloc ?_ _ | refine Chain.setCell ?_ (by simp <;> omega) _ | refine Chain.drew ?_)))) hb5; have HC5 : Hid (CopyIs w5 (.slice a3 N1 k3) (.slice b3 M1 l3) N1 M1 E U) := (by first | exact fresh_new HFR.out hb5 | exact fresh_old HFR.out (by first | exact zu | simp) hb5); obtain ⟨r0, r1, r2, r3, r4⟩ := (by first | exact kept_new hb5 | exact kept2 hb5 z0 z1 z4); have HC6 : Hid (CopyIs w5 (.slice a4 N1 k4) (.slice b4 M1 l4) N1 M1 E U) := hc5; have HN5 : Hid (Chain (w1.alloc (.cells #[.slice va n vk, .slice ua m uk] 25)) w5) := hn5; obtain ⟨i0, i1, i2, i3, i4, _⟩ := HS.out _ hn5; clear hc5 hb5 hn5)
      | (go_at_call_has 7 (Value.slice a3 N1 k3); refine (CS.out _ _ _ _ _ _ _ _ _ (HC5.out.chain ((Chain.refl _).alloc _)) (HC6.out.chain ((Chain.refl _).alloc _))).mono ?_; rintro e w6 ⟨rfl, hb6⟩; have hn6 := (HN5.out.alloc _).trans hb6; have HN6 : Hid (Chain (w1.alloc (.cells #[.slice va n vk, .slice ua m uk] 25)) w6) := hn6; obtain ⟨j0, j1, j2, j3, j4, _⟩ := HS.out _ hn6; clear hb6 hn6)
      | (go_at_call_has 7 (Value.slice ca n ccap); refine (CS.out _ _ _ _ _ _ _ _ _ (HC0.out.chain HN6.out) (HCQ.out _ (HS.out _ HN6.out).2.2.2.2.2)).mono ?_; rintro e w7 ⟨rfl, hb7⟩))
    go_ret
    exact ⟨ret_bool (by simp), (HS.out _ (HN6.out.trans hb7)).2.2.2.2.2⟩
end Go.Proofs.YtlblomlblibbdaaDoor
