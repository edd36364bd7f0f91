/-
  CONTRACT of the law RelGroups: both answers are the same.
-/
import Derived.Test.YtjgihlmefaakkaaDoorGdOf
import Derived.Test.YtjgihlmefaakkaaDoorGdBad
import Derived.Test.YtjgihlmefaakkaaDoorGrBad
import Derived.Test.YtjgihlmefaakkaaDoorRlChain
import Derived.Test.YtjgihlmefaakkaaDoorRlRels
import Derived.Carry
set_option linter.unusedVariables false
namespace Go.Proofs.YtjgihlmefaakkaaDoor
set_option maxRecDepth 100000
open Go.RowKit Go.WideShapes

theorem trodAll_five {H : Type} {enc : TypeId × Value → H} {P : Program} {w : World} {base : Nat} {spare : Nat → Bool} {held : Bool} {t0 t1 t2 t3 t4 : TypeId} {args : Array Value} {ds : List (DataW H)} {ps : List MemPlace} (h : DataW.TrodAll enc P w base spare held [t0, t1, t2, t3, t4] args.toList ds ps) :
    ∃ v0 v1 v2 v3 v4 d0 d1 d2 d3 d4 p0 p1 p2 p3 p4, args = #[v0, v1, v2, v3, v4] ∧ ds = [d0, d1, d2, d3, d4] ∧ ps = p0 ++ p1 ++ p2 ++ p3 ++ p4 ∧ DataW.Trod enc P w base spare held t0 v0 d0 p0 ∧ DataW.Trod enc P w base spare held t1 v1 d1 p1 ∧ DataW.Trod enc P w base spare held t2 v2 d2 p2 ∧ DataW.Trod enc P w base spare held t3 v3 d3 p3 ∧ DataW.Trod enc P w base spare held t4 v4 d4 p4 := by
  obtain ⟨v0, vs0, d0, ds0, p0, q0, hargs, rfl, rfl, hd0, hr0⟩ := Go.ChangeShapes.trodAll_cons h
  obtain ⟨v1, vs1, d1, ds1, p1, q1, rfl, rfl, rfl, hd1, hr1⟩ := Go.ChangeShapes.trodAll_cons hr0
  obtain ⟨v2, vs2, d2, ds2, p2, q2, rfl, rfl, rfl, hd2, hr2⟩ := Go.ChangeShapes.trodAll_cons hr1
  obtain ⟨v3, vs3, d3, ds3, p3, q3, rfl, rfl, rfl, hd3, hr3⟩ := Go.ChangeShapes.trodAll_cons hr2
  obtain ⟨v4, vs4, d4, ds4, p4, q4, rfl, rfl, rfl, hd4, hr4⟩ := Go.ChangeShapes.trodAll_cons hr3
  obtain ⟨rfl, rfl, rfl⟩ := Go.ChangeShapes.trodAll_nil hr4
  exact ⟨v0, v1, v2, v3, v4, d0, d1, d2, d3, d4, p0, p1, p2, p3, p4, by cases args; simp_all, rfl, by simp, hd0, hd1, hd2, hd3, hd4⟩
theorem trodAll_mk5 {H : Type} {enc : TypeId × Value → H} {P : Program} {w : World} {base : Nat} {spare : Nat → Bool} {held : Bool} {t0 t1 t2 t3 t4 : TypeId} {v0 v1 v2 v3 v4 : Value} {d0 d1 d2 d3 d4 : DataW H} {p0 p1 p2 p3 p4 : List MemPlace} (h0 : DataW.Trod enc P w base spare held t0 v0 d0 p0) (h1 : DataW.Trod enc P w base spare held t1 v1 d1 p1)
    (h2 : DataW.Trod enc P w base spare held t2 v2 d2 p2) (h3 : DataW.Trod enc P w base spare held t3 v3 d3 p3) (h4 : DataW.Trod enc P w base spare held t4 v4 d4 p4) : DataW.TrodAll enc P w base spare held [t0, t1, t2, t3, t4] [v0, v1, v2, v3, v4] [d0, d1, d2, d3, d4] (p0 ++ (p1 ++ (p2 ++ (p3 ++ p4)))) := ⟨p0, p1 ++ (p2 ++ (p3 ++ p4)), h0, trodAll_mk4 h1 h2 h3 h4, rfl⟩
/-- both answers, in one -/
theorem both_groups (n m : Nat) (C : Nat → ByteArray) (R : Nat → Row) (name part which col : ByteArray) (hf : StrsFine n C) (hg : RowsFine m R) (hpm : part.size ≤ maxLen) (hnm : name.size ≤ maxLen) :
    ∃ (F : Int) (N1 M1 : Nat) (E : Nat → ByteArray) (U : Nat → Row),
      (∀ W c q, StrsIs W c n C → RowsIs W q m R → Tabs W → Calls Tryd.prog 4 #[.agg #[c, q], .string name, .string part, .string which, .string col] W fun e w' => ∃ a3 k3 b3 l3, e = .returned (.tuple #[.agg #[.slice a3 N1 k3, .slice b3 M1 l3], .int .i64 F]) ∧ FreshRel W w' (.slice a3 N1 k3) (.slice b3 M1 l3) N1 M1 E U ∧ Chain W w') ∧
      (∀ W c q, StrsIs W c n C → RowsIs W q m R → Tabs W → Calls Tryd.prog 6 #[.agg #[c, q], .string name, .string part, .string which, .string col] W fun e w' => ∃ a3 k3 b3 l3, e = .returned (.tuple #[.agg #[.slice a3 N1 k3, .slice b3 M1 l3], .int .i64 F]) ∧ CopyIs w' (.slice a3 N1 k3) (.slice b3 M1 l3) N1 M1 E U ∧ Chain W w') := by
  have nilF : ∀ (F : Int) (E : Nat → ByteArray) (U : Nat → Row) (W w' : World) (e : Ending), (e = .returned (.tuple #[.agg #[.slice none 0 0, .slice none 0 0], .int .i64 F]) ∧ Below W.heap.size W w') → ∃ a3 k3 b3 l3, e = .returned (.tuple #[.agg #[.slice a3 0 k3, .slice b3 0 l3], .int .i64 F]) ∧ FreshRel W w' (.slice a3 0 k3) (.slice b3 0 l3) 0 0 E U ∧ Chain W w' := fun F E U W w' e ⟨h1, h2⟩ => ⟨none, 0, none, 0, h1, FreshRel.nil _ _ _ _, h2⟩
  have nilD : ∀ (F : Int) (E : Nat → ByteArray) (U : Nat → Row) (W w' : World) (e : Ending), (e = .returned (.tuple #[.agg #[.slice none 0 0, .slice none 0 0], .int .i64 F]) ∧ Below W.heap.size W w') → ∃ a3 k3 b3 l3, e = .returned (.tuple #[.agg #[.slice a3 0 k3, .slice b3 0 l3], .int .i64 F]) ∧ CopyIs w' (.slice a3 0 k3) (.slice b3 0 l3) 0 0 E U ∧ Chain W w' := fun F E U W w' e ⟨h1, h2⟩ => ⟨none, 0, none, 0, h1, ⟨nil_strs _ _, nil_rows _ _⟩, h2⟩
  by_cases h0 : relF C n R m = 0
  · by_cases hG : isG which
    · rcases colI_cases C n part with hP | ⟨P, hPn, hP⟩
      · exact ⟨9, 0, 0, C, R, fun W c q k1 k2 k3 => (group_part c q name part which col n m C R W k1 k2 hf hg k3 h0 hG hP).mono fun e w' h => nilF _ _ _ _ _ _ h, fun W c q k1 k2 k3 => (grouped_part c q name part which col n m C R W k1 k2 hf hg k3 h0 hG hP).mono fun e w' h => nilD _ _ _ _ _ _ h⟩
      · rcases colI_cases C n col with hQ | ⟨Q, hQn, hQ⟩
        · exact ⟨9, 0, 0, C, R, fun W c q k1 k2 k3 => (group_col c q name part which col n m P C R W k1 k2 hf hg k3 h0 hG hP hQ).mono fun e w' h => nilF _ _ _ _ _ _ h, fun W c q k1 k2 k3 => (grouped_col c q name part which col n m C R W k1 k2 hf hg k3 h0 hG P hP hQ).mono fun e w' h => nilD _ _ _ _ _ _ h⟩
        · obtain ⟨cnt, hcnt⟩ : ∃ cnt : Bool, (cnt = true ↔ which = tCount) := ⟨decide (which = tCount), by simp⟩
          refine ⟨grF cnt (kndG R Q) (numG cnt R Q) (opG which) (prtG R P) m part name, okN (grF cnt (kndG R Q) (numG cnt R Q) (opG which) (prtG R P) m part name) 2, okN (grF cnt (kndG R Q) (numG cnt R Q) (opG which) (prtG R P) m part name) (prtN (prtG R P) m), grC part name, grR (numG cnt R Q) (opG which) (prtG R P) m m, fun W c q k1 k2 k3 => ?_, fun W c q k1 k2 k3 => ?_⟩
          · refine (group_yes c q name part which col cnt n m P Q C R W k1 k2 hf hg k3 h0 hG hcnt hP hQ hPn hQn hpm hnm).mono ?_
            rintro e w' ⟨c3, q3, h3, h4, h5⟩
            obtain ⟨⟨a3, k3, rfl, _⟩, ⟨b3, l3, rfl, _⟩⟩ := h4 w' (Nat.le_refl _) (fun _ _ _ => rfl)
            exact ⟨a3, k3, b3, l3, h3, h4, h5⟩
          · refine (grouped_yes c q name part which col cnt n m P Q C R W k1 k2 hf hg k3 h0 hG hcnt hP hQ hPn hQn hpm hnm).mono ?_
            rintro e w' ⟨c3, q3, h3, h4, h5, h6⟩
            have k4 := h4
            have k5 := h5
            obtain ⟨a3, k3, rfl, _⟩ := h4
            obtain ⟨b3, l3, rfl, _⟩ := h5
            exact ⟨a3, k3, b3, l3, h3, ⟨k4, k5⟩, h6⟩
    · exact ⟨6, 0, 0, C, R, fun W c q k1 k2 k3 => (group_none c q name part which col n m C R W k1 k2 hf hg k3 h0 hG).mono fun e w' h => nilF _ _ _ _ _ _ h, fun W c q k1 k2 k3 => (grouped_none c q name part which col n m C R W k1 k2 hf hg k3 h0 hG).mono fun e w' h => nilD _ _ _ _ _ _ h⟩
  · exact ⟨relF C n R m, 0, 0, C, R, fun W c q k1 k2 k3 => (group_bad c q name part which col n m C R W k1 k2 hf hg k3 h0).mono fun e w' h => nilF _ _ _ _ _ _ h, fun W c q k1 k2 k3 => (grouped_bad c q name part which col n m C R W k1 k2 hf hg k3 h0).mono fun e w' h => nilD _ _ _ _ _ _ h⟩
set_option maxHeartbeats 3200000 in
theorem lawGroups (c q : Value) (n m : Nat) (C : Nat → ByteArray) (R : Nat → Row) (name part which col : ByteArray) (w : World) (hc : StrsIs w c n C) (hq : RowsIs w q m R) (hf : StrsFine n C) (hg : RowsFine m R) (hpm : part.size ≤ maxLen) (hnm : name.size ≤ maxLen) (hT : Tabs w) :
    Calls Tryd.prog 3 #[.agg #[c, q], .string name, .string part, .string which, .string col] w fun e w' => e = .returned (.bool true) ∧ Below w.heap.size w w' := by
  have CR : Hid (∀ o, Calls Tryd.prog 5 #[.agg #[c, q]] (w.alloc o) fun e w' => ∃ a1 k1 b1 l1, e = .returned (.agg #[.slice a1 n k1, .slice b1 m l1]) ∧ CopyIs w' (.slice a1 n k1) (.slice b1 m l1) n m C R ∧ Chain (w.alloc o) w') := fun o => (rels_is c q n m C R _ (hc.below ((Below.refl _ _).alloc (Nat.le_refl _) _)) (hq.below ((Below.refl _ _).alloc (Nat.le_refl _) _)) hf hg).mono (fun e w' ⟨c1, q1, h1, h2, h3, h4⟩ => by
    have k2 := h2
    have k3 := h3
    obtain ⟨a1, k1, rfl, _⟩ := h2
    obtain ⟨b1, l1, rfl, _⟩ := h3
    exact ⟨a1, k1, b1, l1, h1, ⟨k2, k3⟩, h4⟩)
  obtain ⟨F, N1, M1, E, U, cp, cd⟩ := both_groups n m C R name part which col hf hg hpm hnm
  have CP : Hid (∀ W c1 q1, Below w.heap.size w W → CopyIs W c1 q1 n m C R → Calls Tryd.prog 4 #[.agg #[c1, q1], .string name, .string part, .string which, .string col] W fun e w' => ∃ a3 k3 b3 l3, e = .returned (.tuple #[.agg #[.slice a3 N1 k3, .slice b3 M1 l3], .int .i64 F]) ∧ FreshRel W w' (.slice a3 N1 k3) (.slice b3 M1 l3) N1 M1 E U ∧ Chain W w') := fun W c1 q1 hW h1 => cp W c1 q1 h1.1 h1.2 (Utf8Tabs_below hT hW)
  have CD : Hid (∀ W, Below w.heap.size w W → Calls Tryd.prog 6 #[.agg #[c, q], .string name, .string part, .string which, .string col] W fun e w' => ∃ a3 k3 b3 l3, e = .returned (.tuple #[.agg #[.slice a3 N1 k3, .slice b3 M1 l3], .int .i64 F]) ∧ CopyIs w' (.slice a3 N1 k3) (.slice b3 M1 l3) N1 M1 E U ∧ Chain W w') := fun W h => cd W c q (hc.below h) (hq.below h) (Utf8Tabs_below hT h)
  have CS : Hid (∀ W c3 q3 c4 q4 N M (E : Nat → ByteArray) U, CopyIs W c3 q3 N M E U → CopyIs W c4 q4 N M E U → Calls Tryd.prog 7 #[.agg #[c3, q3], .agg #[c4, q4]] W fun e w' => e = .returned (.bool true) ∧ Chain W w') := fun W c3 q3 c4 q4 N M E U h1 h2 => sameRel_is c3 q3 c4 q4 N M E U W h1.1 h1.2 h2.1 h2.2
  obtain ⟨ca, ccap, rfl, _⟩ := hc
  obtain ⟨qa, qcap, rfl, _⟩ := hq
  clear hT hf hg cp cd hpm hnm
  go_enter Tryd.func3, Tryd.ntmps3
  go_wp2_with (first
      | (go_at_call 5; refine (CR.out _).mono ?_; rintro e w1 ⟨va, vk, ua, uk, rfl, hc1, hb1⟩; have HC1 : Hid (CopyIs w1 (.slice va n vk) (.slice ua m uk) n m C R) := hc1; have HB1 : Hid (Chain (w.alloc (.cells #[.slice ca n ccap, .slice qa m qcap] 25)) w1) := hb1; obtain ⟨x0, x1, x2, x3, x4⟩ := kept_new hb1; clear hc1 hb1)
      | (go_at_call 4; refine (CP.out _ _ _ (Chain.trans ((Chain.refl w).alloc _) HB1.out) HC1.out).mono ?_; rintro e w4 ⟨a3, k3, b3, l3, rfl, hf4, hb4⟩; have HFR := Hid.out (p := Hid (FreshRel _ w4 _ _ _ _ _ _)) hf4; have HN4 : Hid (Chain (w.alloc (.cells #[.slice ca n ccap, .slice qa m qcap] 25)) w4) := HB1.out.trans hb4; clear x0 x1 x2 x3 x4; obtain ⟨x0, x1, x2, x3, x4⟩ := kept_new HN4.out; clear hf4 hb4)
      | (go_at_call 6; refine (CD.out _ (Chain.trans ((Chain.refl w).alloc _) (HN4.out.alloc _))).mono ?_; rintro e w5 ⟨a4, k4, b4, l4, rfl, hc5, hb5⟩; have HC5 : Hid (CopyIs w5 (.slice a3 N1 k3) (.slice b3 M1 l3) N1 M1 E U) := fresh_new HFR.out hb5; obtain ⟨r0, r1, r2, r3, r4⟩ := kept_new hb5; have HC6 : Hid (CopyIs w5 (.slice a4 N1 k4) (.slice b4 M1 l4) N1 M1 E U) := hc5; have HN5 : Hid (Chain (w.alloc (.cells #[.slice ca n ccap, .slice qa m qcap] 25)) w5) := (HN4.out.alloc _).trans hb5; clear hc5 hb5)
      | (go_at_call 7; refine (CS.out _ _ _ _ _ _ _ _ _ (HC5.out.chain ((Chain.refl _).alloc _)) (HC6.out.chain ((Chain.refl _).alloc _))).mono ?_; rintro e w6 ⟨rfl, hb6⟩; have HN6 : Hid (Chain (w.alloc (.cells #[.slice ca n ccap, .slice qa m qcap] 25)) w6) := (HN5.out.alloc _).trans hb6; clear hb6))
  go_ret
  exact ⟨ret_bool (by simp), Chain.trans ((Chain.refl w).alloc _) HN6.out⟩
end Go.Proofs.YtjgihlmefaakkaaDoor
