/-
  PACKAGE rel AT RELATIONS WITHOUT ROWS: what it tells of columns.
-/
import Derived.Test.YtkcejelmohameaaGreatDoorRcOp
import Derived.Test.YtkcejelmohameaaGreatDoorRlProjI
import Derived.Test.YtkcejelmohameaaGreatDoorRlCrossI
import Derived.Test.YtkcejelmohameaaGreatDoorRlJoinI
import Derived.Test.YtkcejelmohameaaGreatDoorRlCrossI
import Derived.Test.YtkcejelmohameaaGreatDoorRlUnion
import Derived.Test.YtkcejelmohameaaGreatDoorRlExcI
import Derived.Test.YtkcejelmohameaaGreatDoorRlUniqI
import Derived.Test.YtkcejelmohameaaGreatDoorRlSortI
import Derived.Test.YtkcejelmohameaaGreatDoorRkMade
import Derived.Test.YtkcejelmohameaaGreatDoorWkStep
import Derived.Test.YtkcejelmohameaaGreatDoorGrI
set_option linter.unusedVariables false
namespace Go.Proofs.YtkcejelmohameaaGreatDoor
set_option maxRecDepth 100000
open Go.RowKit Go.WideShapes

theorem okN0 (F : Int) : okN F 0 = 0 := by unfold okN; split <;> rfl
theorem outT_fresh {F : Int} {T : Txts} {w w' : World} {c q : Value} {M : Nat} {R : Nat → Row} {e : Ending} (he : e = .returned (.tuple #[.agg #[c, q], .int .i64 F])) (h : FreshRel w w' c q (okN F T.len) (okN F M) T.at_ R) (hM : M = 0) (hb : Below w.heap.size w w') : OutT F T w e w' := by
  subst hM
  rw [okN0] at h
  have hfar := Far.fresh h
  obtain ⟨s1, s2⟩ := h w' (Nat.le_refl _) (fun _ _ _ => rfl)
  have hr := row0_of s2
  obtain ⟨a, cap, rfl, _⟩ := s1
  have hr2 := hr
  obtain ⟨qa, qc, rfl, _⟩ := hr2
  exact ⟨a, cap, qa, qc, he, hfar, hr, hb⟩
theorem outT_zero {T : Txts} {w w' : World} {c q : Value} {R : Nat → Row} {n : Nat} {C : Nat → ByteArray} {e : Ending} (he : e = .returned (.tuple #[.agg #[c, q], .int .i64 0])) (h : FreshRel w w' c q n 0 C R) (hn : T.len = n) (hC : T.at_ = C) (hb : Below w.heap.size w w') : OutT 0 T w e w' := by
  subst hn hC
  exact outT_fresh (M := 0) he (by rw [show okN 0 T.len = T.len from rfl, okN0]; exact h) rfl hb
theorem colI_neg {C : Nat → ByteArray} {n : Nat} {s : ByteArray} : colI C n s = -1 ↔ ¬ 0 ≤ colI C n s := by
  rcases colI_cases C n s with h | ⟨k, _, h⟩ <;> omega
theorem cnB_iff {a : Txts} {s : ByteArray} : cnB a s = true ↔ ¬ colI a.at_ a.len s = -1 := by
  unfold cnB
  rw [decide_eq_true_iff, colI_neg]
  omega
theorem cnB_no {a : Txts} {s : ByteArray} (h : colI a.at_ a.len s = -1) : cnB a s = false := by
  cases e : cnB a s with
  | false => rfl
  | true => exact absurd h (cnB_iff.1 e)
theorem cnB_yes {a : Txts} {s : ByteArray} (h : ¬ colI a.at_ a.len s = -1) : cnB a s = true := cnB_iff.2 h
theorem two00 {a b : Txts} (ha : colsF a.at_ a.len = 0) (hb : colsF b.at_ b.len = 0) : twoF (relF a.at_ a.len rNo 0) (relF b.at_ b.len rNo 0) = 0 := by rw [relF0, relF0, ha, hb]; rfl
theorem pairN0 (f : Nat → Nat) : pairN f 0 = 0 := rfl
theorem rc_project (a : Txts) (c q : Value) (w : World) (hc : StrsIs w c a.len a.at_) (hq : Row0 q) (ha : colsF a.at_ a.len = 0) (hfa : StrsFine a.len a.at_) (hT : Tabs w) (d : Value) (Ld : Txts) (hd : StrsIs w d Ld.len Ld.at_) (hfd : StrsFine Ld.len Ld.at_) (l : Value) (Ll : Txts) (hl : StrsIs w l Ll.len Ll.at_) (hfl : StrsFine Ll.len Ll.at_) :
    Calls Tryz.prog 99 #[.agg #[c, q], d, l] w fun e w' => OutT (if (decide (Ld.len = Ll.len) && allT a Ll) = true then colsF Ld.at_ Ld.len else 9) (Ld) w e w' := by
  have h := project_is c q d l a.len 0 Ld.len Ll.len a.at_ Ld.at_ Ll.at_ rNo w hc (hq.is w rNo) hfa (rows0_fine _) hd hfd hl hfl hT
  have hF : prF a.at_ a.len rNo 0 Ld.at_ Ld.len Ll.at_ Ll.len = (if (decide (Ld.len = Ll.len) && allT a Ll) = true then colsF Ld.at_ Ld.len else 9) := by
    unfold prF allT
    rw [relF0, ha, if_pos rfl, made0]
    simp only [Bool.and_eq_true, decide_eq_true_eq]
  rw [hF] at h
  exact h.mono fun e w' ⟨c1, q1, h1, h2, h3⟩ => outT_fresh h1 h2 (rfl) h3
theorem rc_select (a : Txts) (c q : Value) (w : World) (hc : StrsIs w c a.len a.at_) (hq : Row0 q) (ha : colsF a.at_ a.len = 0) (hfa : StrsFine a.len a.at_) (hT : Tabs w) (s : ByteArray) :
    Calls Tryz.prog 100 #[.agg #[c, q], .string s] w fun e w' => OutT (if cnB a s = true then colsF a.at_ a.len else 9) (a) w e w' := by
  have h := select_is c q a.len 0 a.at_ rNo s w hc (hq.is w rNo) hfa (rows0_fine _) hT
  have hF : selF a.at_ a.len rNo 0 s = (if cnB a s = true then colsF a.at_ a.len else 9) := by
    unfold selF
    rw [relF0, ha, if_pos rfl]
    by_cases e : colI a.at_ a.len s = -1
    · rw [if_pos e, if_neg (by rw [cnB_no e]; decide)]
    · rw [if_neg e, if_pos (cnB_yes e)]; rfl
  rw [hF] at h
  exact h.mono fun e w' ⟨c1, q1, h1, h2, h3⟩ => outT_fresh h1 h2 (rfl) h3
theorem rc_join (a : Txts) (c q : Value) (w : World) (hc : StrsIs w c a.len a.at_) (hq : Row0 q) (ha : colsF a.at_ a.len = 0) (hfa : StrsFine a.len a.at_) (hT : Tabs w) (b : Txts) (c' q' : Value) (hc' : StrsIs w c' b.len b.at_) (hq' : Row0 q') (hb : colsF b.at_ b.len = 0) (hfb : StrsFine b.len b.at_) (x y : ByteArray) :
    Calls Tryz.prog 101 #[.agg #[c, q], .agg #[c', q'], .string x, .string y] w fun e w' => OutT (if (cnB a x && cnB b y) = true then colsF (appS a b).at_ (appS a b).len else 9) (appS a b) w e w' := by
  have h := join_is c q c' q' a.len 0 b.len 0 a.at_ b.at_ rNo rNo x y w hc (hq.is w rNo) hfa (rows0_fine _) hc' (hq'.is w rNo) hfb (rows0_fine _) hT
  have hF : joF a.at_ a.len rNo 0 b.at_ b.len rNo 0 x y = (if (cnB a x && cnB b y) = true then colsF (appS a b).at_ (appS a b).len else 9) := by
    unfold joF
    rw [two00 ha hb, if_pos rfl, pairN0, made0]
    by_cases e : colI a.at_ a.len x = -1
    · rw [if_pos (.inl e), if_neg (by rw [cnB_no e]; simp)]
    · by_cases e2 : colI b.at_ b.len y = -1
      · rw [if_pos (.inr e2), if_neg (by rw [cnB_no e2]; simp)]
      · rw [if_neg (by omega), if_pos (by rw [cnB_yes e, cnB_yes e2]; rfl)]; rfl
  rw [hF] at h
  exact h.mono fun e w' ⟨c1, q1, h1, h2, h3⟩ => outT_fresh h1 h2 (rfl) h3
theorem rc_cross (a : Txts) (c q : Value) (w : World) (hc : StrsIs w c a.len a.at_) (hq : Row0 q) (ha : colsF a.at_ a.len = 0) (hfa : StrsFine a.len a.at_) (hT : Tabs w) (b : Txts) (c' q' : Value) (hc' : StrsIs w c' b.len b.at_) (hq' : Row0 q') (hb : colsF b.at_ b.len = 0) (hfb : StrsFine b.len b.at_) :
    Calls Tryz.prog 102 #[.agg #[c, q], .agg #[c', q']] w fun e w' => OutT (colsF (appS a b).at_ (appS a b).len) (appS a b) w e w' := by
  have h := cross_is c q c' q' a.len 0 b.len 0 a.at_ b.at_ rNo rNo w hc (hq.is w rNo) hfa (rows0_fine _) hc' (hq'.is w rNo) hfb (rows0_fine _) hT
  have hF : crF a.at_ a.len rNo 0 b.at_ b.len rNo 0 = colsF (appS a b).at_ (appS a b).len := by
    unfold crF
    rw [two00 ha hb, if_pos rfl, pairN0, made0]; rfl
  rw [hF] at h
  exact h.mono fun e w' ⟨c1, q1, h1, h2, h3⟩ => outT_fresh h1 h2 (rfl) h3
theorem rc_union (a : Txts) (c q : Value) (w : World) (hc : StrsIs w c a.len a.at_) (hq : Row0 q) (ha : colsF a.at_ a.len = 0) (hfa : StrsFine a.len a.at_) (hT : Tabs w) (b : Txts) (c' q' : Value) (hc' : StrsIs w c' b.len b.at_) (hq' : Row0 q') (hb : colsF b.at_ b.len = 0) (hfb : StrsFine b.len b.at_) :
    Calls Tryz.prog 103 #[.agg #[c, q], .agg #[c', q']] w fun e w' => OutT (if colsB a.at_ b.at_ a.len b.len = true then colsF a.at_ a.len else 9) (a) w e w' := by
  have h := union_is c q c' q' a.len 0 b.len 0 a.at_ b.at_ rNo rNo w hc (hq.is w rNo) hfa (rows0_fine _) hc' (hq'.is w rNo) hfb (rows0_fine _) hT
  have hF : unF a.at_ a.len rNo 0 b.at_ b.len rNo 0 = (if colsB a.at_ b.at_ a.len b.len = true then colsF a.at_ a.len else 9) := by
    unfold unF
    rw [two00 ha hb, if_pos rfl, Nat.add_zero, made0]
  rw [hF] at h
  exact h.mono fun e w' ⟨c1, q1, h1, h2, h3⟩ => outT_fresh h1 h2 (rfl) h3
theorem rc_except (a : Txts) (c q : Value) (w : World) (hc : StrsIs w c a.len a.at_) (hq : Row0 q) (ha : colsF a.at_ a.len = 0) (hfa : StrsFine a.len a.at_) (hT : Tabs w) (b : Txts) (c' q' : Value) (hc' : StrsIs w c' b.len b.at_) (hq' : Row0 q') (hb : colsF b.at_ b.len = 0) (hfb : StrsFine b.len b.at_) (l : Value) (Ll : Txts) (hl : StrsIs w l Ll.len Ll.at_) (hfl : StrsFine Ll.len Ll.at_) :
    Calls Tryz.prog 104 #[.agg #[c, q], .agg #[c', q'], l] w fun e w' => OutT (if (allT a Ll && allT b Ll) = true then colsF a.at_ a.len else 9) (a) w e w' := by
  have h := except_is c q c' q' l a.len 0 b.len 0 Ll.len a.at_ b.at_ Ll.at_ rNo rNo w hc (hq.is w rNo) hfa (rows0_fine _) hc' (hq'.is w rNo) hfb (rows0_fine _) hl hfl hT
  have hF : excF a.at_ a.len rNo 0 b.at_ b.len rNo 0 Ll.at_ Ll.len = (if (allT a Ll && allT b Ll) = true then colsF a.at_ a.len else 9) := by
    unfold excF allT
    rw [two00 ha hb, if_pos rfl, ha]
    simp only [Bool.and_eq_true]
  rw [hF] at h
  exact h.mono fun e w' ⟨c1, q1, h1, h2, h3⟩ => outT_fresh h1 h2 (rfl) h3
theorem rc_unique (a : Txts) (c q : Value) (w : World) (hc : StrsIs w c a.len a.at_) (hq : Row0 q) (ha : colsF a.at_ a.len = 0) (hfa : StrsFine a.len a.at_) (hT : Tabs w) (l : Value) (Ll : Txts) (hl : StrsIs w l Ll.len Ll.at_) (hfl : StrsFine Ll.len Ll.at_) :
    Calls Tryz.prog 105 #[.agg #[c, q], l] w fun e w' => OutT (if allT a Ll = true then colsF a.at_ a.len else 9) (a) w e w' := by
  have h := unique_is c q l a.len 0 Ll.len a.at_ Ll.at_ rNo w hc (hq.is w rNo) hfa (rows0_fine _) hl hfl hT
  have hF : uniF a.at_ a.len rNo 0 Ll.at_ Ll.len = (if allT a Ll = true then colsF a.at_ a.len else 9) := by
    unfold uniF allT
    rw [relF0, ha, if_pos rfl]
  rw [hF] at h
  exact h.mono fun e w' ⟨c1, q1, h1, h2, h3⟩ => outT_fresh h1 h2 (rfl) h3
theorem rc_sort (a : Txts) (c q : Value) (w : World) (hc : StrsIs w c a.len a.at_) (hq : Row0 q) (ha : colsF a.at_ a.len = 0) (hfa : StrsFine a.len a.at_) (hT : Tabs w) (l : Value) (Ll : Txts) (hl : StrsIs w l Ll.len Ll.at_) (hfl : StrsFine Ll.len Ll.at_) :
    Calls Tryz.prog 107 #[.agg #[c, q], l] w fun e w' => OutT (if allT a Ll = true then colsF a.at_ a.len else 9) (a) w e w' := by
  have h := sort_is c q l a.len 0 Ll.len a.at_ Ll.at_ rNo w hc (hq.is w rNo) hfa (rows0_fine _) hl hfl hT
  have hF : soF a.at_ a.len rNo 0 Ll.at_ Ll.len = (if allT a Ll = true then colsF a.at_ a.len else 9) := by
    unfold soF allT
    rw [relF0, ha, if_pos rfl]
  rw [hF] at h
  exact h.mono fun e w' ⟨c1, q1, h1, h2, h3⟩ => outT_fresh h1 h2 (rfl) h3
theorem sizeE {s : ByteArray} (h : s.size = 0) : s = ⟨#[]⟩ := by
  cases s with
  | mk d =>
    congr 1
    exact Array.eq_empty_of_size_eq_zero h
theorem rc_rank (a : Txts) (c q : Value) (w : World) (hc : StrsIs w c a.len a.at_) (hq : Row0 q) (ha : colsF a.at_ a.len = 0) (hfa : StrsFine a.len a.at_) (hT : Tabs w) (l : Value) (Ll : Txts) (hl : StrsIs w l Ll.len Ll.at_) (hfl : StrsFine Ll.len Ll.at_) (name part : ByteArray) (hnm : name.size ≤ maxLen) :
    Calls Tryz.prog 106 #[.agg #[c, q], .string name, l, .string part] w fun e w' => OutT (if (allT a Ll && (decide (part.size = 0) || cnB a part)) = true then colsF (appS a (onC name)).at_ (appS a (onC name)).len else 9) (appS a (onC name)) w e w' := by
  have h0 : relF a.at_ a.len rNo 0 = 0 := by rw [relF0, ha]
  have hm : madeF (colsR a.at_ a.len name).at_ (a.len + 1) 0 = colsF (appS a (onC name)).at_ (appS a (onC name)).len := by rw [made0]; rfl
  cases hfo : foundB a.at_ a.len Ll.at_ Ll.len with
  | false =>
    rw [if_neg (by unfold allT; rw [hfo]; simp)]
    exact (rank_cols c q l name part a.len 0 Ll.len a.at_ Ll.at_ rNo w hc (hq.is w rNo) hfa (rows0_fine _) hl hfl hT h0 hfo).mono fun e w' ⟨h1, h2⟩ => by rw [h1]; exact OutT.bad (by decide) h2
  | true =>
    by_cases hp : part.size = 0
    · rw [if_pos (by unfold allT; rw [hfo, decide_eq_true hp]; rfl)]
      obtain rfl := sizeE hp
      by_cases hmd : madeF (colsR a.at_ a.len name).at_ (a.len + 1) 0 = 0
      · rw [← hm, hmd]
        exact (rank_none c q l name a.len 0 Ll.len a.at_ Ll.at_ rNo w hc (hq.is w rNo) hfa (rows0_fine _) hl hfl hT h0 hfo hnm hmd).mono fun e w' ⟨c1, q1, h1, h2, h3⟩ => outT_zero h1 h2 rfl rfl h3
      · rw [← hm]
        exact (rank_none_made c q l name a.len 0 Ll.len a.at_ Ll.at_ rNo w hc (hq.is w rNo) hfa (rows0_fine _) hl hfl hT h0 hfo hnm hmd).mono fun e w' ⟨h1, h2⟩ => by rw [h1]; exact OutT.bad hmd h2
    · have hpe : part.toList.isEmpty = false := isEmpty_no hp
      rcases colI_cases a.at_ a.len part with hcol | ⟨cc, hcc, hcol⟩
      · rw [if_neg (by rw [cnB_no hcol, decide_eq_false hp]; simp)]
        exact (rank_pcol c q l name part a.len 0 Ll.len a.at_ Ll.at_ rNo w hc (hq.is w rNo) hfa (rows0_fine _) hl hfl hT h0 hfo hpe hcol).mono fun e w' ⟨h1, h2⟩ => by rw [h1]; exact OutT.bad (by decide) h2
      · rw [if_pos (by unfold allT; rw [hfo, cnB_yes (by omega)]; simp)]
        by_cases hmd : madeF (colsR a.at_ a.len name).at_ (a.len + 1) 0 = 0
        · rw [← hm, hmd]
          exact (rank_partG c q l name part hpe a.len 0 Ll.len cc a.at_ Ll.at_ rNo w hc (hq.is w rNo) hfa (rows0_fine _) hl hfl hT h0 hfo hnm hmd hcol hcc).mono fun e w' ⟨c1, q1, h1, h2, h3⟩ => outT_zero h1 h2 rfl rfl h3
        · rw [← hm]
          exact (rank_part_made c q l name part hpe a.len 0 Ll.len cc a.at_ Ll.at_ rNo w hc (hq.is w rNo) hfa (rows0_fine _) hl hfl hT h0 hfo hnm hmd hcol hcc).mono fun e w' ⟨h1, h2⟩ => by rw [h1]; exact OutT.bad hmd h2
theorem rc_group (a : Txts) (c q : Value) (w : World) (hc : StrsIs w c a.len a.at_) (hq : Row0 q) (ha : colsF a.at_ a.len = 0) (hfa : StrsFine a.len a.at_) (hT : Tabs w) (name part which col : ByteArray) (hnm : name.size ≤ maxLen) (hpm : part.size ≤ maxLen) (hG : aggB which = true) :
    Calls Tryz.prog 94 #[.agg #[c, q], .string name, .string part, .string which, .string col] w fun e w' => OutT (if (cnB a col && cnB a part) = true then colsF (pnT part name).at_ (pnT part name).len else 9) (pnT part name) w e w' := by
  have h0 : relF a.at_ a.len rNo 0 = 0 := by rw [relF0, ha]
  have hG' := aggB_iff.1 hG
  rcases colI_cases a.at_ a.len part with hP | ⟨P, hPn, hP⟩
  · rw [if_neg (by rw [cnB_no hP]; simp)]
    exact (group_part c q name part which col a.len 0 a.at_ rNo w hc (hq.is w rNo) hfa (rows0_fine _) hT h0 hG' hP).mono fun e w' ⟨h1, h2⟩ => by rw [h1]; exact OutT.bad (by decide) h2
  · rcases colI_cases a.at_ a.len col with hQ | ⟨Q, hQn, hQ⟩
    · rw [if_neg (by rw [cnB_no hQ]; simp)]
      exact (group_col c q name part which col a.len 0 P a.at_ rNo w hc (hq.is w rNo) hfa (rows0_fine _) hT h0 hG' hP hQ).mono fun e w' ⟨h1, h2⟩ => by rw [h1]; exact OutT.bad (by decide) h2
    · rw [if_pos (by rw [cnB_yes (by omega), cnB_yes (by omega)]; rfl)]
      have h := group_yes c q name part which col (decide (which = tCount)) a.len 0 P Q a.at_ rNo w hc (hq.is w rNo) hfa (rows0_fine _) hT h0 hG' decide_eq_true_iff hP hQ hPn hQn hpm hnm
      have hF : grF (decide (which = tCount)) (kndG rNo Q) (numG (decide (which = tCount)) rNo Q) (opG which) (prtG rNo P) 0 part name = colsF (pnT part name).at_ (pnT part name).len := by
        unfold grF
        rw [if_neg (by simp), show prtN (prtG rNo P) 0 = 0 from rfl, made0]
        rfl
      rw [hF] at h
      exact h.mono fun e w' ⟨c1, q1, h1, h2, h3⟩ => outT_fresh (T := pnT part name) h1 h2 rfl h3
end Go.Proofs.YtkcejelmohameaaGreatDoor
