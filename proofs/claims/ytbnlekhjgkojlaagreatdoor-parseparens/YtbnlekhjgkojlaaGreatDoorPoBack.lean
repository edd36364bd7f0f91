import Derived.Test.YtbnlekhjgkojlaaGreatDoorTcPlain
import Derived.KernelRfl
set_option linter.unusedVariables false
namespace Go.Proofs.YtbnlekhjgkojlaaGreatDoor
set_option maxRecDepth 100000
open Go.RowKit
def itoaL (n : Nat) : List UInt8 := if n < 10 then [UInt8.ofNat (48 + n)] else itoaL (n / 10) ++ [UInt8.ofNat (48 + n % 10)]
termination_by n
decreasing_by omega
theorem itoaL_lt {n : Nat} (h : n < 10) : itoaL n = [UInt8.ofNat (48 + n)] := by rw [itoaL, if_pos h]
theorem itoaL_ge {n : Nat} (h : ¬ n < 10) : itoaL n = itoaL (n / 10) ++ [UInt8.ofNat (48 + n % 10)] := by rw [itoaL, if_neg h]
theorem dig_nat {d : Nat} (h : d < 10) : ((UInt8.ofNat (48 + d)).toNat : Int) = 48 + d := by
 rw [UInt8.toNat_ofNat', Nat.mod_eq_of_lt (by omega)]
 omega
theorem dl_app : ∀ (X Y : List UInt8), dl X = X.length → dl (X ++ Y) = X.length + dl Y
 | [], Y, _ => by simp
 | c :: r, Y, h => by
  unfold dl at h
  by_cases hc : dgt (c.toNat : Int) = true
  · rw [if_pos hc] at h
    rw [List.cons_append, dl, if_pos hc, dl_app r Y (by simpa using h)]
    simp; omega
  · rw [if_neg hc] at h; simp at h
theorem bAt_app (X Y : List UInt8) (k : Nat) (h : k < X.length) : bAt (X ++ Y) k = bAt X k := by
 unfold bAt; rw [List.getD_eq_getElem?_getD, List.getD_eq_getElem?_getD, List.getElem?_append_left h]
theorem bAt_app_at (X : List UInt8) (c : UInt8) (Y : List UInt8) : bAt (X ++ c :: Y) X.length = (c.toNat : Int) := by
 unfold bAt; rw [List.getD_eq_getElem?_getD, List.getElem?_append_right (Nat.le_refl _)]; simp
theorem numV_app (X Y : List UInt8) : ∀ k, k ≤ X.length → numV (X ++ Y) k = numV X k
 | 0, _ => rfl
 | k + 1, h => by rw [numV_succ, numV_succ, numV_app X Y k (by omega), bAt_app X Y k (by omega)]
theorem itoa_facts (n : Nat) : dl (itoaL n) = (itoaL n).length ∧ numV (itoaL n) (itoaL n).length = n ∧ 0 < (itoaL n).length := by
 induction n using Nat.strongRecOn with
 | ind n ih =>
  by_cases h : n < 10
  · rw [itoaL_lt h]
    have e := dig_nat h
    have hd : dgt ((UInt8.ofNat (48 + n)).toNat : Int) = true := dgt_iff.2 (by omega)
    refine ⟨by rw [dl, if_pos hd]; simp [dl], ?_, by simp⟩
    show 10 * (0 : Int) + (bAt [UInt8.ofNat (48 + n)] 0 - 48) = n
    rw [bAt_zero, e]
    omega
  · rw [itoaL_ge h]
    obtain ⟨i1, i2, i3⟩ := ih (n / 10) (by omega)
    have hm : n % 10 < 10 := Nat.mod_lt _ (by omega)
    have e := dig_nat hm
    have hd : dgt ((UInt8.ofNat (48 + n % 10)).toNat : Int) = true := dgt_iff.2 (by omega)
    refine ⟨?_, ?_, by simp⟩
    · rw [dl_app _ _ i1, dl, if_pos hd]; simp [dl]
    · rw [List.length_append, List.length_singleton, numV_succ, numV_app _ _ _ (Nat.le_refl _), i2, bAt_app_at, e]
      omega
theorem dl_blank (R : List UInt8) : dl (32 :: R) = 0 := by unfold dl; rw [if_neg (by decide)]
theorem good_num (n : Nat) (hn : (n : Int) ≤ 1099511627776) (R : List UInt8) : tk (itoaL n ++ 32 :: R) = (0, ⟨2, ⟨#[]⟩, n⟩, (itoaL n).length) := by
 obtain ⟨h1, h2, h3⟩ := itoa_facts n
 have hb : bAt (itoaL n ++ 32 :: R) 0 = bAt (itoaL n) 0 := bAt_app _ _ 0 h3
 have hd : dgt (bAt (itoaL n) 0) = true := dl_lt _ 0 (by omega)
 have hd' := dgt_iff.1 hd
 have e1 : dl (itoaL n ++ 32 :: R) = (itoaL n).length := by rw [dl_app _ _ h1, dl_blank]; rfl
 have e2 : numV (itoaL n ++ 32 :: R) (itoaL n).length = n := by rw [numV_app _ _ _ (Nat.le_refl _), h2]
 unfold tk
 rw [hb, if_neg (by unfold lett; simp; omega), if_neg (by omega), if_pos hd, e1, e2, if_pos hn]
theorem wl_blank : ∀ (X : List UInt8) (f : Bool) (R : List UInt8), wl X f = X.length → wl (X ++ 32 :: R) f = X.length
 | [], f, R, _ => by
  have : wb ((32 : UInt8).toNat : Int) f = false := by cases f <;> decide
  show (if wb ((32 : UInt8).toNat : Int) f = true then _ else 0) = 0
  rw [if_neg (by rw [this]; decide)]
 | c :: r, f, R, h => by
  unfold wl at h
  by_cases hc : wb (c.toNat : Int) f = true
  · rw [if_pos hc] at h
    rw [List.cons_append, wl, if_pos hc, wl_blank r false R (by simpa using h)]
    simp
  · rw [if_neg hc] at h; simp at h
theorem wl_first {c : UInt8} {r : List UInt8} (h : wl (c :: r) true = (c :: r).length) : lett (c.toNat : Int) = true := by
 unfold wl at h
 by_cases hc : wb (c.toNat : Int) true = true
 · simpa [wb] using hc
 · rw [if_neg hc] at h; simp at h
theorem good_word {X : List UInt8} (h1 : 1 ≤ X.length) (h2 : X.length ≤ 20) (hw : wl X true = X.length) (R : List UInt8) : tk (X ++ 32 :: R) = (0, ⟨1, bs X, 0⟩, X.length) := by
 have e := wl_blank X true R hw
 have hl : lett (bAt (X ++ 32 :: R) 0) = true := by
  cases X with
  | nil => simp at h1
  | cons c r => rw [List.cons_append, bAt_zero]; exact wl_first hw
 unfold tk
 rw [if_pos hl, e, if_pos h2, List.take_left]
theorem good_dollar {X : List UInt8} (h1 : 1 ≤ X.length) (h2 : X.length ≤ 20) (hw : wl X true = X.length) (R : List UInt8) : tk (36 :: X ++ 32 :: R) = (0, ⟨4, bs X, 0⟩, (36 :: X).length) := by
 have e := wl_blank X true R hw
 have ed : (36 :: X ++ 32 :: R : List UInt8).drop 1 = X ++ 32 :: R := rfl
 unfold tk
 rw [ed, show (36 :: X ++ 32 :: R : List UInt8) = 36 :: (X ++ 32 :: R) from rfl, bAt_zero, if_neg (by decide), if_pos (by decide), e, if_pos ⟨h1, h2⟩, List.take_left, List.length_cons, Nat.add_comm]
theorem ql_noq : ∀ (X R : List UInt8), hasQ X = false → ql (X ++ 34 :: R) = X.length
 | [], R, _ => by simp [ql]
 | c :: r, R, h => by
  unfold hasQ at h
  rw [List.contains_cons, Bool.or_eq_false_iff] at h
  have hc : ¬ c = 34 := by
   rintro rfl
   simp at h
  rw [List.cons_append, ql, if_neg hc, ql_noq r R h.2]
  simp
theorem good_quoted {X : List UInt8} (hq : hasQ X = false) (ht : textF (bs X) = 0) (R : List UInt8) : tk (34 :: X ++ [34] ++ 32 :: R) = (0, ⟨3, bs X, 0⟩, (34 :: X ++ [34]).length) := by
 have e0 : (34 :: X ++ [34] ++ 32 :: R : List UInt8) = 34 :: (X ++ 34 :: (32 :: R)) := by simp
 have e1 := ql_noq X (32 :: R) hq
 have ed : (34 :: (X ++ 34 :: (32 :: R)) : List UInt8).drop 1 = X ++ 34 :: (32 :: R) := rfl
 rw [e0]
 unfold tk
 rw [ed, e1, bAt_zero, if_neg (by decide), if_neg (by decide), if_neg (by decide), if_pos (by decide), if_pos (by simp), List.take_left, if_pos ht]
 simp
theorem good_mark (R : List UInt8) : ∀ m ∈ marksL, tk (m ++ 32 :: R) = (0, ⟨5, bs m, 0⟩, m.length) := by
 intro m hm
 unfold marksL at hm
 simp only [List.mem_cons, List.not_mem_nil, or_false] at hm
 rcases hm with rfl | rfl | rfl | rfl | rfl | rfl | rfl | rfl | rfl | rfl | rfl | rfl | rfl | rfl | rfl | rfl | rfl | rfl | rfl | rfl | rfl | rfl | rfl | rfl | rfl | rfl
 all_goals kernel_rfl
def spk (t : Tok) : List UInt8 := if t.kind = 2 then itoaL t.n.toNat else if t.kind = 3 then 34 :: t.s.data.toList ++ [34] else if t.kind = 4 then 36 :: t.s.data.toList else t.s.data.toList
theorem mark_first : ∀ m ∈ marksL, bk (bAt m 0) = false ∧ 0 < m.length := by decide
theorem good_back {t : Tok} (h : tokF t.kind t.s t.n = 0) : (∀ R, tk (spk t ++ 32 :: R) = (0, t, (spk t).length)) ∧ bk (bAt (spk t) 0) = false ∧ 0 < (spk t).length := by
 obtain ⟨k, s, n⟩ := t
 simp only at h
 unfold tokF at h
 by_cases c0 : ¬ (1 ≤ k ∧ k ≤ 5)
 · rw [if_pos c0] at h; cases h
 rw [if_neg c0] at h
 by_cases c2 : k = 2
 · subst c2
   rw [if_pos rfl] at h
   by_cases c3 : n < 0 ∨ 1099511627776 < n
   · rw [if_pos c3] at h; cases h
   rw [if_neg c3] at h
   by_cases c4 : s.size ≠ 0
   · rw [if_pos c4] at h; cases h
   have hs : s = ⟨#[]⟩ := by
    have : s.data.toList = [] := List.eq_nil_of_length_eq_zero (show s.data.toList.length = 0 by rw [Array.length_toList]; exact (by simpa using c4 : s.size = 0))
    rw [← bs_of s, this]; rfl
   have hn : (n.toNat : Int) = n := by omega
   obtain ⟨f1, f2, f3⟩ := itoa_facts n.toNat
   have hd := dgt_iff.1 (dl_lt (itoaL n.toNat) 0 (by omega))
   refine ⟨fun R => ?_, ?_, ?_⟩
   · show tk (itoaL n.toNat ++ 32 :: R) = _
     rw [good_num n.toNat (by omega) R, hn, hs]; rfl
   · show bk (bAt (itoaL n.toNat) 0) = false
     unfold bk; simp; omega
   · exact f3
 rw [if_neg c2] at h
 by_cases c5 : n ≠ 0
 · rw [if_pos c5] at h; cases h
 rw [if_neg c5] at h
 have hn : n = 0 := by simpa using c5
 subst hn
 by_cases c3 : k = 3
 · subst c3
   rw [if_pos rfl] at h
   by_cases cq : hasQ s.data.toList = true
   · rw [if_pos cq] at h; cases h
   rw [if_neg cq] at h
   have hq : hasQ s.data.toList = false := by simpa using cq
   have e : spk ⟨3, s, 0⟩ = 34 :: s.data.toList ++ [34] := rfl
   rw [e]
   refine ⟨fun R => ?_, ?_, by simp⟩
   · rw [good_quoted hq (by rw [bs_of]; exact h) R, bs_of]
   · rw [List.cons_append, bAt_zero]; decide
 rw [if_neg c3] at h
 by_cases c6 : k = 5
 · subst c6
   rw [if_pos rfl] at h
   by_cases cm : isMk s.data.toList = true
   · unfold isMk at cm
     rw [List.contains_iff_mem] at cm
     have e : spk ⟨5, s, 0⟩ = s.data.toList := rfl
     rw [e]
     exact ⟨fun R => by rw [good_mark R _ cm, bs_of], (mark_first _ cm).1, (mark_first _ cm).2⟩
   · rw [if_neg cm] at h; cases h
 rw [if_neg c6] at h
 by_cases cn : nmB s = true
 · unfold nmB at cn
   simp only [Bool.and_eq_true, decide_eq_true_eq] at cn
   obtain ⟨⟨n1, n2⟩, n3⟩ := cn
   have hl : s.data.toList.length = s.size := rfl
   rw [← hl] at n1 n2 n3
   have hk : k = 1 ∨ k = 4 := by omega
   rcases hk with rfl | rfl
   · have e : spk ⟨1, s, 0⟩ = s.data.toList := rfl
     rw [e]
     refine ⟨fun R => by rw [good_word n1 n2 n3 R, bs_of], ?_, by omega⟩
     cases hx : s.data.toList with
     | nil => rw [hx] at n1; simp at n1
     | cons c r =>
      rw [hx] at n3
      have := wl_first n3
      rw [bAt_zero]
      unfold lett at this
      unfold bk
      simp at this ⊢
      omega
   · have e : spk ⟨4, s, 0⟩ = 36 :: s.data.toList := rfl
     rw [e]
     refine ⟨fun R => by rw [good_dollar n1 n2 n3 R, bs_of], ?_, by simp⟩
     rw [bAt_zero]; decide
 · rw [if_neg cn] at h; cases h
theorem tk_good {l : List UInt8} (hl : 0 < l.length) (h : (tk l).1 = 0) : tokF (tk l).2.1.kind (tk l).2.1.s (tk l).2.1.n = 0 := by
 unfold tk at h ⊢
 by_cases c1 : lett (bAt l 0) = true
 · rw [if_pos c1] at h ⊢
   by_cases c2 : wl l true ≤ 20
   · rw [if_pos c2]
     have h1 := wl_pos c1 hl
     have h2 := wl_le l true
     have hs : (bs (l.take (wl l true))).size = wl l true := by rw [bs_size, List.length_take]; omega
     show tokF 1 (bs (l.take (wl l true))) 0 = 0
     unfold tokF
     rw [if_neg (by decide), if_neg (by decide), if_neg (by decide), if_neg (by decide), if_neg (by decide), if_pos]
     unfold nmB
     rw [hs, bs_list, wl_take]
     simp
     omega
   · rw [if_neg c2] at h; cases h
 rw [if_neg c1] at h ⊢
 by_cases c2 : bAt l 0 = 36
 · rw [if_pos c2] at h ⊢
   by_cases c3 : 1 ≤ wl (l.drop 1) true ∧ wl (l.drop 1) true ≤ 20
   · rw [if_pos c3]
     have h2 := wl_le (l.drop 1) true
     have hs : (bs ((l.drop 1).take (wl (l.drop 1) true))).size = wl (l.drop 1) true := by rw [bs_size, List.length_take]; omega
     show tokF 4 (bs ((l.drop 1).take (wl (l.drop 1) true))) 0 = 0
     unfold tokF
     rw [if_neg (by decide), if_neg (by decide), if_neg (by decide), if_neg (by decide), if_neg (by decide), if_pos]
     unfold nmB
     rw [hs, bs_list, wl_take]
     simp only [Bool.and_eq_true, decide_eq_true_eq]
     exact ⟨c3, trivial⟩
   · rw [if_neg c3] at h; cases h
 rw [if_neg c2] at h ⊢
 by_cases c3 : dgt (bAt l 0) = true
 · rw [if_pos c3] at h ⊢
   by_cases c4 : numV l (dl l) ≤ 1099511627776
   · rw [if_pos c4]
     have h1 := numV_nonneg l (dl l) (Nat.le_refl _)
     show tokF 2 ⟨#[]⟩ (numV l (dl l)) = 0
     unfold tokF
     rw [if_neg (by decide), if_pos rfl, if_neg (by omega), if_neg (by decide)]
   · rw [if_neg c4] at h; cases h
 rw [if_neg c3] at h ⊢
 by_cases c4 : bAt l 0 = 34
 · rw [if_pos c4] at h ⊢
   by_cases c5 : ql (l.drop 1) < (l.drop 1).length
   · rw [if_pos c5] at h ⊢
     by_cases c6 : textF (bs ((l.drop 1).take (ql (l.drop 1)))) = 0
     · rw [if_pos c6]
       show tokF 3 (bs ((l.drop 1).take (ql (l.drop 1)))) 0 = 0
       unfold tokF
       rw [if_neg (by decide), if_neg (by decide), if_neg (by decide), if_pos rfl, if_neg, c6]
       rw [bs_list]
       unfold hasQ
       rw [List.contains_iff_mem]
       intro hm
       obtain ⟨k, hk, hk2⟩ := List.getElem_of_mem hm
       rw [List.length_take] at hk
       have hk3 : k < ql (l.drop 1) := by omega
       refine ql_lt (l.drop 1) k hk3 ?_
       rw [bAt_lt _ _ (by omega), ← List.getElem_take (h := by rw [List.length_take]; exact hk), hk2]
       rfl
     · rw [if_neg c6] at h
       exact absurd h c6
   · rw [if_neg c5] at h; cases h
 rw [if_neg c4] at h ⊢
 by_cases c5 : fm l = []
 · rw [if_pos c5] at h; cases h
 rw [if_neg c5]
 show tokF 5 (bs (fm l)) 0 = 0
 unfold tokF
 rw [if_neg (by decide), if_neg (by decide), if_neg (by decide), if_neg (by decide), if_pos rfl, if_pos]
 rw [bs_list]
 unfold isMk
 rw [List.contains_iff_mem]
 exact (fm_mem c5).1
def spoke (L : List Tok) : List UInt8 := L.flatMap fun t => spk t ++ [32]
theorem spoke_cons (t : Tok) (L : List Tok) : spoke (t :: L) = spk t ++ 32 :: spoke L := by simp [spoke]
theorem spoke_cut {S : List UInt8} : ∀ (M L : List Tok) (a : Nat), (∀ t ∈ M, tokF t.kind t.s t.n = 0) → L.length + M.length ≤ 200 → S.drop a = spoke M → CutTo S L a → CutTo S (L ++ M) (a + (spoke M).length)
 | [], L, a, _, _, _, h => by simpa [spoke] using h
 | t :: M, L, a, hg, hn, hd, h => by
  obtain ⟨g1, g2, g3⟩ := good_back (hg t (by simp))
  rw [spoke_cons] at hd
  have ht := g1 (spoke M)
  rw [← hd] at ht
  have hlen := congrArg List.length hd
  rw [List.length_drop, List.length_append, List.length_cons] at hlen
  simp only [List.length_cons] at hn
  have hb : bk (bAt S a) = false := by
   rw [show a = a + 0 from rfl, ← bAt_drop, hd, bAt_app _ _ 0 g3]
   exact g2
  have k1 := h.tok (by omega) hb (by omega) (by rw [ht])
  rw [ht] at k1
  simp only at k1
  have hd2 : S.drop (a + (spk t).length) = 32 :: spoke M := by rw [← List.drop_drop, hd, List.drop_left]
  have k2 := k1.blanks (k := 1) (by rw [hd2]; unfold bl; rw [if_pos (by decide)]; omega)
  have hd3 : S.drop (a + (spk t).length + 1) = spoke M := by rw [← List.drop_drop, hd2]; rfl
  have k3 := spoke_cut M (L ++ [t]) _ (fun u hu => hg u (by simp [hu])) (by rw [List.length_append, List.length_singleton]; omega) hd3 k2
  rw [List.append_assoc] at k3
  rw [spoke_cons, List.length_append, List.length_cons, show a + ((spk t).length + ((spoke M).length + 1)) = a + (spk t).length + 1 + (spoke M).length by omega]
  exact k3
theorem cutGo_good (l : List UInt8) : ∀ f a n, (∀ t ∈ (cutGo l f a n).1, tokF t.kind t.s t.n = 0) ∧ (n ≤ 200 → (cutGo l f a n).1.length + n ≤ 200) ∧ ((cutGo l f a n).2.2 = 0 → (cutGo l f a n).2.1 = 0)
 | 0, a, n => ⟨by simp [cutGo], by simp [cutGo], by simp [cutGo]⟩
 | f + 1, a, n => by
  rw [cutGo]
  by_cases h1 : l.length ≤ a
  · rw [if_pos h1]; exact ⟨by simp, by simp, by simp⟩
  rw [if_neg h1]
  by_cases h2 : bk (bAt l a) = true
  · rw [if_pos h2]; exact cutGo_good l f (a + 1) n
  rw [if_neg h2]
  by_cases h3 : 200 ≤ n
  · rw [if_pos h3]; exact ⟨by simp, by simp, by simp⟩
  rw [if_neg h3]
  by_cases h4 : (tk (l.drop a)).1 = 0
  · rw [if_pos h4]
    obtain ⟨i1, i2, i3⟩ := cutGo_good l f (a + (tk (l.drop a)).2.2) (n + 1)
    refine ⟨fun t ht => ?_, fun hn => ?_, i3⟩
    · rcases List.mem_cons.1 ht with rfl | ht
      · exact tk_good (by rw [List.length_drop]; omega) h4
      · exact i1 t ht
    · have := i2 (by omega)
      simp only [List.length_cons]
      omega
  · rw [if_neg h4]; exact ⟨by simp, by simp, fun h => absurd h h4⟩
theorem cut_spoken {q : List UInt8} (hq : ¬ 1000 < q.length) (hE : cutE q = 0) : cutP q = 0 ∧ (∀ t ∈ cutT q, tokF t.kind t.s t.n = 0) ∧ (¬ 1000 < (spoke (cutT q)).length → cutT (spoke (cutT q)) = cutT q ∧ cutP (spoke (cutT q)) = 0 ∧ cutE (spoke (cutT q)) = 0) := by
 obtain ⟨g1, g2, g3⟩ := cutGo_good q (q.length - 0) 0 0
 have hT : cutT q = (cutAt q 0 0).1 := by
  unfold cutT cutE at *
  rw [if_neg hq] at hE ⊢
  rw [if_pos hE]
 refine ⟨?_, ?_, ?_⟩
 · unfold cutP cutE at *
   rw [if_neg hq] at hE ⊢
   exact g3 hE
 · rw [hT]; exact g1
 · intro hS
   rw [hT] at hS ⊢
   have k := spoke_cut (S := spoke (cutAt q 0 0).1) (cutAt q 0 0).1 [] 0 g1 (by have := g2 (by omega); simp only [List.length_nil]; exact by unfold cutAt; omega) (by rw [List.drop_zero]) (CutTo.zero _)
   rw [List.nil_append, Nat.zero_add] at k
   exact k.done hS (Nat.le_refl _)
end Go.Proofs.YtbnlekhjgkojlaaGreatDoor
