/-
  A TEXT OF THE POET's IS CUT WHOLE, PLAINLY, where nothing follows.
-/
import Derived.Test.YtbpggpnmbfjadaaDoorPoOk
import Derived.Test.YtbpggpnmbfjadaaDoorPoBack
set_option linter.unusedVariables false
namespace Go.Proofs.YtbpggpnmbfjadaaDoor
set_option maxRecDepth 100000
open Go.RowKit

theorem wl_on : ∀ (Y : List UInt8) (f : Bool), wl (Y ++ [32]) f = wl Y f
  | [], f => by
    show (if wb ((32 : UInt8).toNat : Int) f = true then _ else 0) = 0
    rw [if_neg (by cases f <;> decide)]
  | c :: r, f => by
    rw [List.cons_append, wl, wl, wl_on r false]
theorem dl_on : ∀ Y : List UInt8, dl (Y ++ [32]) = dl Y
  | [] => by
    show (if dgt ((32 : UInt8).toNat : Int) = true then _ else 0) = 0
    rw [if_neg (by decide)]
  | c :: r => by
    rw [List.cons_append, dl, dl, dl_on r]
theorem ql_on : ∀ Y : List UInt8, ql (Y ++ [32]) < (Y ++ [32]).length → ql (Y ++ [32]) = ql Y ∧ ql Y < Y.length
  | [], h => by simp [ql] at h
  | c :: r, h => by
    rw [List.cons_append, ql] at h ⊢
    rw [ql]
    by_cases hc : c = 34
    · rw [if_pos hc, if_pos hc]; exact ⟨rfl, by simp⟩
    · rw [if_neg hc] at h
      rw [if_neg hc, if_neg hc]
      obtain ⟨h1, h2⟩ := ql_on r (by simpa using h)
      exact ⟨by rw [h1], by simpa using h2⟩
theorem mark_noblank : ∀ m ∈ marksL, (32 : UInt8) ∉ m := by decide
theorem prefix_on (m Y : List UInt8) (hm : (32 : UInt8) ∉ m) : m.isPrefixOf (Y ++ [32]) = m.isPrefixOf Y := by
  rw [Bool.eq_iff_iff, List.isPrefixOf_iff_prefix, List.isPrefixOf_iff_prefix]
  constructor
  · intro h
    rcases List.prefix_concat_iff.1 h with h | h
    · rw [h] at hm; exact absurd (by simp) hm
    · exact h
  · intro h; exact h.trans (List.prefix_append _ _)
theorem find_on : ∀ (M : List (List UInt8)) (Y : List UInt8), (∀ m ∈ M, (32 : UInt8) ∉ m) → (M.find? fun m => m.isPrefixOf (Y ++ [32])) = M.find? fun m => m.isPrefixOf Y
  | [], _, _ => rfl
  | m :: M, Y, h => by
    rw [List.find?_cons, List.find?_cons, prefix_on m Y (h m (by simp)), find_on M Y fun k hk => h k (by simp [hk])]
theorem fm_on (Y : List UInt8) : fm (Y ++ [32]) = fm Y := by
  unfold fm
  rw [find_on _ _ mark_noblank]
theorem tk_on {Y : List UInt8} (hY : 0 < Y.length) (h : (tk (Y ++ [32])).1 = 0) : tk Y = tk (Y ++ [32]) := by
  have h0 : bAt (Y ++ [32]) 0 = bAt Y 0 := bAt_app _ _ 0 hY
  have hd : (Y ++ [32]).drop 1 = Y.drop 1 ++ [32] := by rw [List.drop_append_of_le_length (by omega)]
  unfold tk at h ⊢
  rw [h0, hd, wl_on, wl_on, dl_on, fm_on, numV_app _ _ _ (dl_le Y), List.take_append_of_le_length (wl_le _ _), List.take_append_of_le_length (wl_le _ _)] at h ⊢
  by_cases c1 : lett (bAt Y 0) = true
  · rw [if_pos c1, if_pos c1]
  rw [if_neg c1, if_neg c1]
  rw [if_neg c1] at h
  by_cases c2 : bAt Y 0 = 36
  · rw [if_pos c2, if_pos c2]
  rw [if_neg c2, if_neg c2]
  rw [if_neg c2] at h
  by_cases c3 : dgt (bAt Y 0) = true
  · rw [if_pos c3, if_pos c3]
  rw [if_neg c3, if_neg c3]
  rw [if_neg c3] at h
  by_cases c4 : bAt Y 0 = 34
  · rw [if_pos c4, if_pos c4]
    rw [if_pos c4] at h
    by_cases c5 : ql (Y.drop 1 ++ [32]) < (Y.drop 1 ++ [32]).length
    · obtain ⟨q1, q2⟩ := ql_on _ c5
      rw [if_pos c5, if_pos q2, q1, List.take_append_of_le_length (ql_le _)]
    · rw [if_neg c5] at h; cases h
  rw [if_neg c4, if_neg c4]
theorem cut_on (X : List UInt8) : ∀ f a n, a ≤ X.length → X.length + 1 ≤ a + f → (cutGo (X ++ [32]) f a n).2.2 = 0 → cutGo X f a n = cutGo (X ++ [32]) f a n
  | 0, a, n, ha, hf, _ => by omega
  | f + 1, a, n, ha, hf, h => by
    have hl : (X ++ [32]).length = X.length + 1 := by simp
    rw [cutGo] at h
    rw [cutGo, cutGo]
    have hng : ¬ (X ++ [32]).length ≤ a := by omega
    rw [if_neg hng] at h
    rw [if_neg hng]
    by_cases h1 : X.length ≤ a
    · have e : a = X.length := by omega
      subst e
      have hb : bk (bAt (X ++ [32]) X.length) = true := by rw [bAt_app_at]; decide
      rw [if_pos h1, if_pos hb]
      cases f with
      | zero => rfl
      | succ f => rw [cutGo, if_pos (by omega)]
    · have h0 : bAt (X ++ [32]) a = bAt X a := bAt_app _ _ a (by omega)
      have hd : (X ++ [32]).drop a = X.drop a ++ [32] := by rw [List.drop_append_of_le_length (by omega)]
      rw [h0, hd] at h ⊢
      rw [if_neg h1]
      by_cases h2 : bk (bAt X a) = true
      · rw [if_pos h2] at h
        rw [if_pos h2, if_pos h2]
        exact cut_on X f (a + 1) n (by omega) (by omega) h
      rw [if_neg h2] at h
      rw [if_neg h2, if_neg h2]
      by_cases h3 : 200 ≤ n
      · rw [if_pos h3, if_pos h3]
      rw [if_neg h3] at h
      rw [if_neg h3, if_neg h3]
      by_cases h4 : (tk (X.drop a ++ [32])).1 = 0
      · have ht := tk_on (Y := X.drop a) (by rw [List.length_drop]; omega) h4
        rw [← ht] at h h4 ⊢
        rw [if_pos h4] at h
        rw [if_pos h4, if_pos h4]
        have hz := tk_size (l := X.drop a) (by rw [List.length_drop]; omega) h4
        rw [List.length_drop] at hz
        rw [cut_on X f (a + (tk (X.drop a)).2.2) (n + 1) (by omega) (by omega) h]
      · rw [if_neg h4] at h
        exact absurd h h4
/-- a text that is cut whole if a blank follows is cut whole -/
theorem mid_end {X : List UInt8} (h : Mid X) (hl : X.length ≤ 190) (h0 : 0 < X.length) (hb : bk (bAt X 0) = false) : cutE X = 0 ∧ 0 < (cutT X).length := by
  obtain ⟨L, h1, h2⟩ := h 32 [] (.inl rfl) (X ++ [32]) [] 0 (CutTo.zero _) rfl (by simp; omega)
  have hlen : (X ++ [32]).length = X.length + 1 := by simp
  rw [Nat.zero_add] at h1
  have h3 := h1.blanks (k := 1) (by
    rw [List.drop_left]
    show 1 ≤ bl [32]
    decide)
  obtain ⟨k1, k2, k3⟩ := h3.done (by omega) (by omega)
  have hE : (cutAt (X ++ [32]) 0 0).2.2 = 0 := by
    unfold cutE at k3
    rw [if_neg (by omega)] at k3
    exact k3
  unfold cutAt at hE
  rw [hlen, Nat.sub_zero] at hE
  have e := cut_on X (X.length + 1) 0 0 (by omega) (by omega) hE
  have e2 : cutAt X 0 0 = cutGo X (X.length + 1) 0 0 := cutGo_stable X _ _ 0 0 (by omega) (by omega)
  have hE2 : (cutAt X 0 0).2.2 = 0 := by rw [e2, e]; exact hE
  refine ⟨by unfold cutE; rw [if_neg (by omega)]; exact hE2, ?_⟩
  unfold cutT
  rw [if_neg (by omega), if_pos hE2]
  by_cases ht : (tk (X.drop 0)).1 = 0
  · rw [cutAt_tok h0 hb (by omega) ht]
    simp
  · rw [cutAt_err h0 hb (by omega) ht] at hE2
    exact absurd hE2 ht
end Go.Proofs.YtbpggpnmbfjadaaDoor
