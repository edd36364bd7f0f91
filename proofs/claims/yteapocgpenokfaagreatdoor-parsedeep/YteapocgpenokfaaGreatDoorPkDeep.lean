/-
  THE LAW ParseDeep.
-/
import Derived.Test.YteapocgpenokfaaGreatDoorPaParse
import Derived.Test.YteapocgpenokfaaGreatDoorTcCut
import Derived.Test.YteapocgpenokfaaGreatDoorPkPick
import Derived.Laws.Concat
set_option linter.unusedVariables false
namespace Go.Proofs.YteapocgpenokfaaGreatDoor
set_option maxRecDepth 100000
open Go.RowKit

theorem pk_natD {n : Int} {m : Nat} (h : 0 < m) : ∃ i : Nat, pk n m = i ∧ i < m := by
  have := pk_range (n := n) (many := m) (by omega)
  exact ⟨(pk n m).toNat, by omega, by omega⟩
theorem ToksOwn.liesL {w : World} {base : Nat} {v : Value} {L : List Tok} (h : ToksOwn w base v L) (h0 : 0 < L.length) : ∃ b c, v = .slice (some ⟨b, 0, none⟩) L.length c ∧ b < w.heap.size ∧ ToksL w b L := by
  obtain ⟨b, c, rfl, h1, h2, _⟩ := h.at 0 h0
  refine ⟨b, c, rfl, h1, fun k hk => ?_⟩
  obtain ⟨b', c', he, _, _, h3⟩ := h.at k hk
  simp only [Value.slice.injEq, Option.some.injEq, Addr.mk.injEq, true_and, and_true] at he
  obtain ⟨rfl, rfl⟩ := he
  exact h3
/-- parentheses around a number, as a text -/
def deepX (k : Nat) : List UInt8 := Lib.repeatL [40] k ++ [49] ++ Lib.repeatL [41] k
theorem cut_one {S R : List UInt8} {L : List Tok} {a : Nat} {c : UInt8} {t : Tok} (h : CutTo S L a) (hd : S.drop a = c :: R) (hb : bk (c.toNat : Int) = false) (hn : L.length < 200) (ht : tk (c :: R) = (0, t, 1)) : CutTo S (L ++ [t]) (a + 1) := by
  have ha : a < S.length := by
    have := congrArg List.length hd
    rw [List.length_drop] at this
    simp at this
    omega
  have e0 : bAt S a = bAt (S.drop a) 0 := by rw [bAt_drop]; rfl
  have hb' : bk (bAt S a) = false := by rw [e0, hd, bAt_zero]; exact hb
  have k := h.tok ha hb' (by omega) (by rw [hd, ht])
  rw [hd, ht] at k
  exact k
theorem cut_rep {S : List UInt8} {c : UInt8} {t : Tok} (htk : ∀ R, tk (c :: R) = (0, t, 1)) (hb : bk (c.toNat : Int) = false) : ∀ (k : Nat) (L : List Tok) (a : Nat) (R : List UInt8), CutTo S L a → S.drop a = List.replicate k c ++ R → L.length + k ≤ 200 → CutTo S (L ++ List.replicate k t) (a + k)
  | 0, L, a, R, h, _, _ => by simpa using h
  | k + 1, L, a, R, h, hd, hn => by
    rw [List.replicate_succ, List.cons_append] at hd
    have h1 := cut_one h hd hb (by omega) (htk _)
    have hd2 : S.drop (a + 1) = List.replicate k c ++ R := by rw [← List.drop_drop, hd]; rfl
    have h2 := cut_rep htk hb k (L ++ [t]) (a + 1) R h1 hd2 (by rw [List.length_append, List.length_singleton]; omega)
    rw [List.replicate_succ, show a + (k + 1) = a + 1 + k by omega]
    rw [List.append_assoc] at h2
    exact h2
theorem rep_eq (c : UInt8) : ∀ k : Nat, Lib.repeatL [c] k = List.replicate k c := by
  intro k
  induction k with
  | zero => rfl
  | succ k ih =>
    simp only [Lib.repeatL] at ih ⊢
    simp_all [List.replicate_succ]
theorem deep_cut (k : Nat) (h1 : 1 ≤ k) (h2 : k ≤ 25) : cutT (deepX k) = deepT k ∧ cutP (deepX k) = 0 ∧ cutE (deepX k) = 0 := by
  have e : deepX k = List.replicate k 40 ++ (49 :: List.replicate k 41) := by
    unfold deepX
    rw [rep_eq, rep_eq]
    simp
  rw [e]
  have hl : (List.replicate k (40 : UInt8) ++ (49 :: List.replicate k 41)).length = 2 * k + 1 := by simp; omega
  have t1 := cut_rep (S := List.replicate k 40 ++ (49 :: List.replicate k 41)) (c := 40) (t := lpT) (fun R => by kernel_rfl) (by decide) k [] 0 (49 :: List.replicate k 41) (CutTo.zero _) rfl (by simp; omega)
  rw [List.nil_append, Nat.zero_add] at t1
  have hd : (List.replicate k (40 : UInt8) ++ (49 :: List.replicate k 41)).drop k = 49 :: List.replicate k 41 := by
    rw [List.drop_append_of_le_length (by simp)]
    simp
  obtain ⟨m, rfl⟩ : ∃ m, k = m + 1 := ⟨k - 1, by omega⟩
  have t2 := cut_one t1 hd (by decide) (by simp; omega) (t := oneT) (by rw [List.replicate_succ]; kernel_rfl)
  have hd2 : (List.replicate (m + 1) (40 : UInt8) ++ (49 :: List.replicate (m + 1) 41)).drop (m + 1 + 1) = List.replicate (m + 1) 41 ++ [] := by rw [← List.drop_drop, hd]; simp
  have t3 := cut_rep (c := 41) (t := rpT) (fun R => by kernel_rfl) (by decide) (m + 1) _ _ [] t2 hd2 (by simp; omega)
  have t4 := t3.done (by rw [hl]; omega) (by rw [hl]; omega)
  have ed : deepT (m + 1) = List.replicate (m + 1) lpT ++ [oneT] ++ List.replicate (m + 1) rpT := by
    unfold deepT
    simp
  rw [ed]
  exact t4
theorem rep_len (c : UInt8) (k : Nat) (hk : k ≤ 25) : (Lib.repeatL [c] k).length ≤ 25 := by
  rw [rep_eq]
  simpa using hk
theorem data_appD (t u : ByteArray) : (t ++ u).data.toList = t.data.toList ++ u.data.toList := by
  rw [ByteArray.data_append, Array.toList_append]
theorem repeat_is (c : UInt8) (k : Nat) (h1 : 1 ≤ k) (h2 : k ≤ 25) (w : World) : Calls Tryz.prog 6 #[.string ⟨#[c]⟩, .int .i64 k] w fun e w' => e = .returned (.string ⟨(Lib.repeatL [c] k).toArray⟩) ∧ Below w.heap.size w w' := by
  by_cases hk : k = 1
  · subst hk
    refine (Tryz.strings_Repeat_one ⟨#[c]⟩ w).mono ?_
    rintro e w' ⟨rfl, rfl⟩
    exact ⟨rfl, Below.refl _ _⟩
  · exact Tryz.strings_Repeat_main ⟨#[c]⟩ k w (by omega) (by omega) (by show 1 * k ≤ _; omega) (by show 0 < 1; omega)
set_option maxHeartbeats 3200000 in
theorem lawParseDeep (n : Int) (w : World) (hn : -9223372036854775808 ≤ n ∧ n ≤ 9223372036854775807) (hot : OpTab w) (hT : Tabs w) (hm : MaxL w) (hM : MarkTab w) (hg : 0 < w.heap.size) :
    Calls Tryz.prog 3 #[.int .i64 n] w fun e w' => e = .returned (.bool true) ∧ Below w.heap.size w w' := by
  obtain ⟨i, hi, hi25⟩ := pk_natD (n := n) (m := 25) (by omega)
  have CK : Hid (∀ W, Calls Tryz.prog 4 #[.int .i64 n, .int .i64 25] W fun e w' => e = .returned (.int .i64 i) ∧ W = w') := fun W => (picked_is n 25 W hn (by omega) (by omega)).mono fun e w' ⟨k1, k2⟩ => ⟨by rw [k1]; exact ret_int hi, k2.symm⟩
  obtain ⟨k, hk⟩ : ∃ k : Nat, k = i + 1 := ⟨_, rfl⟩
  have hk1 : 1 ≤ k := by omega
  have hk25 : k ≤ 25 := by omega
  have hwr : IntKind.i64.wrap (1 + (i : Int)) = (k : Int) := by rw [IntWalk.i64_in _ (by omega)]; omega
  have hwl : IntKind.i64.wrap ((k : Int) + 1) = (k : Int) + 1 := IntWalk.i64_in _ (by omega)
  have hwm : IntKind.i64.wrap (3 * ((k : Int) + 1)) = 3 * ((k : Int) + 1) := IntWalk.i64_in _ (by omega)
  obtain ⟨z1, hz1⟩ : ∃ z : ByteArray, z = ⟨(Lib.repeatL [40] k).toArray⟩ := ⟨_, rfl⟩
  obtain ⟨z2, hz2⟩ : ∃ z : ByteArray, z = ⟨(Lib.repeatL [41] k).toArray⟩ := ⟨_, rfl⟩
  have hs1 : z1.size ≤ 25 := by
    have e : z1.data.toList.length = z1.size := rfl
    rw [← e, hz1]
    exact rep_len 40 k hk25
  have hs2 : z2.size ≤ 25 := by
    have e : z2.data.toList.length = z2.size := rfl
    rw [← e, hz2]
    exact rep_len 41 k hk25
  have C1 : Hid (∀ W, Calls Tryz.prog 6 #[.string ⟨#[40]⟩, .int .i64 k] W fun e w' => e = .returned (.string z1) ∧ Below W.heap.size W w') := fun W => by rw [hz1]; exact repeat_is 40 k hk1 hk25 W
  have C2 : Hid (∀ W, Calls Tryz.prog 6 #[.string ⟨#[41]⟩, .int .i64 k] W fun e w' => e = .returned (.string z2) ∧ Below W.heap.size W w') := fun W => by rw [hz2]; exact repeat_is 41 k hk1 hk25 W
  have hdx : (z1 ++ ⟨#[49]⟩ ++ z2).data.toList = deepX k := by rw [data_appD, data_appD, hz1, hz2]; simp [deepX]
  obtain ⟨d1, d2, d3⟩ := deep_cut k hk1 hk25
  obtain ⟨q, hq⟩ : ∃ q : ByteArray, q = z1 ++ ⟨#[49]⟩ ++ z2 := ⟨_, rfl⟩
  have hqd : q.data.toList = deepX k := by rw [hq]; exact hdx
  have hqs : q.size ≤ 51 := by
    rw [hq, ByteArray.size_append, ByteArray.size_append]
    have e1 : (⟨#[49]⟩ : ByteArray).size = 1 := rfl
    omega
  have CC0 : ∀ W, Below w.heap.size w W → Calls Tryz.prog 5 #[.string q] W fun e w' => ∃ v, e = .returned (.tuple #[v, .int .i64 ((0 : Nat) : Int), .int .i64 0]) ∧ ToksOwn w' W.heap.size v (deepT k) ∧ Below W.heap.size W w' := fun W hW => by
    have h := cut_is q W (by unfold maxLen; omega) (Utf8Tabs_below hT hW) (hm.below hW) (hM.below hW hg) (Nat.lt_of_lt_of_le hg hW.size)
    rw [hqd, d1, d2, d3] at h
    exact h
  have CC : Hid (∀ W, Below w.heap.size w W → Calls Tryz.prog 5 #[.string (z1 ++ ⟨#[49]⟩ ++ z2)] W fun e w' => ∃ v, e = .returned (.tuple #[v, .int .i64 0, .int .i64 0]) ∧ ToksOwn w' W.heap.size v (deepT k) ∧ Below W.heap.size W w') := fun W hW => by
    have h := CC0 W hW
    rw [hq] at h
    exact h
  clear CC0 hq hqd hqs
  have CP : Hid (∀ (W : World) b c, Below w.heap.size w W → b < W.heap.size → ToksL W b (deepT k) → Calls Tryz.prog 7 #[.slice (some ⟨b, 0, none⟩) (deepT k).length c] W fun e w' => ∃ v, PhV v ∧ e = .returned (.tuple #[v, .int .i64 (deepI k), .int .i64 (deepE k)]) ∧ Below W.heap.size W w') := fun W b c hW hb ht => parse_deep k b c hk1 hk25 W hb ht (hot.below hW) (Utf8Tabs_below hT hW) (hM.below hW hg) (Nat.lt_of_lt_of_le hg hW.size)
  have HLN : Hid (0 < (deepT k).length) := show 0 < (deepT k).length by rw [deep_len]; omega
  have hii : (i : Int) < 25 := by omega
  obtain ⟨T, hTT⟩ : ∃ T, T = deepT k := ⟨_, rfl⟩
  rw [← hTT] at CC CP HLN
  clear hTT hi hk hz1 hz2 hdx d1 d2 d3 hot hT hm hM hg hn
  by_cases h9 : k ≤ 9
  · have e1 : deepI k = 0 := if_pos h9
    have e2 : deepE k = 0 := if_pos h9
    rw [e1, e2] at CP
    have hle : 3 * ((k : Int) + 1) ≤ 30 := by omega
    clear e1 e2
    go_enter Tryz.func3, Tryz.ntmps3
    go_wp2_with (first
      | (go_at_call 4; refine (CK.out _).mono ?_; rintro e w1 ⟨rfl, rfl⟩; clear CK)
      | (go_at_call_has 6 (Value.string ⟨#[40]⟩); refine (C1.out _).mono ?_; rintro e w2 ⟨rfl, hb2⟩; have HB2 : Hid (Below w.heap.size w w2) := hb2; clear hb2 C1)
      | (go_at_call_has 6 (Value.string ⟨#[41]⟩); refine (C2.out _).mono ?_; rintro e w3 ⟨rfl, hb3⟩; have HB3 : Hid (Below w.heap.size w w3) := HB2.out.trans (hb3.mono HB2.out.size); clear hb3 C2)
      | (go_at_call 5; refine (CC.out _ HB3.out).mono ?_; rintro e w4 ⟨v4, rfl, ho4, hb4⟩; have HB4 : Hid (Below w.heap.size w w4) := HB3.out.trans (hb4.mono HB3.out.size); obtain ⟨b, c, rfl, hbl, htl⟩ := ho4.liesL HLN.out; have HTL : Hid (ToksL w4 b T) := htl; clear ho4 hb4 htl CC)
      | (go_at_call 7; refine (CP.out _ _ _ HB4.out hbl HTL.out).mono ?_; rintro e w5 ⟨v5, hv5, rfl, hb5⟩; obtain ⟨k0, k1, k2, k5, k6, k7, s3, s4, s8, a9, a10, l9, c9, l10, c10, rfl⟩ := hv5; have HB5 : Hid (Below w.heap.size w w5) := HB4.out.trans (hb5.mono HB4.out.size); clear hb5 CP))
    all_goals
      go_ret
      exact ⟨rfl, by first | exact HB5.out | exact HB5.out.alloc HB5.out.size _⟩
  · have e1 : deepI k = 10 := if_neg h9
    have e2 : deepE k = 8 := if_neg h9
    rw [e1, e2] at CP
    have hle : ¬ 3 * ((k : Int) + 1) ≤ 30 := by omega
    have hle2 : (10 : Int) ≤ (k : Int) := by omega
    clear e1 e2
    go_enter Tryz.func3, Tryz.ntmps3
    go_wp2_with (first
      | (go_at_call 4; refine (CK.out _).mono ?_; rintro e w1 ⟨rfl, rfl⟩; clear CK)
      | (go_at_call_has 6 (Value.string ⟨#[40]⟩); refine (C1.out _).mono ?_; rintro e w2 ⟨rfl, hb2⟩; have HB2 : Hid (Below w.heap.size w w2) := hb2; clear hb2 C1)
      | (go_at_call_has 6 (Value.string ⟨#[41]⟩); refine (C2.out _).mono ?_; rintro e w3 ⟨rfl, hb3⟩; have HB3 : Hid (Below w.heap.size w w3) := HB2.out.trans (hb3.mono HB2.out.size); clear hb3 C2)
      | (go_at_call 5; refine (CC.out _ HB3.out).mono ?_; rintro e w4 ⟨v4, rfl, ho4, hb4⟩; have HB4 : Hid (Below w.heap.size w w4) := HB3.out.trans (hb4.mono HB3.out.size); obtain ⟨b, c, rfl, hbl, htl⟩ := ho4.liesL HLN.out; have HTL : Hid (ToksL w4 b T) := htl; clear ho4 hb4 htl CC)
      | (go_at_call 7; refine (CP.out _ _ _ HB4.out hbl HTL.out).mono ?_; rintro e w5 ⟨v5, hv5, rfl, hb5⟩; obtain ⟨k0, k1, k2, k5, k6, k7, s3, s4, s8, a9, a10, l9, c9, l10, c10, rfl⟩ := hv5; have HB5 : Hid (Below w.heap.size w w5) := HB4.out.trans (hb5.mono HB4.out.size); clear hb5 CP))
    all_goals
      go_ret
      exact ⟨rfl, by first | exact HB5.out | exact HB5.out.alloc HB5.out.size _⟩
end Go.Proofs.YteapocgpenokfaaGreatDoor
