/-
  CONTRACT: the document's answer to a query cut into tokens (pleacherref.TokensOf).
-/
import Derived.Test.YtcppodmgeonabaaDoorTcCut
import Derived.Test.YtcppodmgeonabaaDoorTkFault
set_option linter.unusedVariables false
namespace Go.Proofs.YtcppodmgeonabaaDoor
set_option maxRecDepth 100000
open Go.RowKit

theorem CutTo.blank1 {l : List UInt8} {L : List Tok} {a : Nat} (h : CutTo l L a) (ha : a < l.length) (hb : bk (bAt l a) = true) : CutTo l L (a + 1) := by
  unfold CutTo at h ⊢; rw [h, cutAt_blank ha hb]
theorem prefix_iff (s p : ByteArray) (a : Nat) (h : a + p.size ≤ s.size) : ((s.extract a (a + p.size)).toList == p.toList) = p.data.toList.isPrefixOf (s.data.toList.drop a) := by
  rw [Bool.eq_iff_iff, bytes_eq_iff, List.isPrefixOf_iff_prefix, List.prefix_iff_eq_take]
  have e := ext_take s a p.size
  constructor
  · intro h1
    rw [h1] at e
    exact e
  · intro h1
    have : (s.extract a (a + p.size)).data.toList = p.data.toList := by rw [e]; exact h1.symm
    rw [bs_eq this, bs_of]
set_option maxHeartbeats 400000 in
theorem begins_any (s p : ByteArray) (a : Nat) (w : World) (hs : s.size ≤ 1000) (hp : p.size ≤ 1000) (ha : a ≤ s.size) :
    Calls Tryd.prog 20 #[.string s, .int .i64 a, .string p] w fun e w' => e = .returned (.bool (p.data.toList.isPrefixOf (s.data.toList.drop a))) ∧ w' = w := by
  by_cases h : a + p.size ≤ s.size
  · have HP : Hid (((s.extract a (a + p.size)).toList == p.toList) = p.data.toList.isPrefixOf (s.data.toList.drop a)) := prefix_iff s p a h
    have h2 : (p.size : Int) ≤ (s.size : Int) - (a : Int) := by omega
    go_enter Tryd.func20, Tryd.ntmps20
    go_wp2
    go_ret
    exact ⟨ret_bool HP.out, rfl⟩
  · have HP : Hid (p.data.toList.isPrefixOf (s.data.toList.drop a) = false) := by
      show _ = _
      rw [Bool.eq_false_iff]
      intro h1
      have h2 := (List.isPrefixOf_iff_prefix.1 h1).length_le
      rw [List.length_drop] at h2
      have e1 : s.data.toList.length = s.size := rfl
      have e2 : p.data.toList.length = p.size := rfl
      omega
    have h2 : ¬ (p.size : Int) ≤ (s.size : Int) - (a : Int) := by omega
    go_enter Tryd.func20, Tryd.ntmps20
    go_wp2
    go_ret
    exact ⟨ret_bool HP.out.symm, rfl⟩
theorem mkS_size (k : Nat) (h : k < 26) : 1 ≤ (mkS k).size ∧ (mkS k).size ≤ 2 := by
  have : k = 0 ∨ k = 1 ∨ k = 2 ∨ k = 3 ∨ k = 4 ∨ k = 5 ∨ k = 6 ∨ k = 7 ∨ k = 8 ∨ k = 9 ∨ k = 10 ∨ k = 11 ∨ k = 12 ∨ k = 13 ∨ k = 14 ∨ k = 15 ∨ k = 16 ∨ k = 17 ∨ k = 18 ∨ k = 19 ∨ k = 20 ∨ k = 21 ∨ k = 22 ∨ k = 23 ∨ k = 24 ∨ k = 25 := by omega
  rcases this with rfl | rfl | rfl | rfl | rfl | rfl | rfl | rfl | rfl | rfl | rfl | rfl | rfl | rfl | rfl | rfl | rfl | rfl | rfl | rfl | rfl | rfl | rfl | rfl | rfl | rfl <;> decide
theorem bk_yes {c : Int} (h : bk c = true) : (c == 32) = true ∨ ((c == 32) = false ∧ (c == 10) = true) ∨ ((c == 32) = false ∧ (c == 10) = false ∧ (c == 9) = true) := by
  have := of_decide_eq_true h
  rcases this with rfl | rfl | rfl <;> decide
theorem bk_no {c : Int} (h : bk c = false) : (c == 32) = false ∧ (c == 10) = false ∧ (c == 9) = false := by
  have := of_decide_eq_false h
  refine ⟨?_, ?_, ?_⟩ <;> simp <;> omega
theorem in_yes (n l h : Int) (w : World) (h1 : l ≤ n) (h2 : n ≤ h) :
    Calls Tryd.prog 12 #[.int .i64 n, .int .i64 l, .int .i64 h] w fun e w' => e = .returned (.bool true) ∧ w' = w := by
  have := in_any n l h w
  rw [inB_yes h1 h2] at this
  exact this
theorem in_no (n l h : Int) (w : World) (h1 : n < l ∨ h < n) :
    Calls Tryd.prog 12 #[.int .i64 n, .int .i64 l, .int .i64 h] w fun e w' => e = .returned (.bool false) ∧ w' = w := by
  have := in_any n l h w
  rw [inB_no (by omega)] at this
  exact this
theorem byte_le (c : UInt8) : (c.toNat : Int) ≤ 255 := by have := UInt8.toNat_lt c; omega
theorem drop_drop1 (l : List UInt8) (a : Nat) : (l.drop a).drop 1 = l.drop (a + 1) := by rw [List.drop_drop]
theorem inB_dgt (c : Int) : inB c 48 57 = dgt c := rfl
theorem wb_true (c : Int) : wb c true = lett c := by simp [wb]

set_option maxHeartbeats 6400000 in
theorem tokensOf_is (s : ByteArray) (w : World) (hs : s.size ≤ maxLen) (hT : Tabs w) :
    Calls Tryd.prog 8 #[.string s] w fun e w' => ∃ v, e = .returned (.tuple #[v, .int .i64 (cutP s.data.toList), .int .i64 (cutE s.data.toList)]) ∧ ToksOwn w' w.heap.size v (cutT s.data.toList) ∧ Below w.heap.size w w' := by
  have hsl : s.data.toList.length = s.size := rfl
  have CW : Hid (∀ W a, a ≤ s.size → Calls Tryd.prog 16 #[.string s, .int .i64 a] W fun e w' => e = .returned (.int .i64 ((a + wl (s.data.toList.drop a) true : Nat) : Int)) ∧ w' = W) := fun W a ha => wordTo_any s a W hs ha
  unfold maxLen at hs
  by_cases h1 : 1000 < s.size
  · have HR : Hid (cutT s.data.toList = [] ∧ cutP s.data.toList = 0 ∧ cutE s.data.toList = 1) := cut_big h1
    clear hT hsl CW
    go_enter Tryd.func8, Tryd.ntmps8
    go_wp2
    refine bodyPost_ret (v := .tuple #[.slice none 0 0, .int .i64 0, .int .i64 1]) (by simp [results, Tryd.results8, go_sem]) rfl ?_
    exact ⟨_, by rw [HR.out.2.1, HR.out.2.2]; rfl, by rw [HR.out.1]; exact ToksOwn.nil _ _, Below.refl _ _⟩
  have hs1 : s.size ≤ 1000 := by omega
  have H1 : Hid (¬ 1000 < s.data.toList.length) := h1
  clear h1 hs
  have CV : Hid (∀ W (x : ByteArray), Below w.heap.size w W → x.size ≤ 1000 → Calls Tryd.prog 13 #[.string x] W fun e w' => e = .returned (.int .i64 (textF x)) ∧ Below W.heap.size W w') := fun W x hW hx => valueFault_any x W (by unfold maxLen; omega) (Utf8Tabs_below hT hW)
  obtain ⟨i0, hi0, hz0, hz1, hz2⟩ := info_parts infoTok
  clear hT
  go_enter Tryd.func8, Tryd.ntmps8
  go_wp2
  go_loopw [5, 6] (fun v i wr => ∃ (a : Nat) (L : List Tok), a ≤ s.size ∧ i = .int .i64 a ∧ L.length ≤ 200 ∧ CutTo s.data.toList L a ∧ ToksOwn wr w.heap.size v L ∧ Below w.heap.size w wr) (fun _ i _ => s.size - (intOf i).toNat)
  case atStart => exact ⟨0, [], Nat.zero_le _, rfl, by simp, CutTo.zero _, ToksOwn.nil _ _, Below.refl _ _⟩
  case round =>
    obtain ⟨a, L, ha, rfl, hL, hcut, hv, hbr⟩ := hrel
    have hshape := own_shape hv
    obtain ⟨va, vc, rfl⟩ := hshape
    have HV : Hid (ToksOwn wr w.heap.size (.slice va L.length vc) L) := hv
    have HB : Hid (Below w.heap.size w wr) := hbr
    have HCUT : Hid (CutTo s.data.toList L a) := hcut
    have hzr : w.heap.size ≤ wr.heap.size := hbr.size
    clear hv hbr hcut
    by_cases hlt : a < s.size
    · have hbe : bAt s.data.toList a = (s[a].toNat : Int) := by rw [← byteAt_bAt, byteAt_eq s a hlt]
      cases hbk : bk (s[a].toNat : Int)
      · obtain ⟨b1, b2, b3⟩ := bk_no hbk
        have HK : Hid (bk (bAt s.data.toList a) = false) := by show _ = _; rw [hbe]; exact hbk
        clear hbk
        by_cases hfull : 200 ≤ L.length
        · have HR : Hid (cutT s.data.toList = [] ∧ cutP s.data.toList = a ∧ cutE s.data.toList = 1) := HCUT.out.full H1.out hlt HK.out hfull
          have hq : (200 : Int) ≤ (L.length : Int) := by omega
          clear hbe
          go_wp2
          refine bodyPost_ret (v := .tuple #[.slice none 0 0, .int .i64 a, .int .i64 1]) (by simp [results, Tryd.results8, go_sem]) rfl ?_
          exact ⟨_, by rw [HR.out.2.1, HR.out.2.2], by rw [HR.out.1]; exact ToksOwn.nil _ _, HB.out⟩
        have hq : ¬ (200 : Int) ≤ (L.length : Int) := by omega
        have HER : Hid (¬ (tk (s.data.toList.drop a)).1 = 0 → cutT s.data.toList = [] ∧ cutP s.data.toList = a ∧ cutE s.data.toList = (tk (s.data.toList.drop a)).1) := fun h => HCUT.out.err H1.out hlt HK.out hfull h
        have HTK : Hid ((tk (s.data.toList.drop a)).1 = 0 → CutTo s.data.toList (L ++ [(tk (s.data.toList.drop a)).2.1]) (a + (tk (s.data.toList.drop a)).2.2)) := fun h => HCUT.out.tok hlt HK.out hfull h
        have hb0 : bAt (s.data.toList.drop a) 0 = (s[a].toNat : Int) := by rw [bAt_drop, Nat.add_zero, hbe]
        have hl0 : 0 < (s.data.toList.drop a).length := by rw [List.length_drop]; omega
        have hub := byte_le s[a]
        clear hbe HK HCUT
        cases c1 : lett (s[a].toNat : Int)
        · cases c3 : dgt (s[a].toNat : Int)
          · by_cases c4 : (s[a].toNat : Int) = 34
            · 
              have hw1 : wb (s[a].toNat : Int) true = false := by rw [wb_true]; exact c1
              have c4' : ((s[a].toNat : Int) == 34) = true := by simpa using c4
              have htk : tk (s.data.toList.drop a) = quoR (s.data.toList.drop (a + 1)) := by rw [← drop_drop1]; exact tk_quo (by rw [hb0]; exact c4)
              have hql : ql (s.data.toList.drop (a + 1)) ≤ s.size - (a + 1) := by
                have := ql_le (s.data.toList.drop (a + 1))
                rw [List.length_drop] at this
                exact this
              have hql1 : ∀ k, k < ql (s.data.toList.drop (a + 1)) → bAt s.data.toList (a + 1 + k) ≠ 34 := fun k hk => by
                have := ql_lt _ k hk
                rwa [bAt_drop] at this
              have hql2 : a + 1 + ql (s.data.toList.drop (a + 1)) < s.size → bAt s.data.toList (a + 1 + ql (s.data.toList.drop (a + 1))) = 34 := fun h => by
                have := ql_eq (s.data.toList.drop (a + 1)) (by rw [List.length_drop]; omega)
                rwa [bAt_drop] at this
              have hx : s.extract (a + 1) (a + 1 + ql (s.data.toList.drop (a + 1))) = bs ((s.data.toList.drop (a + 1)).take (ql (s.data.toList.drop (a + 1)))) := bs_eq (ext_take _ _ _)
              have HQR : Hid (quoR (s.data.toList.drop (a + 1)) = if a + 1 + ql (s.data.toList.drop (a + 1)) < s.size then (if textF (bs ((s.data.toList.drop (a + 1)).take (ql (s.data.toList.drop (a + 1))))) = 0 then (0, ⟨3, bs ((s.data.toList.drop (a + 1)).take (ql (s.data.toList.drop (a + 1)))), 0⟩, ql (s.data.toList.drop (a + 1)) + 2) else (textF (bs ((s.data.toList.drop (a + 1)).take (ql (s.data.toList.drop (a + 1))))), tok0, 0)) else (5, tok0, 0)) := by
                show _ = _
                unfold quoR
                rw [List.length_drop]
                by_cases h : ql (s.data.toList.drop (a + 1)) < s.data.toList.length - (a + 1)
                · rw [if_pos h]; exact (if_pos (by omega)).symm
                · rw [if_neg h]; exact (if_neg (by omega)).symm
              have hTs : (bs ((s.data.toList.drop (a + 1)).take (ql (s.data.toList.drop (a + 1))))).size ≤ 1000 := by rw [bs_size, List.length_take, List.length_drop]; omega
              rw [htk] at HER HTK
              have HQ1 : Hid (∀ k, k < ql (s.data.toList.drop (a + 1)) → bAt s.data.toList (a + 1 + k) ≠ 34) := hql1
              have HQ2 : Hid (a + 1 + ql (s.data.toList.drop (a + 1)) < s.size → bAt s.data.toList (a + 1 + ql (s.data.toList.drop (a + 1))) = 34) := hql2
              clear htk hb0 hl0 c1 hql1 hql2
              generalize quoR (s.data.toList.drop (a + 1)) = QR at *
              generalize ql (s.data.toList.drop (a + 1)) = Q at *
              generalize bs ((s.data.toList.drop (a + 1)).take Q) = T at *
              have hdn : (s[a].toNat : Int) < 48 ∨ 57 < (s[a].toNat : Int) := by omega
              clear c3 c4
              go_wp2_with (first
                | (go_at_call 19; refine (wordByte_any _ _ _).mono ?_; rintro e w' ⟨rfl, hww⟩; obtain rfl := hww.symm)
                | (go_at_call 12; first | (refine Calls.mono (in_no _ _ _ _ ?hno) ?_; (case hno => omega); rintro e w' ⟨rfl, hww⟩; obtain rfl := hww.symm) | (refine Calls.mono (in_yes _ _ _ _ ?hy1 ?hy2) ?_; (case hy1 => omega); (case hy2 => omega); rintro e w' ⟨rfl, hww⟩; obtain rfl := hww.symm)))
              go_loop [11] (fun i => ∃ k : Nat, k ≤ Q ∧ i = .int .i64 ((a + 1 + k : Nat) : Int)) (fun i => s.size - (intOf i).toNat)
              case atStart => exact ⟨0, Nat.zero_le _, by go_num⟩
              case round =>
                obtain ⟨k, hk, rfl⟩ := hrel
                obtain ⟨i, hi⟩ : ∃ i, i = a + 1 + k := ⟨_, rfl⟩
                rw [← hi]
                by_cases hkq : k < Q
                · have his : i < s.size := by omega
                  have hne : ((s[i].toNat : Int) == 34) = false := by
                    rw [byteAt_eq s i his, byteAt_bAt, hi]
                    simpa using HQ1.out k hkq
                  have HI : Hid (i = a + 1 + k) := hi
                  clear hi
                  go_wp2
                  go_round
                  case rel => exact ⟨k + 1, by omega, by rw [HI.out]; go_num⟩
                  case measure => simp [intOf]; omega
                · have e : k = Q := by omega
                  subst e
                  have hi' : a + 1 + k = i := hi.symm
                  rw [hi'] at HQR HQ2 hx
                  have HI : Hid (i = a + 1 + k) := hi
                  clear hkq hk
                  by_cases his : i < s.size
                  · have heq : ((s[i].toNat : Int) == 34) = true := by
                      rw [byteAt_eq s i his, byteAt_bAt]
                      simpa using HQ2.out his
                    have HQ3 : Hid (QR = if textF T = 0 then (0, ⟨3, T, 0⟩, k + 2) else (textF T, tok0, 0)) := HQR.out.trans (if_pos his)
                    have hil : ((i : Int) == (s.size : Int)) = false := by simp; omega
                    have hai : a + 1 ≤ i := by omega
                    have CV1 : Hid (Calls Tryd.prog 13 #[.string T] wr fun e w' => e = .returned (.int .i64 (textF T)) ∧ Below wr.heap.size wr w') := CV.out wr T HB.out hTs
                    clear HQR hi hi'
                    generalize textF T = F at *
                    by_cases hF : F = 0
                    · subst hF
                      rw [if_pos rfl] at HQ3
                      rw [HQ3.out] at HER HTK
                      have HC2 : Hid (CutTo s.data.toList (L ++ [⟨3, T, 0⟩]) (a + (k + 2))) := HTK.out rfl
                      clear HER HTK HQ3
                      go_wp2_with (first
                        | (go_at_call 13; refine CV1.out.mono ?_; rintro e w1 ⟨rfl, hb1⟩; have HV : Hid (ToksOwn w1 w.heap.size (.slice va L.length vc) L) := HV.out.below hb1; have HB : Hid (Below w.heap.size w w1) := HB.out.trans (hb1.mono hzr); have hzr : w.heap.size ≤ w1.heap.size := Nat.le_trans hzr hb1.size; clear hb1)
                        | (at_builtin; refine wpList_append_own _ rfl (.tmp 126) (.tmp 133) 27 rfl w.heap.size 23 i0 _ 3 32 Tryd.underlying27 hi0 hz0 hz1 hz2 rfl (by decide) _ _ _ rfl (World.ownsRow.alloc HV.out _) ⟨w1.heap.size, 0, none⟩ 1 1 (tokC ⟨3, T, 0⟩) rfl rfl (elemT_in ⟨3, T, 0⟩) (elemT_one _) (by unfold maxLen; omega) (by omega) (by simp <;> omega) ?_; intro v6 w6 hown6 hgrow6 _; obtain ⟨va6, vc6, rfl⟩ := own_shape hown6; have HV6 : Hid (w6.ownsRow w.heap.size 23 3 (.slice va6 (L.length + 1) vc6) (L.length + 1) (tokCells L ++ tokC ⟨3, T, 0⟩)) := hown6; have HB6 : Hid (Below w.heap.size w w6) := (HB.out.alloc hzr _).grown hgrow6 (by simp <;> omega) (fun z hz => (World.ownsRow.lt HV.out z hz).1); clear hown6 hgrow6))
                      go_roundw
                      case rel => exact ⟨a + (k + 2), L ++ [⟨3, T, 0⟩], by have := HI.out; omega, by have := HI.out; congr 1; omega, by simp; omega, HC2.out, by unfold ToksOwn; rw [tokCells_snoc, List.length_append]; exact HV6.out, HB6.out⟩
                      case measure => simp [intOf]; omega
                    · have hF' : (F == 0) = false := by simpa using hF
                      rw [if_neg hF] at HQ3
                      rw [HQ3.out] at HER HTK
                      have HR : Hid (cutT s.data.toList = [] ∧ cutP s.data.toList = a ∧ cutE s.data.toList = F) := HER.out hF
                      clear HER HTK HQ3 hF
                      go_wp2_with (first
                        | (go_at_call 13; refine CV1.out.mono ?_; rintro e w1 ⟨rfl, hb1⟩; have HB : Hid (Below w.heap.size w w1) := HB.out.trans (hb1.mono hzr); clear hb1))
                      refine bodyPost_ret (v := .tuple #[.slice none 0 0, .int .i64 a, .int .i64 F]) (by simp [results, Tryd.results8, go_sem]) rfl ?_
                      exact ⟨_, by rw [HR.out.2.1, HR.out.2.2], by rw [HR.out.1]; exact ToksOwn.nil _ _, HB.out⟩
                  · have HQ3 : Hid (QR = (5, tok0, 0)) := HQR.out.trans (if_neg his)
                    rw [HQ3.out] at HER HTK
                    have HR : Hid (cutT s.data.toList = [] ∧ cutP s.data.toList = a ∧ cutE s.data.toList = 5) := HER.out (show ¬ (5 : Int) = 0 by decide)
                    have hil : ((i : Int) == (s.size : Int)) = true := by simp; omega
                    clear HER HTK HQ3 HQR hi hi'
                    go_wp2
                    refine bodyPost_ret (v := .tuple #[.slice none 0 0, .int .i64 a, .int .i64 5]) (by simp [results, Tryd.results8, go_sem]) rfl ?_
                    exact ⟨_, by rw [HR.out.2.1, HR.out.2.2], by rw [HR.out.1]; exact ToksOwn.nil _ _, HB.out⟩
            · by_cases c2 : (s[a].toNat : Int) = 36
              · 
                have hw1 : wb (s[a].toNat : Int) true = false := by rw [wb_true]; exact c1
                have c4' : ((s[a].toNat : Int) == 34) = false := by simpa using c4
                have c2' : ((s[a].toNat : Int) == 36) = true := by simpa using c2
                have htk : tk (s.data.toList.drop a) = nameR 4 (s.data.toList.drop (a + 1)) 1 := by rw [← drop_drop1]; exact tk_var (by rw [hb0]; exact c2)
                have HNR : Hid (nameR 4 (s.data.toList.drop (a + 1)) 1 = if 1 ≤ wl (s.data.toList.drop (a + 1)) true ∧ wl (s.data.toList.drop (a + 1)) true ≤ 20 then (0, ⟨4, bs ((s.data.toList.drop (a + 1)).take (wl (s.data.toList.drop (a + 1)) true)), 0⟩, 1 + wl (s.data.toList.drop (a + 1)) true) else (10, tok0, 0)) := rfl
                have CW1 : Hid (∀ W, Calls Tryd.prog 16 #[.string s, .int .i64 ((a : Int) + 1)] W fun e w' => e = .returned (.int .i64 ((a + 1 + wl (s.data.toList.drop (a + 1)) true : Nat) : Int)) ∧ w' = W) := fun W => CW.out W (a + 1) (by omega)
                have hwl : wl (s.data.toList.drop (a + 1)) true ≤ s.size - (a + 1) := by
                  have := wl_le (s.data.toList.drop (a + 1)) true
                  rw [List.length_drop] at this
                  exact this
                have hx : s.extract (a + 1) (a + 1 + wl (s.data.toList.drop (a + 1)) true) = bs ((s.data.toList.drop (a + 1)).take (wl (s.data.toList.drop (a + 1)) true)) := bs_eq (ext_take _ _ _)
                rw [htk] at HER HTK
                clear htk hb0 hl0 c1
                generalize nameR 4 (s.data.toList.drop (a + 1)) 1 = NR at *
                generalize wl (s.data.toList.drop (a + 1)) true = W at *
                generalize bs ((s.data.toList.drop (a + 1)).take W) = T at *
                obtain ⟨i, hi⟩ : ∃ i, i = a + 1 + W := ⟨_, rfl⟩
                rw [← hi] at CW1 hx
                have HI : Hid (i = a + 1 + W) := hi
                have hdn : (s[a].toNat : Int) < 48 ∨ 57 < (s[a].toNat : Int) := by omega
                clear c3 c4 c2
                by_cases hW : 1 ≤ W ∧ W ≤ 20
                · rw [HNR.out, if_pos hW] at HER HTK
                  have HC2 : Hid (CutTo s.data.toList (L ++ [⟨4, T, 0⟩]) (a + (1 + W))) := HTK.out rfl
                  have hi1 : a + 1 ≤ i := by omega
                  have hi2 : i ≤ s.size := by omega
                  have hi3 : i - a - 1 ≤ 20 := by omega
                  have hi4 : a + 2 ≤ i := by omega
                  clear HER HTK HNR hW hi hwl
                  go_wp2_with (first
                    | (go_at_call 19; refine (wordByte_any _ _ _).mono ?_; rintro e w' ⟨rfl, hww⟩; obtain rfl := hww.symm)
                    | (go_at_call 16; refine (CW1.out _).mono ?_; rintro e w' ⟨rfl, hww⟩; obtain rfl := hww.symm)
                    | (go_at_call 12; first | (refine Calls.mono (in_no _ _ _ _ ?hno) ?_; (case hno => omega); rintro e w' ⟨rfl, hww⟩; obtain rfl := hww.symm) | (refine Calls.mono (in_yes _ _ _ _ ?hy1 ?hy2) ?_; (case hy1 => omega); (case hy2 => omega); rintro e w' ⟨rfl, hww⟩; obtain rfl := hww.symm))
                    | (at_builtin; refine wpList_append_own _ rfl (.tmp 150) (.tmp 157) 27 rfl w.heap.size 23 i0 _ 3 32 Tryd.underlying27 hi0 hz0 hz1 hz2 rfl (by decide) _ _ _ rfl (World.ownsRow.alloc HV.out _) ⟨wr.heap.size, 0, none⟩ 1 1 (tokC ⟨4, T, 0⟩) rfl rfl (elemT_in ⟨4, T, 0⟩) (elemT_one _) (by unfold maxLen; omega) (by omega) (by simp <;> omega) ?_; intro v6 w6 hown6 hgrow6 _; obtain ⟨va6, vc6, rfl⟩ := own_shape hown6; have HV6 : Hid (w6.ownsRow w.heap.size 23 3 (.slice va6 (L.length + 1) vc6) (L.length + 1) (tokCells L ++ tokC ⟨4, T, 0⟩)) := hown6; have HB6 : Hid (Below w.heap.size w w6) := (HB.out.alloc hzr _).grown hgrow6 (by simp <;> omega) (fun z hz => (World.ownsRow.lt HV.out z hz).1); clear hown6 hgrow6))
                  go_roundw
                  case rel => exact ⟨a + (1 + W), L ++ [⟨4, T, 0⟩], by have := HI.out; omega, by have := HI.out; congr 1; omega, by simp; omega, HC2.out, by unfold ToksOwn; rw [tokCells_snoc, List.length_append]; exact HV6.out, HB6.out⟩
                  case measure => simp [intOf]; omega
                · rw [HNR.out, if_neg hW] at HER HTK
                  have HR : Hid (cutT s.data.toList = [] ∧ cutP s.data.toList = a ∧ cutE s.data.toList = 10) := HER.out (show ¬ (10 : Int) = 0 by decide)
                  have hi2 : i ≤ s.size := by omega
                  have hi3 : i = a + 1 ∨ a + 21 < i := by omega
                  clear HER HTK HNR hW hi hwl
                  go_wp2_with (first
                    | (go_at_call 19; refine (wordByte_any _ _ _).mono ?_; rintro e w' ⟨rfl, hww⟩; obtain rfl := hww.symm)
                    | (go_at_call 16; refine (CW1.out _).mono ?_; rintro e w' ⟨rfl, hww⟩; obtain rfl := hww.symm)
                    | (go_at_call 12; first | (refine Calls.mono (in_no _ _ _ _ ?hno) ?_; (case hno => omega); rintro e w' ⟨rfl, hww⟩; obtain rfl := hww.symm) | (refine Calls.mono (in_yes _ _ _ _ ?hy1 ?hy2) ?_; (case hy1 => omega); (case hy2 => omega); rintro e w' ⟨rfl, hww⟩; obtain rfl := hww.symm)))
                  refine bodyPost_ret (v := .tuple #[.slice none 0 0, .int .i64 a, .int .i64 10]) (by simp [results, Tryd.results8, go_sem]) rfl ?_
                  exact ⟨_, by rw [HR.out.2.1, HR.out.2.2], by rw [HR.out.1]; exact ToksOwn.nil _ _, HB.out⟩
              · 
                have hw1 : wb (s[a].toNat : Int) true = false := by rw [wb_true]; exact c1
                have c4' : ((s[a].toNat : Int) == 34) = false := by simpa using c4
                have c2' : ((s[a].toNat : Int) == 36) = false := by simpa using c2
                have htk : tk (s.data.toList.drop a) = if fm (s.data.toList.drop a) = [] then (4, tok0, 0) else (0, ⟨5, bs (fm (s.data.toList.drop a)), 0⟩, (fm (s.data.toList.drop a)).length) := tk_mark (by rw [hb0]; exact c1) (by rw [hb0]; exact c2) (by rw [hb0]; exact c3) (by rw [hb0]; exact c4)
                rw [htk] at HER HTK
                have hfl : fm (s.data.toList.drop a) ≠ [] → 1 ≤ (fm (s.data.toList.drop a)).length ∧ (fm (s.data.toList.drop a)).length ≤ s.size - a := fun h => by
                  have := fm_len h
                  rw [List.length_drop] at this
                  exact this
                have HFL : Hid (fm (s.data.toList.drop a) ≠ [] → 1 ≤ (fm (s.data.toList.drop a)).length ∧ (fm (s.data.toList.drop a)).length ≤ s.size - a) := hfl
                have CBG : Hid (∀ W k, k < 26 → Calls Tryd.prog 20 #[.string s, .int .i64 a, .string (mkS k)] W fun e w' => e = .returned (.bool ((mkAt k).isPrefixOf (s.data.toList.drop a))) ∧ w' = W) := fun W k hk => by
                  have := begins_any s (mkS k) a W hs1 (by have := mkS_size k hk; omega) ha
                  rw [mkS_list] at this
                  exact this
                have hdn : (s[a].toNat : Int) < 48 ∨ 57 < (s[a].toNat : Int) := by
                  have : ¬ (48 ≤ (s[a].toNat : Int) ∧ (s[a].toNat : Int) ≤ 57) := fun h => by rw [dgt_iff.2 h] at c3; exact absurd c3 (by decide)
                  omega
                clear htk hb0 hl0 c1 c3 c4 c2 hfl
                generalize s.data.toList.drop a = l' at *
                go_wp2_with (first
                  | (go_at_call 19; refine (wordByte_any _ _ _).mono ?_; rintro e w' ⟨rfl, hww⟩; obtain rfl := hww.symm)
                  | (go_at_call 12; first | (refine Calls.mono (in_no _ _ _ _ ?hno) ?_; (case hno => omega); rintro e w' ⟨rfl, hww⟩; obtain rfl := hww.symm) | (refine Calls.mono (in_yes _ _ _ _ ?hy1 ?hy2) ?_; (case hy1 => omega); (case hy2 => omega); rintro e w' ⟨rfl, hww⟩; obtain rfl := hww.symm)))
                go_loopw [14, 15] (fun m i wq => ∃ (k : Nat) (mm : ByteArray), k ≤ 26 ∧ i = .int .i64 k ∧ m = .string mm ∧ ((mm.size = 0 ∧ fm l' = fmFrom l' k) ∨ (mm.size ≠ 0 ∧ mm = bs (fm l'))) ∧ ToksOwn wq w.heap.size (.slice va L.length vc) L ∧ Below w.heap.size w wq) (fun _ i _ => 26 - (intOf i).toNat)
                case atStart => exact ⟨0, ⟨#[]⟩, by omega, rfl, rfl, .inl ⟨rfl, rfl⟩, HV.out, HB.out⟩
                case round =>
                  clear HV HB hzr
                  obtain ⟨k, mm, hk, rfl, rfl, hmm, hv, hbr⟩ := hrel
                  have HV : Hid (ToksOwn wr w.heap.size (.slice va L.length vc) L) := hv
                  have HB : Hid (Below w.heap.size w wr) := hbr
                  have hzr : w.heap.size ≤ wr.heap.size := hbr.size
                  clear hv hbr
                  rcases hmm with ⟨hz, hf⟩ | ⟨hz, hf⟩
                  · have hem := isEmpty_yes hz
                    have HM : Hid (mm.size = 0) := hz
                    by_cases hk26 : k < 26
                    · have CB1 : Hid (∀ W, Calls Tryd.prog 20 #[.string s, .int .i64 a, .string (mkS k)] W fun e w' => e = .returned (.bool ((mkAt k).isPrefixOf l')) ∧ w' = W) := fun W => CBG.out W k hk26
                      have hki : (k : Int) < 26 := by omega
                      cases hp : (mkAt k).isPrefixOf l'
                      · have HN : Hid (fm l' = fmFrom l' (k + 1)) := hf.trans (fmFrom_miss hk26 hp)
                        rw [hp] at CB1
                        clear hp hf hz HER HTK CBG
                        go_wp2_with (first
                          | (go_at_call 15; refine (allMarks_any _).mono ?_; rintro e w1 ⟨rfl, hb1, hzz1, hcs1⟩; have HV : Hid (ToksOwn w1 w.heap.size (.slice va L.length vc) L) := HV.out.below hb1; have HB : Hid (Below w.heap.size w w1) := HB.out.trans (hb1.mono hzr); have hzr : w.heap.size ≤ w1.heap.size := Nat.le_trans hzr hb1.size; have hk1 := hcs1 k hk26; clear hb1 hcs1)
                          | (go_at_call 20; refine (CB1.out _).mono ?_; rintro e w' ⟨rfl, hww⟩; obtain rfl := hww.symm))
                        go_roundw
                        case rel => exact ⟨k + 1, mm, by omega, by go_num, rfl, .inl ⟨HM.out, HN.out⟩, HV.out, HB.out⟩
                        case measure => simp [intOf]; omega
                      · have HN : Hid (fm l' = mkAt k) := hf.trans (fmFrom_hit hk26 hp)
                        rw [hp] at CB1
                        clear hp hf hz HER HTK CBG
                        go_wp2_with (first
                          | (go_at_call 15; refine (allMarks_any _).mono ?_; rintro e w1 ⟨rfl, hb1, hzz1, hcs1⟩; have HV : Hid (ToksOwn w1 w.heap.size (.slice va L.length vc) L) := HV.out.below hb1; have HB : Hid (Below w.heap.size w w1) := HB.out.trans (hb1.mono hzr); have hzr : w.heap.size ≤ w1.heap.size := Nat.le_trans hzr hb1.size; have hk1 := hcs1 k hk26; clear hb1 hcs1)
                          | (go_at_call 20; refine (CB1.out _).mono ?_; rintro e w' ⟨rfl, hww⟩; obtain rfl := hww.symm))
                        go_roundw
                        case rel => exact ⟨k + 1, mkS k, by omega, by go_num, rfl, .inr ⟨by have := mkS_size k hk26; omega, by rw [HN.out]; rfl⟩, HV.out, HB.out⟩
                        case measure => simp [intOf]; omega
                    · have e : k = 26 := by omega
                      have hf0 : fm l' = [] := by rw [hf, e]; exact fmFrom_end _
                      rw [if_pos hf0] at HER HTK
                      have HR : Hid (cutT s.data.toList = [] ∧ cutP s.data.toList = a ∧ cutE s.data.toList = 4) := HER.out (show ¬ (4 : Int) = 0 by decide)
                      have hki : ¬ (k : Int) < 26 := by omega
                      clear hf hz HER HTK CBG e hf0
                      go_wp2_with (first
                        | (go_at_call 15; refine (allMarks_any _).mono ?_; rintro e w1 ⟨rfl, hb1, hzz1, hcs1⟩; have HV : Hid (ToksOwn w1 w.heap.size (.slice va L.length vc) L) := HV.out.below hb1; have HB : Hid (Below w.heap.size w w1) := HB.out.trans (hb1.mono hzr); have hzr : w.heap.size ≤ w1.heap.size := Nat.le_trans hzr hb1.size; clear hb1 hcs1))
                      refine bodyPost_ret (v := .tuple #[.slice none 0 0, .int .i64 a, .int .i64 4]) (by simp [results, Tryd.results8, go_sem]) rfl ?_
                      exact ⟨_, by rw [HR.out.2.1, HR.out.2.2], by rw [HR.out.1]; exact ToksOwn.nil _ _, HB.out⟩
                  · have hem := isEmpty_no hz
                    have hfs : mm.size = (fm l').length := by rw [hf, bs_size]
                    have hf0 : fm l' ≠ [] := fun e => by rw [e] at hfs; exact hz hfs
                    have hfl := HFL.out hf0
                    rw [if_neg hf0] at HER HTK
                    have HC2 : Hid (CutTo s.data.toList (L ++ [⟨5, mm, 0⟩]) (a + mm.size)) := by
                      have := HTK.out rfl
                      simp only at this
                      rw [hfs, hf]
                      exact this
                    have hm1 : 1 ≤ mm.size := by omega
                    have hm2 : mm.size ≤ s.size - a := by omega
                    clear hf hz HER HTK CBG hf0 hfs hfl HFL
                    by_cases hk26 : k < 26
                    · have hki : (k : Int) < 26 := by omega
                      go_wp2_with (first
                        | (go_at_call 15; refine (allMarks_any _).mono ?_; rintro e w1 ⟨rfl, hb1, hzz1, hcs1⟩; have HV : Hid (ToksOwn w1 w.heap.size (.slice va L.length vc) L) := HV.out.below hb1; have HB : Hid (Below w.heap.size w w1) := HB.out.trans (hb1.mono hzr); have hzr : w.heap.size ≤ w1.heap.size := Nat.le_trans hzr hb1.size; clear hb1 hcs1)
                        | (at_builtin; refine wpList_append_own _ rfl (.tmp 184) (.tmp 187) 27 rfl w.heap.size 23 i0 _ 3 32 Tryd.underlying27 hi0 hz0 hz1 hz2 rfl (by decide) _ _ _ rfl (World.ownsRow.alloc HV.out _) ⟨w1.heap.size, 0, none⟩ 1 1 (tokC ⟨5, mm, 0⟩) rfl rfl (elemT_in ⟨5, mm, 0⟩) (elemT_one _) (by unfold maxLen; omega) (by omega) (by simp <;> omega) ?_; intro v6 w6 hown6 hgrow6 _; obtain ⟨va6, vc6, rfl⟩ := own_shape hown6; have HV6 : Hid (w6.ownsRow w.heap.size 23 3 (.slice va6 (L.length + 1) vc6) (L.length + 1) (tokCells L ++ tokC ⟨5, mm, 0⟩)) := hown6; have HB6 : Hid (Below w.heap.size w w6) := (HB.out.alloc hzr _).grown hgrow6 (by simp <;> omega) (fun z hz => (World.ownsRow.lt HV.out z hz).1); clear hown6 hgrow6))
                      go_roundw
                      case rel => exact ⟨a + mm.size, L ++ [⟨5, mm, 0⟩], by omega, by go_num, by simp; omega, HC2.out, by unfold ToksOwn; rw [tokCells_snoc, List.length_append]; exact HV6.out, HB6.out⟩
                      case measure => simp [intOf]; omega
                    · have hki : ¬ (k : Int) < 26 := by omega
                      go_wp2_with (first
                        | (go_at_call 15; refine (allMarks_any _).mono ?_; rintro e w1 ⟨rfl, hb1, hzz1, hcs1⟩; have HV : Hid (ToksOwn w1 w.heap.size (.slice va L.length vc) L) := HV.out.below hb1; have HB : Hid (Below w.heap.size w w1) := HB.out.trans (hb1.mono hzr); have hzr : w.heap.size ≤ w1.heap.size := Nat.le_trans hzr hb1.size; clear hb1 hcs1)
                        | (at_builtin; refine wpList_append_own _ rfl (.tmp 184) (.tmp 187) 27 rfl w.heap.size 23 i0 _ 3 32 Tryd.underlying27 hi0 hz0 hz1 hz2 rfl (by decide) _ _ _ rfl (World.ownsRow.alloc HV.out _) ⟨w1.heap.size, 0, none⟩ 1 1 (tokC ⟨5, mm, 0⟩) rfl rfl (elemT_in ⟨5, mm, 0⟩) (elemT_one _) (by unfold maxLen; omega) (by omega) (by simp <;> omega) ?_; intro v6 w6 hown6 hgrow6 _; obtain ⟨va6, vc6, rfl⟩ := own_shape hown6; have HV6 : Hid (w6.ownsRow w.heap.size 23 3 (.slice va6 (L.length + 1) vc6) (L.length + 1) (tokCells L ++ tokC ⟨5, mm, 0⟩)) := hown6; have HB6 : Hid (Below w.heap.size w w6) := (HB.out.alloc hzr _).grown hgrow6 (by simp <;> omega) (fun z hz => (World.ownsRow.lt HV.out z hz).1); clear hown6 hgrow6))
                      go_roundw
                      case rel => exact ⟨a + mm.size, L ++ [⟨5, mm, 0⟩], by omega, by go_num, by simp; omega, HC2.out, by unfold ToksOwn; rw [tokCells_snoc, List.length_append]; exact HV6.out, HB6.out⟩
                      case measure => simp [intOf]; omega
          · 
            have hw1 : wb (s[a].toNat : Int) true = false := by rw [wb_true]; exact c1
            have htk : tk (s.data.toList.drop a) = numR (s.data.toList.drop a) := tk_num (by rw [hb0]; exact c3)
            have HNR : Hid (numR (s.data.toList.drop a) = if numV (s.data.toList.drop a) (dl (s.data.toList.drop a)) ≤ 1099511627776 then (0, ⟨2, ⟨#[]⟩, numV (s.data.toList.drop a) (dl (s.data.toList.drop a))⟩, dl (s.data.toList.drop a)) else (2, tok0, 0)) := rfl
            have hdl : dl (s.data.toList.drop a) ≤ s.size - a := by
              have := dl_le (s.data.toList.drop a)
              rw [List.length_drop] at this
              exact this
            have HMO : Hid (∀ k m, k ≤ m → m ≤ dl (s.data.toList.drop a) → numV (s.data.toList.drop a) k ≤ numV (s.data.toList.drop a) m) := fun k m h1 h2 => numV_mono _ k m h1 h2
            have HNN : Hid (∀ k, k ≤ dl (s.data.toList.drop a) → 0 ≤ numV (s.data.toList.drop a) k) := fun k h => numV_nonneg _ k h
            have HSU : Hid (∀ k, numV (s.data.toList.drop a) (k + 1) = 10 * numV (s.data.toList.drop a) k + (bAt s.data.toList (a + k) - 48)) := fun k => by rw [numV_succ, bAt_drop]
            have HD1 : Hid (∀ k, k < dl (s.data.toList.drop a) → dgt (bAt s.data.toList (a + k)) = true) := fun k h => by
              have := dl_lt _ k h
              rwa [bAt_drop] at this
            have HD2 : Hid (a + dl (s.data.toList.drop a) < s.size → dgt (bAt s.data.toList (a + dl (s.data.toList.drop a))) = false) := fun h => by
              have := dl_eq (s.data.toList.drop a) (by rw [List.length_drop]; omega)
              rwa [bAt_drop] at this
            have HV0 : Hid (numV (s.data.toList.drop a) 0 = 0) := rfl
            have hdp := dl_pos (by rw [hb0]; exact c3) hl0
            rw [htk, HNR.out] at HER HTK
            obtain ⟨d1, d2⟩ := dgt_iff.1 c3
            clear htk HNR hb0 hl0 c1 c3
            generalize dl (s.data.toList.drop a) = D at *
            generalize numV (s.data.toList.drop a) = V at *
            go_wp2_with (first
              | (go_at_call 19; refine (wordByte_any _ _ _).mono ?_; rintro e w' ⟨rfl, hww⟩; obtain rfl := hww.symm)
              | (go_at_call 12; first | (refine Calls.mono (in_no _ _ _ _ ?hno) ?_; (case hno => omega); rintro e w' ⟨rfl, hww⟩; obtain rfl := hww.symm) | (refine Calls.mono (in_yes _ _ _ _ ?hy1 ?hy2) ?_; (case hy1 => omega); (case hy2 => omega); rintro e w' ⟨rfl, hww⟩; obtain rfl := hww.symm)))
            go_loop [9, 10] (fun n i => ∃ k : Nat, k ≤ D ∧ i = .int .i64 ((a + k : Nat) : Int) ∧ n = .int .i64 (V k) ∧ V k ≤ 1099511627776) (fun _ i => s.size - (intOf i).toNat)
            case atStart => exact ⟨0, Nat.zero_le _, by go_num, by rw [HV0.out], by rw [HV0.out]; decide⟩
            case round =>
              obtain ⟨k, hk, rfl, rfl, hVk⟩ := hrel
              have hV0 := HNN.out k hk
              obtain ⟨i, hi⟩ : ∃ i, i = a + k := ⟨_, rfl⟩
              rw [← hi]
              have HI : Hid (i = a + k) := hi
              by_cases hkd : k < D
              · have his : i < s.size := by omega
                have hd := HD1.out k hkd
                rw [← hi, ← byteAt_bAt, ← byteAt_eq s i his] at hd
                obtain ⟨e1, e2⟩ := dgt_iff.1 hd
                have HS : Hid (V (k + 1) = 10 * V k + ((s[i].toNat : Int) - 48)) := by
                  have := HSU.out k
                  rw [← hi, ← byteAt_bAt, ← byteAt_eq s i his] at this
                  exact this
                clear hd hi
                by_cases hbig : 10 * V k + ((s[i].toNat : Int) - 48) ≤ 1099511627776
                · generalize V k = X at *
                  go_wp2_with (first | (go_at_call 12; first | (refine Calls.mono (in_no _ _ _ _ ?hno) ?_; (case hno => omega); rintro e w' ⟨rfl, hww⟩; obtain rfl := hww.symm) | (refine Calls.mono (in_yes _ _ _ _ ?hy1 ?hy2) ?_; (case hy1 => omega); (case hy2 => omega); rintro e w' ⟨rfl, hww⟩; obtain rfl := hww.symm)))
                  go_round
                  case rel => exact ⟨k + 1, by omega, by rw [HI.out]; go_num, by rw [HS.out], by rw [HS.out]; exact hbig⟩
                  case measure => simp [intOf]; omega
                · have hD : ¬ V D ≤ 1099511627776 := by
                    have h1 := HMO.out (k + 1) D hkd (Nat.le_refl _)
                    rw [HS.out] at h1
                    omega
                  rw [if_neg hD] at HER HTK
                  have HR : Hid (cutT s.data.toList = [] ∧ cutP s.data.toList = a ∧ cutE s.data.toList = 2) := HER.out (show ¬ (2 : Int) = 0 by decide)
                  clear HER HTK HS hD
                  generalize V k = X at *
                  go_wp2_with (first | (go_at_call 12; first | (refine Calls.mono (in_no _ _ _ _ ?hno) ?_; (case hno => omega); rintro e w' ⟨rfl, hww⟩; obtain rfl := hww.symm) | (refine Calls.mono (in_yes _ _ _ _ ?hy1 ?hy2) ?_; (case hy1 => omega); (case hy2 => omega); rintro e w' ⟨rfl, hww⟩; obtain rfl := hww.symm)))
                  refine bodyPost_ret (v := .tuple #[.slice none 0 0, .int .i64 a, .int .i64 2]) (by simp [results, Tryd.results8, go_sem]) rfl ?_
                  exact ⟨_, by rw [HR.out.2.1, HR.out.2.2], by rw [HR.out.1]; exact ToksOwn.nil _ _, HB.out⟩
              · have e : k = D := by omega
                subst e
                rw [if_pos hVk] at HER HTK
                have HC2 : Hid (CutTo s.data.toList (L ++ [⟨2, ⟨#[]⟩, V k⟩]) (a + k)) := HTK.out rfl
                have HDD : Hid (i < s.size → dgt (bAt s.data.toList i) = false) := by rw [hi]; exact HD2.out
                have hik : a + 1 ≤ i := by omega
                have hil : i ≤ s.size := by omega
                clear HER HTK hkd hi hk
                by_cases his : i < s.size
                · have hd := HDD.out his
                  rw [← byteAt_bAt, ← byteAt_eq s i his] at hd
                  have hdn : (s[i].toNat : Int) < 48 ∨ 57 < (s[i].toNat : Int) := by
                    have : ¬ (48 ≤ (s[i].toNat : Int) ∧ (s[i].toNat : Int) ≤ 57) := fun h => by rw [dgt_iff.2 h] at hd; exact absurd hd (by decide)
                    omega
                  have hub2 := byte_le s[i]
                  clear hd HDD
                  generalize V k = X at *
                  go_wp2_with (first
                    | (go_at_call 12; first | (refine Calls.mono (in_no _ _ _ _ ?hno) ?_; (case hno => omega); rintro e w' ⟨rfl, hww⟩; obtain rfl := hww.symm) | (refine Calls.mono (in_yes _ _ _ _ ?hy1 ?hy2) ?_; (case hy1 => omega); (case hy2 => omega); rintro e w' ⟨rfl, hww⟩; obtain rfl := hww.symm))
                    | (at_builtin; refine wpList_append_own _ rfl (.tmp 89) (.tmp 92) 27 rfl w.heap.size 23 i0 _ 3 32 Tryd.underlying27 hi0 hz0 hz1 hz2 rfl (by decide) _ _ _ rfl (World.ownsRow.alloc HV.out _) ⟨wr.heap.size, 0, none⟩ 1 1 (tokC ⟨2, ⟨#[]⟩, X⟩) rfl rfl (elemT_in ⟨2, ⟨#[]⟩, X⟩) (elemT_one _) (by unfold maxLen; omega) (by omega) (by simp <;> omega) ?_; intro v6 w6 hown6 hgrow6 _; obtain ⟨va6, vc6, rfl⟩ := own_shape hown6; have HV6 : Hid (w6.ownsRow w.heap.size 23 3 (.slice va6 (L.length + 1) vc6) (L.length + 1) (tokCells L ++ tokC ⟨2, ⟨#[]⟩, X⟩)) := hown6; have HB6 : Hid (Below w.heap.size w w6) := (HB.out.alloc hzr _).grown hgrow6 (by simp <;> omega) (fun z hz => (World.ownsRow.lt HV.out z hz).1); clear hown6 hgrow6))
                  go_roundw
                  case rel => exact ⟨a + k, L ++ [⟨2, ⟨#[]⟩, X⟩], by have := HI.out; omega, by rw [HI.out], by simp; omega, HC2.out, by unfold ToksOwn; rw [tokCells_snoc, List.length_append]; exact HV6.out, HB6.out⟩
                  case measure => simp [intOf]; omega
                · clear HDD
                  generalize V k = X at *
                  go_wp2_with (first
                    | (go_at_call 12; first | (refine Calls.mono (in_no _ _ _ _ ?hno) ?_; (case hno => omega); rintro e w' ⟨rfl, hww⟩; obtain rfl := hww.symm) | (refine Calls.mono (in_yes _ _ _ _ ?hy1 ?hy2) ?_; (case hy1 => omega); (case hy2 => omega); rintro e w' ⟨rfl, hww⟩; obtain rfl := hww.symm))
                    | (at_builtin; refine wpList_append_own _ rfl (.tmp 89) (.tmp 92) 27 rfl w.heap.size 23 i0 _ 3 32 Tryd.underlying27 hi0 hz0 hz1 hz2 rfl (by decide) _ _ _ rfl (World.ownsRow.alloc HV.out _) ⟨wr.heap.size, 0, none⟩ 1 1 (tokC ⟨2, ⟨#[]⟩, X⟩) rfl rfl (elemT_in ⟨2, ⟨#[]⟩, X⟩) (elemT_one _) (by unfold maxLen; omega) (by omega) (by simp <;> omega) ?_; intro v6 w6 hown6 hgrow6 _; obtain ⟨va6, vc6, rfl⟩ := own_shape hown6; have HV6 : Hid (w6.ownsRow w.heap.size 23 3 (.slice va6 (L.length + 1) vc6) (L.length + 1) (tokCells L ++ tokC ⟨2, ⟨#[]⟩, X⟩)) := hown6; have HB6 : Hid (Below w.heap.size w w6) := (HB.out.alloc hzr _).grown hgrow6 (by simp <;> omega) (fun z hz => (World.ownsRow.lt HV.out z hz).1); clear hown6 hgrow6))
                  go_roundw
                  case rel => exact ⟨a + k, L ++ [⟨2, ⟨#[]⟩, X⟩], by have := HI.out; omega, by rw [HI.out], by simp; omega, HC2.out, by unfold ToksOwn; rw [tokCells_snoc, List.length_append]; exact HV6.out, HB6.out⟩
                  case measure => simp [intOf]; omega
        · 
          have hw1 : wb (s[a].toNat : Int) true = true := by rw [wb_true]; exact c1
          have htk : tk (s.data.toList.drop a) = if wl (s.data.toList.drop a) true ≤ 20 then (0, ⟨1, bs ((s.data.toList.drop a).take (wl (s.data.toList.drop a) true)), 0⟩, wl (s.data.toList.drop a) true) else (10, tok0, 0) := if_pos (by rw [hb0]; exact c1)
          have CW1 : Hid (∀ W, Calls Tryd.prog 16 #[.string s, .int .i64 a] W fun e w' => e = .returned (.int .i64 ((a + wl (s.data.toList.drop a) true : Nat) : Int)) ∧ w' = W) := fun W => CW.out W a ha
          have hwl : wl (s.data.toList.drop a) true ≤ s.size - a := by
            have := wl_le (s.data.toList.drop a) true
            rw [List.length_drop] at this
            exact this
          have hx : s.extract a (a + wl (s.data.toList.drop a) true) = bs ((s.data.toList.drop a).take (wl (s.data.toList.drop a) true)) := bs_eq (ext_take _ _ _)
          have hwp := wl_pos (by rw [hb0]; exact c1) hl0
          rw [htk] at HER HTK
          clear htk hb0 hl0 c1
          generalize wl (s.data.toList.drop a) true = W at *
          generalize bs ((s.data.toList.drop a).take W) = T at *
          by_cases hW : W ≤ 20
          · rw [if_pos hW] at HER HTK
            have HC2 : Hid (CutTo s.data.toList (L ++ [⟨1, T, 0⟩]) (a + W)) := HTK.out rfl
            clear HER HTK
            go_wp2_with (first
              | (go_at_call 19; refine (wordByte_any _ _ _).mono ?_; rintro e w' ⟨rfl, hww⟩; obtain rfl := hww.symm)
              | (go_at_call 16; refine (CW1.out _).mono ?_; rintro e w' ⟨rfl, hww⟩; obtain rfl := hww.symm)
              | (at_builtin; refine wpList_append_own _ rfl (.tmp 52) (.tmp 58) 27 rfl w.heap.size 23 i0 _ 3 32 Tryd.underlying27 hi0 hz0 hz1 hz2 rfl (by decide) _ _ _ rfl (World.ownsRow.alloc HV.out _) ⟨wr.heap.size, 0, none⟩ 1 1 (tokC ⟨1, T, 0⟩) rfl rfl (elemT_in ⟨1, T, 0⟩) (elemT_one _) (by unfold maxLen; omega) (by omega) (by simp <;> omega) ?_; intro v6 w6 hown6 hgrow6 _; obtain ⟨va6, vc6, rfl⟩ := own_shape hown6; have HV6 : Hid (w6.ownsRow w.heap.size 23 3 (.slice va6 (L.length + 1) vc6) (L.length + 1) (tokCells L ++ tokC ⟨1, T, 0⟩)) := hown6; have HB6 : Hid (Below w.heap.size w w6) := (HB.out.alloc hzr _).grown hgrow6 (by simp <;> omega) (fun z hz => (World.ownsRow.lt HV.out z hz).1); clear hown6 hgrow6))
            go_roundw
            case rel => exact ⟨a + W, L ++ [⟨1, T, 0⟩], by omega, by go_num, by simp; omega, HC2.out, by unfold ToksOwn; rw [tokCells_snoc, List.length_append]; exact HV6.out, HB6.out⟩
            case measure => simp [intOf]; omega
          · rw [if_neg hW] at HER HTK
            have HR : Hid (cutT s.data.toList = [] ∧ cutP s.data.toList = a ∧ cutE s.data.toList = 10) := HER.out (show ¬ (10 : Int) = 0 by decide)
            clear HER HTK
            go_wp2_with (first
              | (go_at_call 19; refine (wordByte_any _ _ _).mono ?_; rintro e w' ⟨rfl, hww⟩; obtain rfl := hww.symm)
              | (go_at_call 16; refine (CW1.out _).mono ?_; rintro e w' ⟨rfl, hww⟩; obtain rfl := hww.symm))
            refine bodyPost_ret (v := .tuple #[.slice none 0 0, .int .i64 a, .int .i64 10]) (by simp [results, Tryd.results8, go_sem]) rfl ?_
            exact ⟨_, by rw [HR.out.2.1, HR.out.2.2], by rw [HR.out.1]; exact ToksOwn.nil _ _, HB.out⟩
      · have HC2 : Hid (CutTo s.data.toList L (a + 1)) := HCUT.out.blank1 hlt (by rw [hbe]; exact hbk)
        have hbk' := bk_yes hbk
        clear hbk hbe HCUT
        rcases hbk' with b1 | ⟨b1, b2⟩ | ⟨b1, b2, b3⟩
        all_goals
          go_wp2
          go_roundw
          case rel => exact ⟨a + 1, L, by omega, by go_num, hL, HC2.out, HV.out, HB.out⟩
          case measure => simp [intOf]; omega
    · have HR : Hid (cutT s.data.toList = L ∧ cutP s.data.toList = 0 ∧ cutE s.data.toList = 0) := HCUT.out.done H1.out (by omega)
      go_wp2
      refine bodyPost_ret (v := .tuple #[.slice va L.length vc, .int .i64 0, .int .i64 0]) (by simp [results, Tryd.results8, go_sem]) rfl ?_
      exact ⟨_, by rw [HR.out.2.1, HR.out.2.2]; rfl, by rw [HR.out.1]; exact HV.out, HB.out⟩
end Go.Proofs.YtcppodmgeonabaaDoor
