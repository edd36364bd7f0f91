/-
  CONTRACT of the document's answer to Show: pleacherref.EventsText.
-/
import Derived.Test.YtjhmkffihindlaaDoorShow
import Derived.Deep.RegionWith
import Derived.Deep.QuietTactic
import Derived.BigQuiet
set_option linter.unusedVariables false
namespace Go.Proofs.YtjhmkffihindlaaDoor
open Go.RowKit

set_option maxHeartbeats 800000 in
set_option maxRecDepth 100000 in
theorem text_refused (b off n cap : Nat) (E : Nat → Ev) (w : World) (hcap : n ≤ cap) (hm : cap ≤ Go.maxLen) (henv : Env w) (hb0 : b < w.heap.size) (hE : EvsAt w b off n E)
    (hsz : ∀ i, i < n → (E i).name.size ≤ Go.maxLen ∧ (E i).value.size ≤ Go.maxLen) (hc : ¬ checkN E n = 0) :
    Calls Tryd.prog 15 #[.slice (some ⟨b, off, none⟩) n cap] w fun e w' => e = .returned (.tuple #[.string ⟨#[]⟩, .int .i64 (checkN E n)]) ∧ Below w.heap.size w w' := by
  have CC : Hid (Calls Tryd.prog 11 #[.slice (some ⟨b, off, none⟩) n cap] w fun e w' => e = .returned (.int .i64 (checkN E n)) ∧ Below w.heap.size w w') := fault_any b off n cap E w hcap hm henv hb0 hE hsz
  have hne : (checkN E n != 0) = true := by simpa using hc
  clear hE hsz henv hc
  go_enter Tryd.func15, Tryd.ntmps15
  go_wp2_with (first | (go_at_call 11; refine CC.out.mono ?_; rintro e w1 ⟨rfl, hb⟩))
  go_ret2
  exact ⟨rfl, hb⟩

set_option maxHeartbeats 1600000 in
theorem escaped_same (s : ByteArray) (w : World) (hs : s.size ≤ 1099511627776) :
    Calls Tryd.prog 13 #[.string s] w fun e w' => e = .returned (.string ⟨(escL s.data.toList).toArray⟩) ∧ w' = w := by
  go_enter Tryd.func13, Tryd.ntmps13
  go_wp2
  go_loop [3, 4] (fun o i => ∃ (k : Nat) (t : ByteArray), k ≤ s.size ∧ i = .int .i64 k ∧ o = .string t ∧ t.data.toList = escL (s.data.toList.take k)) (fun _ i => s.size - (intOf i).toNat)
  case atStart => exact ⟨0, _, Nat.zero_le _, rfl, rfl, rfl⟩
  case round =>
    obtain ⟨k, t, hk, rfl, rfl, htl⟩ := hrel
    have HT : Hid (t.data.toList = escL (s.data.toList.take k)) := htl
    have hts : t.size ≤ 6597069766656 := by
      have h1 := esc_le s k hk
      rw [← htl] at h1
      have h2 : t.data.toList.length = t.size := rfl
      omega
    clear htl
    by_cases hlt : k < s.size
    · go_wp2
      all_goals
        go_round
        case rel => exact ⟨k + 1, _, by omega, by go_num, rfl, by first | exact way_amp hlt HT.out ‹_› | exact way_lt hlt HT.out ‹_› | exact way_gt hlt HT.out ‹_› | exact way_quot hlt HT.out ‹_› | exact way_else hlt HT.out ‹_› ‹_› ‹_› ‹_›⟩
        case measure => simp [intOf]; omega
    · have hke : k = s.size := by omega
      have HF : Hid (t.data.toList = escL s.data.toList) := by
        have e : t.data.toList = escL s.data.toList := by rw [HT.out, hke, esc_all]
        exact e
      clear hke
      go_wp2
      go_ret
      exact ⟨str_eq HF.out, rfl⟩
theorem tag_cases (k : Int) : ((k == 1) = true ∧ inTagB k = true) ∨ ((k == 1) = false ∧ (k == 2) = true ∧ inTagB k = true) ∨ ((k == 1) = false ∧ (k == 2) = false ∧ inTagB k = false) := by
  by_cases h1 : k = 1
  · left; subst h1; decide
  · by_cases h2 : k = 2
    · right; left; subst h2; decide
    · right; right
      refine ⟨by simpa using h1, by simpa using h2, ?_⟩
      simp [inTagB, h1, h2]
theorem attr_in_tag {E : Nat → Ev} {m : Nat} (h : okTo E (m + 1 + 1)) (hk : (E (m + 1)).kind = 2) : inTagB (E m).kind = true := by
  have h0 := h (m + 1) (by omega)
  have h1 := errAt_evF (E := E) (k := m + 1) rfl (fun j hj => h j (by omega))
  obtain ⟨a1, a2, a3, a4⟩ := err_zero h0
  rw [stAt_i] at a2
  rw [h0, evF_kinds a1 a2 a3 a4, hk] at h1
  cases ht : inTagB (E m).kind with
  | true => rfl
  | false => simp [attrF, ht] at h1
theorem str_tuple {a b : ByteArray} (h : a.data.toList = b.data.toList) : Ending.returned (.tuple #[.string a, .int .i64 0]) = .returned (.tuple #[.string b, .int .i64 0]) := by
  have : a = b := by
    cases a; cases b
    simpa using h
  rw [this]

set_option maxHeartbeats 16000000 in
set_option maxRecDepth 100000 in
theorem text_some (b off n cap : Nat) (E : Nat → Ev) (w : World) (hn : n ≤ 400) (hcap : n ≤ cap) (hm : cap ≤ Go.maxLen) (henv : Env w) (hb0 : b < w.heap.size) (hE : EvsAt w b off n E)
    (hsz : ∀ i, i < n → (E i).name.size ≤ Go.maxLen ∧ (E i).value.size ≤ Go.maxLen) (hc : checkN E n = 0) (hok : okTo E n) :
    Calls Tryd.prog 15 #[.slice (some ⟨b, off, none⟩) n cap] w fun e w' => e = .returned (.tuple #[.string ⟨(showR E n).toArray⟩, .int .i64 0]) ∧ Below w.heap.size w w' := by
  have CC : Hid (Calls Tryd.prog 11 #[.slice (some ⟨b, off, none⟩) n cap] w fun e w' => e = .returned (.int .i64 0) ∧ Below w.heap.size w w') := by
    have h := fault_any b off n cap E w hcap hm henv hb0 hE hsz
    rw [hc] at h
    exact h
  have HE : Hid (EvsAt w b off n E) := hE
  have HOK : Hid (okTo E n) := hok
  clear hE hsz henv hc hok
  go_enter Tryd.func15, Tryd.ntmps15
  go_wp2_with (first | (go_at_call 11; refine CC.out.mono ?_; rintro e w1 ⟨rfl, hb⟩))
  have HB1 : Hid (Below w.heap.size w w1) := hb
  clear hb CC
  go_loopw [5, 6, 7] (fun s o i wr => ∃ (k : Nat) (t : ByteArray), k ≤ n ∧ i = .int .i64 k ∧ s = .string t ∧ t.data.toList = showR E k ∧ NamesIs wr w.heap.size o (names E k) ∧ Below w.heap.size w wr) (fun _ _ i _ => n - (intOf i).toNat)
  case atStart => exact ⟨0, _, Nat.zero_le _, rfl, rfl, rfl, World.ownsRow_nil _ _ _ _, HB1.out⟩
  case round =>
    obtain ⟨k, t, hk, rfl, rfl, htl, hnm, hbr⟩ := hrel
    obtain ⟨a, cp, rfl⟩ := hnm.shape
    have HNM : Hid (NamesIs wr w.heap.size (.slice a (names E k).length cp) (names E k)) := hnm
    have HBR : Hid (Below w.heap.size w wr) := hbr
    have HT : Hid (t.data.toList = showR E k) := htl
    have hzr : w.heap.size ≤ wr.heap.size := hbr.size
    have hdk : (names E k).length ≤ k := by rw [names_len]; exact d_inv k
    have hts : t.size ≤ 52000000 := by
      have h1 := show_len (E := E) (k := k) (fun j hj => HOK.out j (by omega))
      rw [← htl] at h1
      have h2 : t.data.toList.length = t.size := rfl
      omega
    generalize hdd : (names E k).length = d at *
    have HL : Hid ((names E k).length = d) := hdd
    by_cases hlt : k < n
    · obtain ⟨e1, e2, e3⟩ := HE.out.below hbr hb0 k hlt
      have HK0 : Hid (errAt E k = 0) := HOK.out k hlt
      have hvz : (E k).value.size ≤ 20000 := value_small HK0.out
      have HEL : Hid ((escL (E k).value.data.toList).length ≤ 120000) := by
        have e : (escL (E k).value.data.toList).length ≤ 120000 := by
          have h9 := escL_len (E k).value.data.toList
          have h8 : (E k).value.data.toList.length = (E k).value.size := rfl
          omega
        exact e
      have CE : Hid (∀ W, Calls Tryd.prog 13 #[.string (E k).value] W fun e w' => ∃ s2 : ByteArray, e = .returned (.string s2) ∧ s2.size ≤ 120000 ∧ Hid (s2.data.toList = escL (E k).value.data.toList) ∧ Below W.heap.size W w') :=
        fun W => (escaped_any (E k).value W (by omega)).mono fun e w' h => ⟨_, h.1, HEL.out, rfl, h.2⟩
      have HSH : Hid (showR E (k + 1) = showR E k ++ (gt E k ++ body E k)) := rfl
      have hkk : (E k).kind = 1 ∨ (E k).kind = 2 ∨ (E k).kind = 3 ∨ (E k).kind = 4 ∨ (E k).kind = 5 := by have := (err_zero HK0.out).1; omega
      obtain ⟨i0, hi0, hz0, hz1', hz2'⟩ := info_parts Tryd.info9
      have HOWN : Hid (wr.ownsRow w.heap.size 9 1 (.slice a d cp) d ((names E k).map Value.string)) := by
        have h := HNM.out
        unfold NamesIs at h
        rw [HL.out] at h
        exact h
      clear hnm hbr hdd htl
      rcases Nat.eq_zero_or_pos k with hk0 | hk0
      · subst hk0
        simp only [Nat.zero_mul, Nat.add_zero] at e1 e2 e3
        have HK1 : Hid ((E 0).kind = 1) := first_start (k := 1) (fun j hj => HOK.out j (by omega)) (by omega)
        rw [HK1.out] at e1
        have hnz : (E 0).name.size ≤ 20 := name_small HK0.out (.inl HK1.out)
        have HSR : Hid (showR E (0 + 1) = showR E 0 ++ ([60] ++ (E 0).name.data.toList)) := by
          have e : showR E (0 + 1) = showR E 0 ++ ([60] ++ (E 0).name.data.toList) := by
            rw [HSH.out]
            simp [gt, gtB, body, HK1.out]
          exact e
        clear hkk
        go_wp2_with (first | (at_builtin; refine wpList_append_own _ rfl _ _ 45 rfl w.heap.size 9 i0 _ 1 16 Tryd.underlying45 hi0 hz0 hz1' hz2' rfl (by decide) _ _ _ rfl (HOWN.out.alloc _) ⟨wr.heap.size, 0, none⟩ 1 1 [.string (E 0).name] rfl rfl ?c1z ?c2z ?c3z ?c4z ?c5z ?_))
        case c1z =>
          intro j u hj
          match j, hj with
          | 0, hj => simp at hj; subst hj; simp [Addr.add]
        case c2z => first | rfl | (intro u hu; simp at hu; subst hu; rfl)
        case c3z => unfold maxLen; omega
        case c4z => omega
        case c5z => simp; omega
        intro v' w2 hown' hgrow _
        have HN2 : Hid (NamesIs w2 w.heap.size v' (names E (0 + 1))) := by
          rw [names_push HK1.out]
          exact NamesIs.pushed HL.out hown'
        have HL2 : Hid (Below w.heap.size w w2) := (HBR.out.alloc hzr _).grown hgrow (by simp; omega) (fun q hq => (HOWN.out.lt q hq).1)
        clear hown' hgrow
        go_wp2
        go_roundw
        case rel => exact ⟨0 + 1, _, by omega, by go_num, rfl, by rw [HSR.out, data_app, data_app, HT.out]; simp, HN2.out, HL2.out⟩
        case measure => simp [intOf]; omega
      · obtain ⟨m, rfl⟩ : ∃ m, k = m + 1 := ⟨k - 1, by omega⟩
        obtain ⟨p1, p2, p3⟩ := HE.out.below HBR.out hb0 m (by omega)
        have hmi : (0 : Int) < (m : Int) + 1 := by omega
        clear p2 p3 hk0
        rcases hkk with hk1 | hk1 | hk1 | hk1 | hk1
        · have HK1 : Hid ((E (m + 1)).kind = 1) := hk1
          rw [hk1] at e1
          clear hk1
          have hnz : (E (m + 1)).name.size ≤ 20 := name_small HK0.out (.inl HK1.out)
          rcases tag_cases (E m).kind with ⟨q1, q3⟩ | ⟨q1, q2, q3⟩ | ⟨q1, q2, q3⟩
          · skip
            have HSR : Hid (showR E (m + 1 + 1) = showR E (m + 1) ++ ([62] ++ ([60] ++ (E (m + 1)).name.data.toList))) := by
              have e : showR E (m + 1 + 1) = showR E (m + 1) ++ ([62] ++ ([60] ++ (E (m + 1)).name.data.toList)) := by
                rw [HSH.out]
                simp [gt, gtB, body, HK1.out, q3]
              exact e
            clear q3
            go_wp2_with (first | (at_builtin; refine wpList_append_own _ rfl _ _ 45 rfl w.heap.size 9 i0 _ 1 16 Tryd.underlying45 hi0 hz0 hz1' hz2' rfl (by decide) _ _ _ rfl (HOWN.out.alloc _) ⟨wr.heap.size, 0, none⟩ 1 1 [.string (E (m + 1)).name] rfl rfl ?c1k1a ?c2k1a ?c3k1a ?c4k1a ?c5k1a ?_))
            case c1k1a =>
              intro j u hj
              match j, hj with
              | 0, hj => simp at hj; subst hj; simp [Addr.add]
            case c2k1a => first | rfl | (intro u hu; simp at hu; subst hu; rfl)
            case c3k1a => unfold maxLen; omega
            case c4k1a => omega
            case c5k1a => simp; omega
            intro v' w2 hown' hgrow _
            have HN2 : Hid (NamesIs w2 w.heap.size v' (names E (m + 1 + 1))) := by
              rw [names_push HK1.out]
              exact NamesIs.pushed HL.out hown'
            have HL2 : Hid (Below w.heap.size w w2) := (HBR.out.alloc hzr _).grown hgrow (by simp; omega) (fun q hq => (HOWN.out.lt q hq).1)
            clear hown' hgrow
            go_wp2
            go_roundw
            case rel => exact ⟨m + 1 + 1, _, by omega, by go_num, rfl, by rw [HSR.out]; simp [HT.out], HN2.out, HL2.out⟩
            case measure => simp [intOf]; omega
          · skip
            have HSR : Hid (showR E (m + 1 + 1) = showR E (m + 1) ++ ([62] ++ ([60] ++ (E (m + 1)).name.data.toList))) := by
              have e : showR E (m + 1 + 1) = showR E (m + 1) ++ ([62] ++ ([60] ++ (E (m + 1)).name.data.toList)) := by
                rw [HSH.out]
                simp [gt, gtB, body, HK1.out, q3]
              exact e
            clear q3
            go_wp2_with (first | (at_builtin; refine wpList_append_own _ rfl _ _ 45 rfl w.heap.size 9 i0 _ 1 16 Tryd.underlying45 hi0 hz0 hz1' hz2' rfl (by decide) _ _ _ rfl (HOWN.out.alloc _) ⟨wr.heap.size, 0, none⟩ 1 1 [.string (E (m + 1)).name] rfl rfl ?c1k1b ?c2k1b ?c3k1b ?c4k1b ?c5k1b ?_))
            case c1k1b =>
              intro j u hj
              match j, hj with
              | 0, hj => simp at hj; subst hj; simp [Addr.add]
            case c2k1b => first | rfl | (intro u hu; simp at hu; subst hu; rfl)
            case c3k1b => unfold maxLen; omega
            case c4k1b => omega
            case c5k1b => simp; omega
            intro v' w2 hown' hgrow _
            have HN2 : Hid (NamesIs w2 w.heap.size v' (names E (m + 1 + 1))) := by
              rw [names_push HK1.out]
              exact NamesIs.pushed HL.out hown'
            have HL2 : Hid (Below w.heap.size w w2) := (HBR.out.alloc hzr _).grown hgrow (by simp; omega) (fun q hq => (HOWN.out.lt q hq).1)
            clear hown' hgrow
            go_wp2
            go_roundw
            case rel => exact ⟨m + 1 + 1, _, by omega, by go_num, rfl, by rw [HSR.out]; simp [HT.out], HN2.out, HL2.out⟩
            case measure => simp [intOf]; omega
          · skip
            have HSR : Hid (showR E (m + 1 + 1) = showR E (m + 1) ++ ([] ++ ([60] ++ (E (m + 1)).name.data.toList))) := by
              have e : showR E (m + 1 + 1) = showR E (m + 1) ++ ([] ++ ([60] ++ (E (m + 1)).name.data.toList)) := by
                rw [HSH.out]
                simp [gt, gtB, body, HK1.out, q3]
              exact e
            clear q3
            go_wp2_with (first | (at_builtin; refine wpList_append_own _ rfl _ _ 45 rfl w.heap.size 9 i0 _ 1 16 Tryd.underlying45 hi0 hz0 hz1' hz2' rfl (by decide) _ _ _ rfl (HOWN.out.alloc _) ⟨wr.heap.size, 0, none⟩ 1 1 [.string (E (m + 1)).name] rfl rfl ?c1k1c ?c2k1c ?c3k1c ?c4k1c ?c5k1c ?_))
            case c1k1c =>
              intro j u hj
              match j, hj with
              | 0, hj => simp at hj; subst hj; simp [Addr.add]
            case c2k1c => first | rfl | (intro u hu; simp at hu; subst hu; rfl)
            case c3k1c => unfold maxLen; omega
            case c4k1c => omega
            case c5k1c => simp; omega
            intro v' w2 hown' hgrow _
            have HN2 : Hid (NamesIs w2 w.heap.size v' (names E (m + 1 + 1))) := by
              rw [names_push HK1.out]
              exact NamesIs.pushed HL.out hown'
            have HL2 : Hid (Below w.heap.size w w2) := (HBR.out.alloc hzr _).grown hgrow (by simp; omega) (fun q hq => (HOWN.out.lt q hq).1)
            clear hown' hgrow
            go_wp2
            go_roundw
            case rel => exact ⟨m + 1 + 1, _, by omega, by go_num, rfl, by rw [HSR.out]; simp [HT.out], HN2.out, HL2.out⟩
            case measure => simp [intOf]; omega
        · have HK1 : Hid ((E (m + 1)).kind = 2) := hk1
          rw [hk1] at e1
          clear hk1
          have hnz : (E (m + 1)).name.size ≤ 20 := name_small HK0.out (.inr HK1.out)
          have hat := attr_in_tag (m := m) (fun j hj => HOK.out j (by omega)) HK1.out
          rcases tag_cases (E m).kind with ⟨q1, q3⟩ | ⟨q1, q2, q3⟩ | ⟨q1, q2, q3⟩
          · skip
            have HSR : Hid (showR E (m + 1 + 1) = showR E (m + 1) ++ ([] ++ ([32] ++ (E (m + 1)).name.data.toList ++ [61, 34] ++ escL (E (m + 1)).value.data.toList ++ [34]))) := by
              have e : showR E (m + 1 + 1) = showR E (m + 1) ++ ([] ++ ([32] ++ (E (m + 1)).name.data.toList ++ [61, 34] ++ escL (E (m + 1)).value.data.toList ++ [34])) := by
                rw [HSH.out]
                simp [gt, gtB, body, HK1.out]
              exact e
            clear q3 hat
            obtain ⟨s2, hs2e⟩ : ∃ s2 : ByteArray, s2 = ⟨(escL (E (m + 1)).value.data.toList).toArray⟩ := ⟨_, rfl⟩
            have C2 : Hid (∀ W, Calls Tryd.prog 13 #[.string (E (m + 1)).value] W fun e w' => e = .returned (.string s2) ∧ w' = W) := by
              intro W
              rw [hs2e]
              exact escaped_same _ W (by omega)
            have hs2 : s2.size ≤ 120000 := by rw [hs2e]; exact HEL.out
            have HS2 : Hid (s2.data.toList = escL (E (m + 1)).value.data.toList) := by
              have e : s2.data.toList = escL (E (m + 1)).value.data.toList := by rw [hs2e]
              exact e
            have hji : (m : Int) + 1 < (n : Int) := by omega
            have hj2 : m + 1 < n := by omega
            clear hs2e CE
            go_wp2
            go_quiet ((go_at_call 13; exact Calls.quiet_of_same (C2.out _)))
            go_wp2
            go_roundw
            case rel => exact ⟨m + 1 + 1, _, by omega, by go_num, rfl, by rw [HSR.out]; simp [HT.out, HS2.out], by rw [names_keep (by rw [HK1.out]; decide) (by rw [HK1.out]; decide)]; exact names_heap HNM.out rfl, below_drewN HBR.out _⟩
            case measure => simp [intOf]; omega
          · skip
            have HSR : Hid (showR E (m + 1 + 1) = showR E (m + 1) ++ ([] ++ ([32] ++ (E (m + 1)).name.data.toList ++ [61, 34] ++ escL (E (m + 1)).value.data.toList ++ [34]))) := by
              have e : showR E (m + 1 + 1) = showR E (m + 1) ++ ([] ++ ([32] ++ (E (m + 1)).name.data.toList ++ [61, 34] ++ escL (E (m + 1)).value.data.toList ++ [34])) := by
                rw [HSH.out]
                simp [gt, gtB, body, HK1.out]
              exact e
            clear q3 hat
            obtain ⟨s2, hs2e⟩ : ∃ s2 : ByteArray, s2 = ⟨(escL (E (m + 1)).value.data.toList).toArray⟩ := ⟨_, rfl⟩
            have C2 : Hid (∀ W, Calls Tryd.prog 13 #[.string (E (m + 1)).value] W fun e w' => e = .returned (.string s2) ∧ w' = W) := by
              intro W
              rw [hs2e]
              exact escaped_same _ W (by omega)
            have hs2 : s2.size ≤ 120000 := by rw [hs2e]; exact HEL.out
            have HS2 : Hid (s2.data.toList = escL (E (m + 1)).value.data.toList) := by
              have e : s2.data.toList = escL (E (m + 1)).value.data.toList := by rw [hs2e]
              exact e
            have hji : (m : Int) + 1 < (n : Int) := by omega
            have hj2 : m + 1 < n := by omega
            clear hs2e CE
            go_wp2
            go_quiet ((go_at_call 13; exact Calls.quiet_of_same (C2.out _)))
            go_wp2
            go_roundw
            case rel => exact ⟨m + 1 + 1, _, by omega, by go_num, rfl, by rw [HSR.out]; simp [HT.out, HS2.out], by rw [names_keep (by rw [HK1.out]; decide) (by rw [HK1.out]; decide)]; exact names_heap HNM.out rfl, below_drewN HBR.out _⟩
            case measure => simp [intOf]; omega
          · rw [q3] at hat; cases hat
        · have HK1 : Hid ((E (m + 1)).kind = 3) := hk1
          rw [hk1] at e1
          clear hk1
          rcases tag_cases (E m).kind with ⟨q1, q3⟩ | ⟨q1, q2, q3⟩ | ⟨q1, q2, q3⟩
          · skip
            have HSR : Hid (showR E (m + 1 + 1) = showR E (m + 1) ++ ([62] ++ (escL (E (m + 1)).value.data.toList))) := by
              have e : showR E (m + 1 + 1) = showR E (m + 1) ++ ([62] ++ (escL (E (m + 1)).value.data.toList)) := by
                rw [HSH.out]
                simp [gt, gtB, body, HK1.out, q3]
              exact e
            clear q3
            go_wp2_with (first | (go_at_call 13; refine (CE.out _).mono ?_; rintro e w2 ⟨s2, rfl, hs2, HS2, hb2⟩))
            go_roundw
            case rel => exact ⟨m + 1 + 1, _, by omega, by go_num, rfl, by rw [HSR.out]; simp [HT.out, HS2.out], by rw [names_keep (by rw [HK1.out]; decide) (by rw [HK1.out]; decide)]; exact HNM.out.below hb2, below_chain HBR.out hb2 hzr⟩
            case measure => simp [intOf]; omega
          · skip
            have HSR : Hid (showR E (m + 1 + 1) = showR E (m + 1) ++ ([62] ++ (escL (E (m + 1)).value.data.toList))) := by
              have e : showR E (m + 1 + 1) = showR E (m + 1) ++ ([62] ++ (escL (E (m + 1)).value.data.toList)) := by
                rw [HSH.out]
                simp [gt, gtB, body, HK1.out, q3]
              exact e
            clear q3
            go_wp2_with (first | (go_at_call 13; refine (CE.out _).mono ?_; rintro e w2 ⟨s2, rfl, hs2, HS2, hb2⟩))
            go_roundw
            case rel => exact ⟨m + 1 + 1, _, by omega, by go_num, rfl, by rw [HSR.out]; simp [HT.out, HS2.out], by rw [names_keep (by rw [HK1.out]; decide) (by rw [HK1.out]; decide)]; exact HNM.out.below hb2, below_chain HBR.out hb2 hzr⟩
            case measure => simp [intOf]; omega
          · skip
            have HSR : Hid (showR E (m + 1 + 1) = showR E (m + 1) ++ ([] ++ (escL (E (m + 1)).value.data.toList))) := by
              have e : showR E (m + 1 + 1) = showR E (m + 1) ++ ([] ++ (escL (E (m + 1)).value.data.toList)) := by
                rw [HSH.out]
                simp [gt, gtB, body, HK1.out, q3]
              exact e
            clear q3
            go_wp2_with (first | (go_at_call 13; refine (CE.out _).mono ?_; rintro e w2 ⟨s2, rfl, hs2, HS2, hb2⟩))
            go_roundw
            case rel => exact ⟨m + 1 + 1, _, by omega, by go_num, rfl, by rw [HSR.out]; simp [HT.out, HS2.out], by rw [names_keep (by rw [HK1.out]; decide) (by rw [HK1.out]; decide)]; exact HNM.out.below hb2, below_chain HBR.out hb2 hzr⟩
            case measure => simp [intOf]; omega
        · have HK1 : Hid ((E (m + 1)).kind = 4) := hk1
          rw [hk1] at e1
          clear hk1
          rcases tag_cases (E m).kind with ⟨q1, q3⟩ | ⟨q1, q2, q3⟩ | ⟨q1, q2, q3⟩
          · skip
            have HSR : Hid (showR E (m + 1 + 1) = showR E (m + 1) ++ ([62] ++ ([60, 33, 45, 45] ++ (E (m + 1)).value.data.toList ++ [45, 45, 62]))) := by
              have e : showR E (m + 1 + 1) = showR E (m + 1) ++ ([62] ++ ([60, 33, 45, 45] ++ (E (m + 1)).value.data.toList ++ [45, 45, 62])) := by
                rw [HSH.out]
                simp [gt, gtB, body, HK1.out, q3]
              exact e
            clear q3
            go_wp2
            go_roundw
            case rel => exact ⟨m + 1 + 1, _, by omega, by go_num, rfl, by rw [HSR.out]; simp [HT.out], by rw [names_keep (by rw [HK1.out]; decide) (by rw [HK1.out]; decide)]; exact HNM.out, HBR.out⟩
            case measure => simp [intOf]; omega
          · skip
            have HSR : Hid (showR E (m + 1 + 1) = showR E (m + 1) ++ ([62] ++ ([60, 33, 45, 45] ++ (E (m + 1)).value.data.toList ++ [45, 45, 62]))) := by
              have e : showR E (m + 1 + 1) = showR E (m + 1) ++ ([62] ++ ([60, 33, 45, 45] ++ (E (m + 1)).value.data.toList ++ [45, 45, 62])) := by
                rw [HSH.out]
                simp [gt, gtB, body, HK1.out, q3]
              exact e
            clear q3
            go_wp2
            go_roundw
            case rel => exact ⟨m + 1 + 1, _, by omega, by go_num, rfl, by rw [HSR.out]; simp [HT.out], by rw [names_keep (by rw [HK1.out]; decide) (by rw [HK1.out]; decide)]; exact HNM.out, HBR.out⟩
            case measure => simp [intOf]; omega
          · skip
            have HSR : Hid (showR E (m + 1 + 1) = showR E (m + 1) ++ ([] ++ ([60, 33, 45, 45] ++ (E (m + 1)).value.data.toList ++ [45, 45, 62]))) := by
              have e : showR E (m + 1 + 1) = showR E (m + 1) ++ ([] ++ ([60, 33, 45, 45] ++ (E (m + 1)).value.data.toList ++ [45, 45, 62])) := by
                rw [HSH.out]
                simp [gt, gtB, body, HK1.out, q3]
              exact e
            clear q3
            go_wp2
            go_roundw
            case rel => exact ⟨m + 1 + 1, _, by omega, by go_num, rfl, by rw [HSR.out]; simp [HT.out], by rw [names_keep (by rw [HK1.out]; decide) (by rw [HK1.out]; decide)]; exact HNM.out, HBR.out⟩
            case measure => simp [intOf]; omega
        · have HK1 : Hid ((E (m + 1)).kind = 5) := hk1
          rw [hk1] at e1
          clear hk1
          have hd1 : 0 < d := by
            have q := (err_zero HK0.out).2.1
            have q2 := names_len E (m + 1)
            have q3 := HL.out
            have q4 := HK1.out
            by_cases c : (stAt E (m + 1)).d = 0
            · exact absurd ⟨c, .inl (by omega)⟩ q
            · omega
          obtain ⟨c, rfl⟩ : ∃ c, d = c + 1 := ⟨d - 1, by omega⟩
          obtain ⟨g, cp', hv, hg1, hg2, hg3, hg4, hcl, hpop⟩ := HNM.out.pop (by rw [HL.out]; omega)
          rw [HL.out] at hv hg3 hcl hpop
          injection hv with hv1 _ hv2
          subst hv1 hv2
          rw [Nat.add_sub_cancel] at hcl hpop
          have htop : (names E (m + 1)).getLast?.getD ⟨#[]⟩ = topName E (m + 1) := rfl
          rw [htop] at hcl
          clear htop
          have hts2 : (topName E (m + 1)).size ≤ 20 := top_small (E := E) (k := m + 1) (fun j hj => HOK.out j (by omega))
          have HPO : Hid (NamesIs wr w.heap.size (.slice (some ⟨g, 0, none⟩) c cp) (names E (m + 1 + 1))) := by
            rw [names_pop HK1.out]
            exact hpop
          have hcc : (c : Int) ≤ (cp : Int) := by omega
          have hcc2 : c ≤ cp := by omega
          have hc4 : c < 400 := by omega
          clear hpop hg1 hg4
          rcases tag_cases (E m).kind with ⟨q1, q3⟩ | ⟨q1, q2, q3⟩ | ⟨q1, q2, q3⟩
          · skip
            have HSR : Hid (showR E (m + 1 + 1) = showR E (m + 1) ++ ([] ++ ([47, 62]))) := by
              have e : showR E (m + 1 + 1) = showR E (m + 1) ++ ([] ++ ([47, 62])) := by
                rw [HSH.out]
                simp [gt, gtB, body, HK1.out, q3]
              exact e
            clear q3
            go_wp2
            go_roundw
            case rel => exact ⟨m + 1 + 1, _, by omega, by go_num, rfl, by rw [HSR.out]; simp [HT.out], HPO.out, HBR.out⟩
            case measure => simp [intOf]; omega
          · skip
            have HSR : Hid (showR E (m + 1 + 1) = showR E (m + 1) ++ ([] ++ ([47, 62]))) := by
              have e : showR E (m + 1 + 1) = showR E (m + 1) ++ ([] ++ ([47, 62])) := by
                rw [HSH.out]
                simp [gt, gtB, body, HK1.out, q3]
              exact e
            clear q3
            go_wp2
            go_roundw
            case rel => exact ⟨m + 1 + 1, _, by omega, by go_num, rfl, by rw [HSR.out]; simp [HT.out], HPO.out, HBR.out⟩
            case measure => simp [intOf]; omega
          · skip
            have HSR : Hid (showR E (m + 1 + 1) = showR E (m + 1) ++ ([] ++ ([60, 47] ++ (topName E (m + 1)).data.toList ++ [62]))) := by
              have e : showR E (m + 1 + 1) = showR E (m + 1) ++ ([] ++ ([60, 47] ++ (topName E (m + 1)).data.toList ++ [62])) := by
                rw [HSH.out]
                simp [gt, gtB, body, HK1.out, q3]
              exact e
            clear q3
            go_wp2
            go_roundw
            case rel => exact ⟨m + 1 + 1, _, by omega, by go_num, rfl, by rw [HSR.out]; simp [HT.out], HPO.out, HBR.out⟩
            case measure => simp [intOf]; omega
    · have hke : k = n := by omega
      have HF : Hid (t.data.toList = showR E n) := by
        have e : t.data.toList = showR E n := by rw [← hke]; exact htl
        exact e
      clear hnm hbr hke hdd htl
      go_wp2
      go_ret2
      exact ⟨str_tuple HF.out, HBR.out⟩
end Go.Proofs.YtjhmkffihindlaaDoor
