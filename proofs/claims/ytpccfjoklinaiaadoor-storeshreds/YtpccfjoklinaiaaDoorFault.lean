/-
  CONTRACT of the document's answer to Check: pleacherref.EventsFault.
-/
import Derived.Test.YtpccfjoklinaiaaDoorEvent
import Derived.Test.YtpccfjoklinaiaaDoorEvRef
import Derived.Deep.RegionWith
import Derived.Deep.Cut
import Derived.Deep.CutRange
import Derived.OwnWalk
set_option linter.unusedVariables false
namespace Go.Proofs.YtpccfjoklinaiaaDoor
open Go.RowKit

theorem OpenIs.shape {w : World} {base : Nat} {v : Value} {l : List Nat} (h : OpenIs w base v l) : ∃ a cap, v = .slice a l.length cap := by
  obtain ⟨h1, ⟨rfl, h2⟩ | ⟨g, cap, cur, rfl, h2⟩⟩ := h
  · exact ⟨none, 0, by rw [h2]⟩
  · exact ⟨_, cap, rfl⟩
theorem fin_err {E : Nat → Ev} {n k : Nat} {r : Int} (hn : n ≤ 400) (hk : k < n) (ho : okTo E k) (he : errAt E k = r) (hr : r ≠ 0) : checkN E n = r := by
  rw [← he]
  exact checkN_err (by omega) hk ho (by rw [he]; exact hr)
theorem Tryd.info3 : (Tryd.prog.info? 3).map (fun i => (i.zero, i.size, i.bytes)) = some (some (.int .i64 0), 1, 8) := by kernel_rfl
/-- what is said of the event, as evF has it -/
theorem errAt_evF {E : Nat → Ev} {k d : Nat} (hd : (stAt E k).d = d) (h : okTo E k) : errAt E k = evF E k d (E k) := by
  have h2 := d_inv (E := E) k
  rw [← hd, evF_eq h (by omega)]
theorem nameOf_tag {x : Ev} (h : x.kind = 1 ∨ x.kind = 2) : nameOfF x = nameF x.name := by unfold nameOfF; rw [if_pos (show inTagB x.kind = true from decide_eq_true h)]
theorem nameOf_else {x : Ev} (h : ¬ (x.kind = 1 ∨ x.kind = 2)) : nameOfF x = if x.name.size = 0 then 0 else 4 := by unfold nameOfF; rw [if_neg (by simp [inTagB]; omega)]
theorem valueOf_se {x : Ev} (h : x.kind = 1 ∨ x.kind = 5) : valueOfF x = if x.value.size = 0 then 0 else 4 := by unfold valueOfF; rw [if_pos (show startEnd x.kind = true from decide_eq_true h)]
theorem valueOf_text {x : Ev} (h : ¬ (x.kind = 1 ∨ x.kind = 5)) : valueOfF x = textF x.value := by unfold valueOfF; rw [if_neg (by simp [startEnd]; omega)]
theorem opens_push {E : Nat → Ev} {k : Nat} (h : (E k).kind = 1) : opens E (k + 1) = opens E k ++ [k] := by simp [opens, h]
theorem opens_pop {E : Nat → Ev} {k : Nat} (h : (E k).kind = 5) : opens E (k + 1) = (opens E k).dropLast := by simp [opens, h]
theorem opens_keep {E : Nat → Ev} {k : Nat} (h1 : (E k).kind ≠ 1) (h5 : (E k).kind ≠ 5) : opens E (k + 1) = opens E k := by simp [opens, h1, h5]
theorem OpenIs.pushed {w1 : World} {base d k : Nat} {v : Value} {l : List Nat} (hl : l.length = d)
    (h : w1.ownsRow base 3 1 v (d + 1) (l.map (fun p : Nat => Value.int .i64 (p : Int)) ++ [.int .i64 k])) : OpenIs w1 base v (l ++ [k]) := by
  unfold OpenIs
  rw [List.length_append, List.length_singleton, hl, List.map_append]
  exact h
theorem ev_eta (x : Ev) {k : Int} (h : x.kind = k) : x = ⟨k, x.name, x.value⟩ := by cases x; cases h; rfl

set_option maxHeartbeats 16000000 in
set_option maxRecDepth 100000 in
theorem eventsFault_some (b off n cap : Nat) (E : Nat → Ev) (w : World) (hn : n ≤ 400) (hcap : n ≤ cap) (henv : Env w) (hb0 : b < w.heap.size) (hE : EvsAt w b off n E)
    (hsz : ∀ i, i < n → (E i).name.size ≤ Go.maxLen ∧ (E i).value.size ≤ Go.maxLen) :
    Calls Tryd.prog 23 #[.slice (some ⟨b, off, none⟩) n cap] w fun e w' => e = .returned (.int .i64 (checkN E n)) ∧ Below w.heap.size w w' := by
  have HE : Hid (EvsAt w b off n E) := hE
  have HS : Hid (∀ i, i < n → (E i).name.size ≤ Go.maxLen ∧ (E i).value.size ≤ Go.maxLen) := hsz
  have HV : Hid (Env w) := henv
  clear hE hsz henv
  go_enter Tryd.func23, Tryd.ntmps23
  go_wp2
  go_loopw [3, 4] (fun o i wr => ∃ k : Nat, k ≤ n ∧ i = .int .i64 k ∧ OpenIs wr w.heap.size o (opens E k) ∧ okTo E k ∧ Below w.heap.size w wr) (fun _ i _ => n - (intOf i).toNat)
  case atStart => exact ⟨0, Nat.zero_le _, rfl, World.ownsRow_nil _ _ _ _, okTo_zero E, Below.refl _ _⟩
  case round =>
    obtain ⟨k, hk, rfl, hop, hok, hbr⟩ := hrel
    have hdl := opens_d E k
    have hdk := d_inv (E := E) k
    obtain ⟨a, cp, rfl⟩ := hop.shape
    have HOP : Hid (OpenIs wr w.heap.size (.slice a (opens E k).length cp) (opens E k)) := hop
    have HOK : Hid (okTo E k) := hok
    have HBR : Hid (Below w.heap.size w wr) := hbr
    have hzr : w.heap.size ≤ wr.heap.size := hbr.size
    generalize hdd : (opens E k).length = d at *
    have HD : Hid ((stAt E k).d = d) := hdl.symm
    have HL : Hid ((opens E k).length = d) := hdd
    have hdk' : d ≤ k := by omega
    clear hop hdl hdk hdd
    by_cases hlt : k < n
    · obtain ⟨e1, e2, e3⟩ := HE.out.below hbr hb0 k hlt
      have HEV : Hid (errAt E k = evF E k d (E k)) := errAt_evF HD.out hok
      have hsn : (E k).name.size ≤ Go.maxLen := (HS.out k hlt).1
      have hsv : (E k).value.size ≤ Go.maxLen := (HS.out k hlt).2
      clear hok hbr
      by_cases hkb : (E k).kind < 1 ∨ 5 < (E k).kind
      · have HF : Hid (checkN E n = 3) := fin_err hn hlt HOK.out (HEV.out.trans (evF_kind hkb)) (by decide)
        have hi : inB (E k).kind 1 5 = false := by simp [inB]; omega
        clear hkb
        go_wp2_with (first | (go_at_call 27; refine (in_any _ _ _ _).mono ?_; rintro e w' ⟨rfl, rfl⟩))
        go_ret
        exact ⟨ret_int HF.out.symm, HBR.out.alloc HBR.out.size _⟩
      have hi : inB (E k).kind 1 5 = true := by simp [inB]; omega
      by_cases hfm : d = 0 ∧ ((E k).kind ≠ 1 ∨ 0 < k)
      · have HF : Hid (checkN E n = 4) := fin_err hn hlt HOK.out (HEV.out.trans (evF_form hkb hfm)) (by decide)
        obtain ⟨rfl, hfm⟩ := hfm
        clear hkb
        by_cases hk0 : 0 < k
        · have hk1 : (0 : Int) < (k : Int) := by omega
          clear hfm
          go_wp2_with (first | (go_at_call 27; refine (in_any _ _ _ _).mono ?_; rintro e w' ⟨rfl, rfl⟩))
          go_ret
          exact ⟨ret_int HF.out.symm, HBR.out.alloc HBR.out.size _⟩
        · have hk1 : ¬ (0 : Int) < (k : Int) := by omega
          have hkk : ((E k).kind != 1) = true := by
            rcases hfm with h | h
            · simpa using h
            · omega
          clear hfm
          go_wp2_with (first | (go_at_call 27; refine (in_any _ _ _ _).mono ?_; rintro e w' ⟨rfl, rfl⟩))
          go_ret
          exact ⟨ret_int HF.out.symm, HBR.out.alloc HBR.out.size _⟩
      have h2' : 0 < d ∨ (d = 0 ∧ (E k).kind = 1 ∧ k = 0) := by omega
      have hkk : (E k).kind = 1 ∨ (E k).kind = 2 ∨ (E k).kind = 3 ∨ (E k).kind = 4 ∨ (E k).kind = 5 := by omega
      have HKB : Hid (¬ ((E k).kind < 1 ∨ 5 < (E k).kind)) := hkb
      have HFM : Hid (¬ (d = 0 ∧ ((E k).kind ≠ 1 ∨ 0 < k))) := hfm
      have hbz : b < wr.heap.size := by omega
      have CVF : Hid (∀ W, Below w.heap.size w W → Calls Tryd.prog 38 #[.string (E k).value] W fun e w' => e = .returned (.int .i64 (textF (E k).value)) ∧ Below W.heap.size W w') :=
        fun W hb => valueFault_any (E k).value W hsv (HV.out.below hb).tabs
      clear hkb hfm
      rcases hkk with hk1 | hk1 | hk1 | hk1 | hk1
      · have HK1 : Hid ((E k).kind = 1) := hk1
        rw [hk1] at e1 hi
        have HB1 : Hid (Below w.heap.size w (wr.alloc (.cells #[Value.int .i64 1, .string (E k).name, .string (E k).value] 44))) := HBR.out.alloc HBR.out.size _
        have HN := nameOf_tag (x := E k) (.inl hk1)
        have HVV := valueOf_se (x := E k) (.inl hk1)
        clear hk1
        by_cases hnz : nameF (E k).name = 0
        · by_cases hvz : (E k).value.size = 0
          · have HKD : Hid (evF E k d (E k) = if 20 ≤ d then 8 else 0) := by
              have e : evF E k d (E k) = if 20 ≤ d then 8 else 0 := by rw [evF_kinds HKB.out HFM.out (HN.trans hnz) (by rw [HVV, if_pos hvz]), if_pos HK1.out]
              exact e
            have he := empty_of_size hvz
            clear hvz HVV HN
            by_cases h20 : 20 ≤ d
            · have HF : Hid (checkN E n = 8) := fin_err hn hlt HOK.out (HEV.out.trans (by rw [HKD.out, if_pos h20])) (by decide)
              have hd0 : ((d : Int) == 0) = false := by simp; omega
              clear h2'
              go_wp2_with (first | (go_at_call 27; refine (in_any _ _ _ _).mono ?_; rintro e w' ⟨rfl, rfl⟩) | (go_at_call 37; refine (nameFault_any _ _ hsn).mono ?_; rintro e w' ⟨rfl, rfl⟩))
              go_ret
              exact ⟨ret_int HF.out.symm, HBR.out.alloc HBR.out.size _⟩
            · have HZ : Hid (errAt E k = 0) := HEV.out.trans (by rw [HKD.out, if_neg h20])
              have HOWN : Hid (wr.ownsRow w.heap.size 3 1 (.slice a d cp) d ((opens E k).map fun p : Nat => Value.int .i64 (p : Int))) := by
                have h := HOP.out
                unfold OpenIs at h
                rw [HL.out] at h
                exact h
              obtain ⟨i0, hi0, hz0, hz1, hz2⟩ := info_parts Tryd.info3
              rcases h2' with h2' | ⟨h2', _, h3'⟩
              · have hd0 : ((d : Int) == 0) = false := by simp; omega
                go_wp2_with (first | (go_at_call 27; refine (in_any _ _ _ _).mono ?_; rintro e w' ⟨rfl, rfl⟩) | (go_at_call 37; refine (nameFault_any _ _ hsn).mono ?_; rintro e w' ⟨rfl, rfl⟩) | (at_builtin; refine wpList_append_own _ rfl _ _ 54 rfl w.heap.size 3 i0 (.int .i64 0) 1 8 Tryd.underlying54 hi0 hz0 hz1 hz2 rfl (by decide) _ _ _ rfl ((HOWN.out.alloc _).alloc _) ⟨wr.heap.size + 1, 0, none⟩ 1 1 [.int .i64 k] rfl rfl ?c1a ?c2a ?c3a ?c4a ?c5a ?_))
                case c1a =>
                  intro j u hj
                  match j, hj with
                  | 0, hj => simp at hj; subst hj; simp [Addr.add]
                case c2a => first | rfl | (intro u hu; simp at hu; subst hu; rfl)
                case c3a => unfold maxLen; omega
                case c4a => omega
                case c5a => simp; omega
                intro v' w1 hown' hgrow _
                have HO1 : Hid (OpenIs w1 w.heap.size v' (opens E (k + 1))) := by
                  rw [opens_push HK1.out]
                  exact OpenIs.pushed HL.out hown'
                have HB2 : Hid (Below w.heap.size w w1) := ((HBR.out.alloc HBR.out.size _).alloc (by simp; omega) _).grown hgrow (by simp; omega) (fun q hq => (HOWN.out.lt q hq).1)
                clear hown' hgrow
                go_wp2
                go_roundw
                case rel => exact ⟨k + 1, by omega, by go_num, HO1.out, okTo_succ HOK.out HZ.out, HB2.out⟩
                case measure => simp [intOf]; omega
              · subst h2' h3'
                simp only [Nat.zero_mul, Nat.add_zero] at e1 e2 e3
                go_wp2_with (first | (go_at_call 27; refine (in_any _ _ _ _).mono ?_; rintro e w' ⟨rfl, rfl⟩) | (go_at_call 37; refine (nameFault_any _ _ hsn).mono ?_; rintro e w' ⟨rfl, rfl⟩) | (at_builtin; refine wpList_append_own _ rfl _ _ 54 rfl w.heap.size 3 i0 (.int .i64 0) 1 8 Tryd.underlying54 hi0 hz0 hz1 hz2 rfl (by decide) _ _ _ rfl ((HOWN.out.alloc _).alloc _) ⟨wr.heap.size + 1, 0, none⟩ 1 1 [.int .i64 0] rfl rfl ?c1b ?c2b ?c3b ?c4b ?c5b ?_))
                case c1b =>
                  intro j u hj
                  match j, hj with
                  | 0, hj => simp at hj; subst hj; simp [Addr.add]
                case c2b => first | rfl | (intro u hu; simp at hu; subst hu; rfl)
                case c3b => unfold maxLen; omega
                case c4b => omega
                case c5b => simp; omega
                intro v' w1 hown' hgrow _
                have HO1 : Hid (OpenIs w1 w.heap.size v' (opens E (0 + 1))) := by
                  rw [opens_push HK1.out]
                  exact OpenIs.pushed HL.out hown'
                have HB2 : Hid (Below w.heap.size w w1) := ((HBR.out.alloc HBR.out.size _).alloc (by simp; omega) _).grown hgrow (by simp; omega) (fun q hq => (HOWN.out.lt q hq).1)
                clear hown' hgrow
                go_wp2
                go_roundw
                case rel => exact ⟨0 + 1, by omega, by go_num, HO1.out, okTo_succ HOK.out HZ.out, HB2.out⟩
                case measure => simp [intOf]; omega
          · have HF : Hid (checkN E n = 4) := fin_err hn hlt HOK.out (HEV.out.trans ((evF_value HKB.out HFM.out (HN.trans hnz) (by rw [HVV, if_neg hvz]; decide)).trans (by rw [HVV, if_neg hvz]))) (by decide)
            have he := nonempty_of_size hvz
            clear hvz HVV HN
            rcases h2' with h2' | ⟨h2', _, h3'⟩
            · have hd0 : ((d : Int) == 0) = false := by simp; omega
              go_wp2_with (first | (go_at_call 27; refine (in_any _ _ _ _).mono ?_; rintro e w' ⟨rfl, rfl⟩) | (go_at_call 37; refine (nameFault_any _ _ hsn).mono ?_; rintro e w' ⟨rfl, rfl⟩))
              go_ret
              exact ⟨ret_int HF.out.symm, HBR.out.alloc HBR.out.size _⟩
            · subst h2' h3'
              simp only [Nat.zero_mul, Nat.add_zero] at e1 e2 e3
              go_wp2_with (first | (go_at_call 27; refine (in_any _ _ _ _).mono ?_; rintro e w' ⟨rfl, rfl⟩) | (go_at_call 37; refine (nameFault_any _ _ hsn).mono ?_; rintro e w' ⟨rfl, rfl⟩))
              go_ret
              exact ⟨ret_int HF.out.symm, HBR.out.alloc HBR.out.size _⟩
        · have HF : Hid (checkN E n = nameF (E k).name) := fin_err hn hlt HOK.out (HEV.out.trans ((evF_name HKB.out HFM.out (by rw [HN]; exact hnz)).trans HN)) hnz
          have hne : (nameF (E k).name != 0) = true := by simpa using hnz
          clear hnz HN HVV
          rcases h2' with h2' | ⟨h2', _, h3'⟩
          · have hd0 : ((d : Int) == 0) = false := by simp; omega
            go_wp2_with (first | (go_at_call 27; refine (in_any _ _ _ _).mono ?_; rintro e w' ⟨rfl, rfl⟩) | (go_at_call 37; refine (nameFault_any _ _ hsn).mono ?_; rintro e w' ⟨rfl, rfl⟩))
            go_ret
            exact ⟨ret_int HF.out.symm, HBR.out.alloc HBR.out.size _⟩
          · subst h2' h3'
            simp only [Nat.zero_mul, Nat.add_zero] at e1 e2 e3
            go_wp2_with (first | (go_at_call 27; refine (in_any _ _ _ _).mono ?_; rintro e w' ⟨rfl, rfl⟩) | (go_at_call 37; refine (nameFault_any _ _ hsn).mono ?_; rintro e w' ⟨rfl, rfl⟩))
            go_ret
            exact ⟨ret_int HF.out.symm, HBR.out.alloc HBR.out.size _⟩
      · have HK1 : Hid ((E k).kind = 2) := hk1
        have hd1 : 0 < d := by omega
        clear h2'
        rw [hk1] at e1 hi
        have hd0 : ((d : Int) == 0) = false := by simp; omega
        have HB1 : Hid (Below w.heap.size w (wr.alloc (.cells #[Value.int .i64 2, .string (E k).name, .string (E k).value] 44))) := HBR.out.alloc HBR.out.size _
        have HN := nameOf_tag (x := E k) (.inr hk1)
        have HVV := valueOf_text (x := E k) (by omega)
        clear hk1
        by_cases hnz : nameF (E k).name = 0
        · by_cases hvz : textF (E k).value = 0
          · have HKD := evF_kinds (E := E) HKB.out HFM.out (HN.trans hnz) (HVV.trans hvz)
            rw [HK1.out] at HKD
            clear HVV HN
            obtain ⟨q, rfl⟩ : ∃ q, k = q + 1 := ⟨k - 1, by omega⟩
            obtain ⟨p1, p2, p3⟩ := HE.out.below HBR.out hb0 q (by omega)
            have HKE : Hid (evF E (q + 1) d (E (q + 1)) = attrF E (q + 1) (E (q + 1))) := by
              have e : evF E (q + 1) d (E (q + 1)) = attrF E (q + 1) (E (q + 1)) := by rw [HKD]; simp
              exact e
            clear HKD
            cases htg : inTagB (E q).kind
            · have HF : Hid (checkN E n = 4) := fin_err hn hlt HOK.out (HEV.out.trans (by rw [HKE.out]; simp [attrF, htg])) (by decide)
              have hq0 := of_decide_eq_false htg
              have hq1 : ((E q).kind != 1) = true := by simp; omega
              have hq2 : ((E q).kind != 2) = true := by simp; omega
              clear hq0
              go_wp2_with (first | (go_at_call 27; refine (in_any _ _ _ _).mono ?_; rintro e w' ⟨rfl, rfl⟩) | (go_at_call 37; refine (nameFault_any _ _ hsn).mono ?_; rintro e w' ⟨rfl, rfl⟩) | (go_at_call 38; refine (CVF.out _ HB1.out).mono ?_; rintro e w1 ⟨rfl, hb1⟩; obtain ⟨hc1, hf1⟩ := bcell hb1))
              go_ret
              exact ⟨ret_int HF.out.symm, HB1.out.trans (hb1.mono (by simp; omega))⟩
            · have HAT : Hid (evF E (q + 1) d (E (q + 1)) = if twice E (E (q + 1)).name (q + 1) = true then 7 else 0) := by
                have e : evF E (q + 1) d (E (q + 1)) = if twice E (E (q + 1)).name (q + 1) = true then 7 else 0 := by rw [HKE.out]; simp [attrF, htg]
                exact e
              obtain ⟨p, l, ho1, ho2, ho3, ho4⟩ := opens_tag HOK.out (by omega) (by simpa using htg)
              obtain ⟨c, rfl⟩ : ∃ c, d = c + 1 := ⟨d - 1, by omega⟩
              obtain ⟨g, cp', hv, hg1, hg2, hg3, hg4, hcell, hpop⟩ := HOP.out.pop (by rw [HL.out]; omega)
              have hcl := hcell p l ho1
              rw [HL.out] at hv hg3 hcl
              injection hv with hv1 _ hv2
              subst hv1 hv2
              rw [Nat.add_sub_cancel] at hcl
              have HO4 : Hid (∀ i, p < i → i < q + 1 → (E i).kind = 2) := ho4
              have HO5 : Hid ((E p).kind = 1) := ho3
              have hp4 : p < 400 := by omega
              have hc4 : c < 400 := by omega
              have hkq : (E q).kind = 1 ∨ (E q).kind = 2 := of_decide_eq_true htg
              have hq12 : ((E q).kind != 1) = false ∨ (((E q).kind != 1) = true ∧ ((E q).kind != 2) = false) := by
                rcases hkq with h | h
                · left; simp [h]
                · right; simp [h]
              clear hcell hpop ho1 ho3 ho4 hkq htg HKE hg1 hg4
              rcases hq12 with hq1 | ⟨hq1, hq2⟩
              all_goals
                go_wp2_with (first | (go_at_call 27; refine (in_any _ _ _ _).mono ?_; rintro e w' ⟨rfl, rfl⟩) | (go_at_call 37; refine (nameFault_any _ _ hsn).mono ?_; rintro e w' ⟨rfl, rfl⟩) | (go_at_call 38; refine (CVF.out _ HB1.out).mono ?_; rintro e w1 ⟨rfl, hb1⟩; obtain ⟨hc1, hf1⟩ := bcell hb1))
                have hbx : w1.cell? ⟨wr.heap.size, 1, none⟩ = some (.string (E (q + 1)).name) := (hc1 _ _ (by simp)).trans (by simp)
                have HB3 : Hid (Below w.heap.size w w1) := HB1.out.trans (hb1.mono (by simp; omega))
                have HO3 : Hid (OpenIs w1 w.heap.size (.slice (some ⟨g, 0, none⟩) (c + 1) cp) (opens E (q + 1))) := OpenIs.below (HOP.out.alloc _) hb1
                have HE3 : Hid (EvsAt w1 b off n E) := HE.out.below HB3.out hb0
                have hz1 : wr.heap.size < w1.heap.size := by have := hb1.size; simp at this; omega
                have HBX : Hid (∀ W, Below w1.heap.size w1 W → W.cell? ⟨wr.heap.size, 1, none⟩ = some (.string (E (q + 1)).name)) := fun W hb => (hb.cell (p := ⟨wr.heap.size, 1, none⟩) hz1).trans hbx
                clear hb1 hc1 hf1 e1 e2 e3 p1 p2 p3 CVF hcl hbx
                go_loopw [8] (fun t wx => ∃ j : Nat, p < j ∧ j ≤ q + 1 ∧ t = .int .i64 j ∧ (∀ i, p < i → i < j → ((E i).name.toList == (E (q + 1)).name.toList) = false) ∧ Below w1.heap.size w1 wx) (fun t _ => q + 1 - (intOf t).toNat)
                case atStart => exact ⟨p + 1, by omega, by omega, by go_num, fun i h7 h8 => by omega, Below.refl _ _⟩
                case round =>
                  obtain ⟨j, hpj, hjq, rfl, hnone, hbj⟩ := hrel
                  have HNN : Hid (∀ i, p < i → i < j → ((E i).name.toList == (E (q + 1)).name.toList) = false) := hnone
                  have HBJ : Hid (Below w1.heap.size w1 wr) := hbj
                  have hbx2 := HBX.out _ hbj
                  have HBF : Hid (Below w.heap.size w wr) := HB3.out.trans (hbj.mono (by have := HB3.out.size; omega))
                  by_cases hjl : j < q + 1
                  · obtain ⟨f1, f2, f3⟩ := HE3.out.below hbj (by omega) j (by omega)
                    have hj1 : (j : Int) < (n : Int) := by omega
                    have hj2 : j < n := by omega
                    clear hnone hbj f1 f3
                    cases hmt : ((E j).name.toList == (E (q + 1)).name.toList)
                    · go_wp2
                      go_quiet (fail)
                      go_wp2
                      go_roundw
                      case rel => exact ⟨j + 1, by omega, by omega, by go_num, fun i h7 h8 => by
                        by_cases e : i = j
                        · subst e; exact hmt
                        · exact HNN.out i h7 (by omega), below_drewN HBJ.out _⟩
                      case measure => simp [intOf]; omega
                    · have HF : Hid (checkN E n = 7) := fin_err hn hlt HOK.out (HEV.out.trans (by rw [HAT.out, if_pos (twice_yes hpj hmt hjl HO4.out)])) (by decide)
                      go_wp2
                      go_quiet (fail)
                      go_wp2
                      go_ret
                      exact ⟨ret_int HF.out.symm, below_drewN HBF.out _⟩
                  · have hje : j = q + 1 := by omega
                    have HZ : Hid (errAt E (q + 1) = 0) := by
                      have e : errAt E (q + 1) = 0 := by rw [HEV.out, HAT.out, twice_none HO5.out ho2 HO4.out (hje ▸ HNN.out)]; rfl
                      exact e
                    have HO6 : Hid (OpenIs wr w.heap.size (.slice (some ⟨g, 0, none⟩) (c + 1) cp) (opens E (q + 1))) := HO3.out.below hbj
                    clear hje hnone hbj
                    go_wp2
                    go_roundw
                    case rel => exact ⟨q + 1 + 1, by omega, by go_num, by rw [opens_keep (by rw [HK1.out]; decide) (by rw [HK1.out]; decide)]; exact HO6.out, okTo_succ HOK.out HZ.out, HBF.out⟩
                    case measure => simp [intOf]; omega
          · have HF : Hid (checkN E n = textF (E k).value) := fin_err hn hlt HOK.out (HEV.out.trans ((evF_value HKB.out HFM.out (HN.trans hnz) (by rw [HVV]; exact hvz)).trans HVV)) hvz
            have hne : (textF (E k).value != 0) = true := by simpa using hvz
            clear hvz HVV HN
            go_wp2_with (first | (go_at_call 27; refine (in_any _ _ _ _).mono ?_; rintro e w' ⟨rfl, rfl⟩) | (go_at_call 37; refine (nameFault_any _ _ hsn).mono ?_; rintro e w' ⟨rfl, rfl⟩) | (go_at_call 38; refine (CVF.out _ HB1.out).mono ?_; rintro e w1 ⟨rfl, hb1⟩; obtain ⟨hc1, hf1⟩ := bcell hb1))
            go_ret
            exact ⟨ret_int HF.out.symm, HB1.out.trans (hb1.mono (by simp; omega))⟩
        · have HF : Hid (checkN E n = nameF (E k).name) := fin_err hn hlt HOK.out (HEV.out.trans ((evF_name HKB.out HFM.out (by rw [HN]; exact hnz)).trans HN)) hnz
          have hne : (nameF (E k).name != 0) = true := by simpa using hnz
          clear hnz HN HVV
          go_wp2_with (first | (go_at_call 27; refine (in_any _ _ _ _).mono ?_; rintro e w' ⟨rfl, rfl⟩) | (go_at_call 37; refine (nameFault_any _ _ hsn).mono ?_; rintro e w' ⟨rfl, rfl⟩))
          go_ret
          exact ⟨ret_int HF.out.symm, HBR.out.alloc HBR.out.size _⟩
      · have HK1 : Hid ((E k).kind = 3) := hk1
        have hd1 : 0 < d := by omega
        clear h2'
        rw [hk1] at e1 hi
        have hd0 : ((d : Int) == 0) = false := by simp; omega
        have HB1 : Hid (Below w.heap.size w (wr.alloc (.cells #[Value.int .i64 3, .string (E k).name, .string (E k).value] 44))) := HBR.out.alloc HBR.out.size _
        have HN := nameOf_else (x := E k) (by omega)
        have HVV := valueOf_text (x := E k) (by omega)
        clear hk1
        by_cases hnz : (E k).name.size = 0
        · by_cases hvz : textF (E k).value = 0
          · have HKD := evF_kinds (E := E) HKB.out HFM.out (by rw [HN, if_pos hnz]) (HVV.trans hvz)
            have he2 := empty_of_size hnz
            clear hnz HVV HN
            rw [HK1.out] at HKD
            obtain ⟨q, rfl⟩ : ∃ q, k = q + 1 := ⟨k - 1, by omega⟩
            obtain ⟨p1, p2, p3⟩ := HE.out.below HBR.out hb0 q (by omega)
            have HKE : Hid (evF E (q + 1) d (E (q + 1)) = if (E (q + 1)).value.size = 0 ∨ (E q).kind = 3 then 4 else 0) := by
              have e : evF E (q + 1) d (E (q + 1)) = if (E (q + 1)).value.size = 0 ∨ (E q).kind = 3 then 4 else 0 := by rw [HKD]; simp
              exact e
            clear HKD
            by_cases hvs : (E (q + 1)).value.size = 0
            · have HF : Hid (checkN E n = 4) := fin_err hn hlt HOK.out (HEV.out.trans (by rw [HKE.out, if_pos (.inl hvs)])) (by decide)
              have he := empty_of_size hvs
              clear hvs
              go_wp2_with (first | (go_at_call 27; refine (in_any _ _ _ _).mono ?_; rintro e w' ⟨rfl, rfl⟩) | (go_at_call 38; refine (CVF.out _ HB1.out).mono ?_; rintro e w1 ⟨rfl, hb1⟩; obtain ⟨hc1, hf1⟩ := bcell hb1))
              go_ret
              exact ⟨ret_int HF.out.symm, HB1.out.trans (hb1.mono (by simp; omega))⟩
            · have he := nonempty_of_size hvs
              cases h3q : ((E q).kind == 3)
              · have HZ : Hid (errAt E (q + 1) = 0) := by
                  have e : errAt E (q + 1) = 0 := by rw [HEV.out, HKE.out, if_neg]; simp at h3q; omega
                  exact e
                clear hvs
                go_wp2_with (first | (go_at_call 27; refine (in_any _ _ _ _).mono ?_; rintro e w' ⟨rfl, rfl⟩) | (go_at_call 38; refine (CVF.out _ HB1.out).mono ?_; rintro e w1 ⟨rfl, hb1⟩; obtain ⟨hc1, hf1⟩ := bcell hb1))
                go_roundw
                case rel => exact ⟨q + 1 + 1, by omega, by go_num, by rw [opens_keep (by rw [HK1.out]; decide) (by rw [HK1.out]; decide)]; exact OpenIs.below (HOP.out.alloc _) hb1, okTo_succ HOK.out HZ.out, HB1.out.trans (hb1.mono (by simp; omega))⟩
                case measure => simp [intOf]; omega
              · have HF : Hid (checkN E n = 4) := fin_err hn hlt HOK.out (HEV.out.trans (by rw [HKE.out, if_pos (.inr (by simpa using h3q))])) (by decide)
                clear hvs
                go_wp2_with (first | (go_at_call 27; refine (in_any _ _ _ _).mono ?_; rintro e w' ⟨rfl, rfl⟩) | (go_at_call 38; refine (CVF.out _ HB1.out).mono ?_; rintro e w1 ⟨rfl, hb1⟩; obtain ⟨hc1, hf1⟩ := bcell hb1))
                go_ret
                exact ⟨ret_int HF.out.symm, HB1.out.trans (hb1.mono (by simp; omega))⟩
          · have HF : Hid (checkN E n = textF (E k).value) := fin_err hn hlt HOK.out (HEV.out.trans ((evF_value HKB.out HFM.out (by rw [HN, if_pos hnz]) (by rw [HVV]; exact hvz)).trans HVV)) hvz
            have hne : (textF (E k).value != 0) = true := by simpa using hvz
            have he2 := empty_of_size hnz
            clear hvz hnz HVV HN
            go_wp2_with (first | (go_at_call 27; refine (in_any _ _ _ _).mono ?_; rintro e w' ⟨rfl, rfl⟩) | (go_at_call 38; refine (CVF.out _ HB1.out).mono ?_; rintro e w1 ⟨rfl, hb1⟩; obtain ⟨hc1, hf1⟩ := bcell hb1))
            go_ret
            exact ⟨ret_int HF.out.symm, HB1.out.trans (hb1.mono (by simp; omega))⟩
        · have HF : Hid (checkN E n = 4) := fin_err hn hlt HOK.out (HEV.out.trans ((evF_name HKB.out HFM.out (by rw [HN, if_neg hnz]; decide)).trans (by rw [HN, if_neg hnz]))) (by decide)
          have he2 := nonempty_of_size hnz
          clear hnz HVV HN
          go_wp2_with (first | (go_at_call 27; refine (in_any _ _ _ _).mono ?_; rintro e w' ⟨rfl, rfl⟩))
          go_ret
          exact ⟨ret_int HF.out.symm, HBR.out.alloc HBR.out.size _⟩
      · have HK1 : Hid ((E k).kind = 4) := hk1
        have hd1 : 0 < d := by omega
        clear h2'
        rw [hk1] at e1 hi
        have hd0 : ((d : Int) == 0) = false := by simp; omega
        have HB1 : Hid (Below w.heap.size w (wr.alloc (.cells #[Value.int .i64 4, .string (E k).name, .string (E k).value] 44))) := HBR.out.alloc HBR.out.size _
        have HN := nameOf_else (x := E k) (by omega)
        have HVV := valueOf_text (x := E k) (by omega)
        clear hk1
        by_cases hnz : (E k).name.size = 0
        · by_cases hvz : textF (E k).value = 0
          · have HKD := evF_kinds (E := E) HKB.out HFM.out (by rw [HN, if_pos hnz]) (HVV.trans hvz)
            have he2 := empty_of_size hnz
            clear hnz HVV HN
            rw [HK1.out] at HKD
            have HKE : Hid (evF E k d (E k) = if commB (E k).value = true then 4 else 0) := by
              have e : evF E k d (E k) = if commB (E k).value = true then 4 else 0 := by rw [HKD]; simp
              exact e
            have hsz2 : (E k).value.size ≤ 20000 := by
              by_cases h6 : 20000 < (E k).value.size
              · rw [textF_size h6] at hvz; exact absurd hvz (by decide)
              · omega
            clear HKD
            go_wp2_with (first | (go_at_call 27; refine (in_any _ _ _ _).mono ?_; rintro e w' ⟨rfl, rfl⟩) | (go_at_call 38; refine (CVF.out _ HB1.out).mono ?_; rintro e w1 ⟨rfl, hb1⟩; obtain ⟨hc1, hf1⟩ := bcell hb1))
            have hbx : w1.cell? ⟨wr.heap.size, 2, none⟩ = some (.string (E k).value) := (hc1 _ _ (by simp)).trans (by simp)
            have HB3 : Hid (Below w.heap.size w w1) := HB1.out.trans (hb1.mono (by simp; omega))
            have HO3 : Hid (OpenIs w1 w.heap.size (.slice a d cp) (opens E k)) := OpenIs.below (HOP.out.alloc _) hb1
            clear hb1 hc1 hf1 e1 e2 e3 CVF
            generalize hvv : (E k).value = v at *
            have HVV2 : Hid ((E k).value = v) := hvv
            clear hvv
            go_loop [10] (fun t => ∃ j : Nat, j ≤ v.size ∧ t = .int .i64 j ∧ ∀ i, i < j → dashAt v i = false) (fun t => v.size - (intOf t).toNat)
            case atStart => exact ⟨0, Nat.zero_le _, rfl, fun i hi => by omega⟩
            case round =>
              obtain ⟨j, hj, rfl, hdash⟩ := hrel
              have HDA : Hid (∀ i, i < j → dashAt v i = false) := hdash
              clear hdash
              by_cases hjl : j < v.size
              · have HE1 : Hid ((v[j].toNat : Int) = byteAt v j) := byteAt_eq v j hjl
                cases hb45 : ((v[j].toNat : Int) == 45)
                · have HNO : Hid (dashAt v j = false) := by
                    have e : dashAt v j = false := by
                      have h7 : ¬ byteAt v j = 45 := by rw [← HE1.out]; simpa using hb45
                      simp [dashAt, h7]
                    exact e
                  go_wp2
                  go_round
                  case rel => exact ⟨j + 1, by omega, by go_num, fun i hi => by
                    by_cases e : i = j
                    · subst e; exact HNO.out
                    · exact HDA.out i (by omega)⟩
                  case measure => simp [intOf]; omega
                · have HY : Hid (byteAt v j = 45) := by
                    have e : byteAt v j = 45 := by rw [← HE1.out]; simpa using hb45
                    exact e
                  by_cases hlast : j + 1 = v.size
                  · have HF : Hid (checkN E n = 4) := fin_err hn hlt HOK.out (HEV.out.trans (by rw [HKE.out, if_pos (by exact comm_yes (k := j) (decide_eq_true ⟨HY.out, .inl hlast⟩))])) (by decide)
                    have hl1 : ((j : Int) == (v.size : Int) - 1) = true := by simp; omega
                    clear hlast
                    go_wp2
                    go_ret
                    exact ⟨ret_int HF.out.symm, HB3.out⟩
                  · have hl1 : ((j : Int) == (v.size : Int) - 1) = false := by simp; omega
                    have hl2 : j + 1 < v.size := by omega
                    have HE2 : Hid ((v[j + 1].toNat : Int) = byteAt v (j + 1)) := byteAt_eq v (j + 1) hl2
                    cases hb46 : ((v[j + 1].toNat : Int) == 45)
                    · have HNO : Hid (dashAt v j = false) := by
                        have e : dashAt v j = false := by
                          have h7 : ¬ byteAt v (j + 1) = 45 := by rw [← HE2.out]; simpa using hb46
                          simp [dashAt, h7, hlast]
                        exact e
                      clear hlast
                      go_wp2
                      go_round
                      case rel => exact ⟨j + 1, by omega, by go_num, fun i hi => by
                        by_cases e : i = j
                        · subst e; exact HNO.out
                        · exact HDA.out i (by omega)⟩
                      case measure => simp [intOf]; omega
                    · have HF : Hid (checkN E n = 4) := fin_err hn hlt HOK.out (HEV.out.trans (by rw [HKE.out, if_pos (by exact comm_yes (k := j) (decide_eq_true ⟨HY.out, .inr (by rw [← HE2.out]; simpa using hb46)⟩))])) (by decide)
                      clear hlast
                      go_wp2
                      go_ret
                      exact ⟨ret_int HF.out.symm, HB3.out⟩
              · have hje : j = v.size := by omega
                have HZ : Hid (errAt E k = 0) := by
                  have e : errAt E k = 0 := by rw [HEV.out, HKE.out, if_neg]; rw [comm_no (hje ▸ HDA.out)]; decide
                  exact e
                clear hje
                go_wp2
                go_roundw
                case rel => exact ⟨k + 1, by omega, by go_num, by rw [opens_keep (by rw [HK1.out]; decide) (by rw [HK1.out]; decide)]; exact HO3.out, okTo_succ HOK.out HZ.out, HB3.out⟩
                case measure => simp [intOf]; omega
          · have HF : Hid (checkN E n = textF (E k).value) := fin_err hn hlt HOK.out (HEV.out.trans ((evF_value HKB.out HFM.out (by rw [HN, if_pos hnz]) (by rw [HVV]; exact hvz)).trans HVV)) hvz
            have hne : (textF (E k).value != 0) = true := by simpa using hvz
            have he2 := empty_of_size hnz
            clear hvz hnz HVV HN
            go_wp2_with (first | (go_at_call 27; refine (in_any _ _ _ _).mono ?_; rintro e w' ⟨rfl, rfl⟩) | (go_at_call 38; refine (CVF.out _ HB1.out).mono ?_; rintro e w1 ⟨rfl, hb1⟩; obtain ⟨hc1, hf1⟩ := bcell hb1))
            go_ret
            exact ⟨ret_int HF.out.symm, HB1.out.trans (hb1.mono (by simp; omega))⟩
        · have HF : Hid (checkN E n = 4) := fin_err hn hlt HOK.out (HEV.out.trans ((evF_name HKB.out HFM.out (by rw [HN, if_neg hnz]; decide)).trans (by rw [HN, if_neg hnz]))) (by decide)
          have he2 := nonempty_of_size hnz
          clear hnz HVV HN
          go_wp2_with (first | (go_at_call 27; refine (in_any _ _ _ _).mono ?_; rintro e w' ⟨rfl, rfl⟩))
          go_ret
          exact ⟨ret_int HF.out.symm, HBR.out.alloc HBR.out.size _⟩
      · have HK1 : Hid ((E k).kind = 5) := hk1
        have hd1 : 0 < d := by omega
        clear h2'
        rw [hk1] at e1 hi
        have hd0 : ((d : Int) == 0) = false := by simp; omega
        have HN := nameOf_else (x := E k) (by omega)
        have HVV := valueOf_se (x := E k) (.inr hk1)
        clear hk1
        by_cases hnz : (E k).name.size = 0
        · by_cases hvz : (E k).value.size = 0
          · have HZ : Hid (errAt E k = 0) := by
              have e : errAt E k = 0 := by rw [HEV.out, evF_kinds HKB.out HFM.out (by rw [HN, if_pos hnz]) (by rw [HVV, if_pos hvz]), HK1.out]; simp
              exact e
            have he := empty_of_size hvz
            have he2 := empty_of_size hnz
            clear hvz hnz HVV HN
            obtain ⟨q, rfl⟩ : ∃ q, d = q + 1 := ⟨d - 1, by omega⟩
            obtain ⟨g, cp', hv, hg1, hg2, hg3, hg4, hcell, hpop⟩ := HOP.out.pop (by rw [HL.out]; omega)
            rw [HL.out] at hv hg3 hcell hpop
            injection hv with hv1 _ hv2
            subst hv1 hv2
            have HP : Hid (OpenIs wr w.heap.size (.slice (some ⟨g, 0, none⟩) q cp) (opens E (k + 1))) := by
              rw [opens_pop HK1.out]
              exact hpop
            have hq1 : (q : Int) ≤ (cp : Int) := by omega
            have hq2 : q ≤ cp := by omega
            have hq3 : q < 400 := by omega
            clear hcell hpop hg1 hg2 hg4
            go_wp2_with (first | (go_at_call 27; refine (in_any _ _ _ _).mono ?_; rintro e w' ⟨rfl, rfl⟩))
            go_roundw
            case rel => exact ⟨k + 1, by omega, by go_num, HP.out.alloc _, okTo_succ HOK.out HZ.out, HBR.out.alloc HBR.out.size _⟩
            case measure => simp [intOf]; omega
          · have HF : Hid (checkN E n = 4) := fin_err hn hlt HOK.out (HEV.out.trans ((evF_value HKB.out HFM.out (by rw [HN, if_pos hnz]) (by rw [HVV, if_neg hvz]; decide)).trans (by rw [HVV, if_neg hvz]))) (by decide)
            have he := nonempty_of_size hvz
            have he2 := empty_of_size hnz
            clear hvz hnz HVV HN
            go_wp2_with (first | (go_at_call 27; refine (in_any _ _ _ _).mono ?_; rintro e w' ⟨rfl, rfl⟩))
            go_ret
            exact ⟨ret_int HF.out.symm, HBR.out.alloc HBR.out.size _⟩
        · have HF : Hid (checkN E n = 4) := fin_err hn hlt HOK.out (HEV.out.trans ((evF_name HKB.out HFM.out (by rw [HN, if_neg hnz]; decide)).trans (by rw [HN, if_neg hnz]))) (by decide)
          have he2 := nonempty_of_size hnz
          clear hnz HVV HN
          go_wp2_with (first | (go_at_call 27; refine (in_any _ _ _ _).mono ?_; rintro e w' ⟨rfl, rfl⟩))
          go_ret
          exact ⟨ret_int HF.out.symm, HBR.out.alloc HBR.out.size _⟩
    · have e : k = n := by omega
      have HF : Hid (checkN E n = if n = 0 ∨ 0 < d then 5 else 0) := by
        have e2 : checkN E n = if n = 0 ∨ 0 < d then 5 else 0 := by
          rw [checkN_end (by omega) (e ▸ HOK.out), ← e, HD.out]
        exact e2
      clear hok hbr e
      have hkn : ¬ (k : Int) < (n : Int) := by omega
      by_cases c1 : n = 0 ∨ 0 < d
      · have HF5 : Hid (checkN E n = 5) := by
          have e : checkN E n = 5 := by rw [HF.out, if_pos c1]
          exact e
        rcases Nat.eq_zero_or_pos n with h0 | h0
        · have h1 : ((n : Int) == 0) = true := by simp; omega
          clear c1 h0
          go_wp2
          go_ret
          exact ⟨ret_int HF5.out.symm, HBR.out⟩
        · have h1 : ((n : Int) == 0) = false := by simp; omega
          have h2 : (0 : Int) < (d : Int) := by omega
          clear c1
          go_wp2
          go_ret
          exact ⟨ret_int HF5.out.symm, HBR.out⟩
      · have HF0 : Hid (checkN E n = 0) := by
          have e : checkN E n = 0 := by rw [HF.out, if_neg c1]
          exact e
        have h1 : ((n : Int) == 0) = false := by simp; omega
        have h2 : ¬ (0 : Int) < (d : Int) := by omega
        clear c1
        go_wp2
        go_ret
        exact ⟨ret_int HF0.out.symm, HBR.out⟩
end Go.Proofs.YtpccfjoklinaiaaDoor
