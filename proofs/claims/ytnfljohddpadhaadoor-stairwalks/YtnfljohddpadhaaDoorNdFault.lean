/-
  CONTRACT of the document's answer on nodes (NodesFault).
-/
import Derived.Test.YtnfljohddpadhaaDoorNdMay
import Derived.Test.YtnfljohddpadhaaDoorNdUp
set_option linter.unusedVariables false
namespace Go.Proofs.YtnfljohddpadhaaDoor
open Go.RowKit

theorem may_kind {x : Nd} (h : mayB x = true) : kindB x = true ∧ (x.kind = 6 → x.parent = -1) := by
  unfold mayB at h
  rw [Bool.and_eq_true] at h
  exact ⟨h.1, of_decide_eq_true h.2⟩
theorem may_no {E : Nat → Nd} {n k : Nat} (h : mayB (E k) = false) : fitB E n k = false := by
  unfold fitB
  cases hp : placeB E n k
  · exact Bool.and_false _
  · rw [Bool.and_true]
    unfold mayB at h
    rw [Bool.and_eq_false_iff] at h
    rcases h with h | h
    · exact h
    · exfalso
      have h' := of_decide_eq_false h
      have h6 : (E k).kind = 6 := Classical.byContradiction fun hc => h' (fun e => absurd e hc)
      have hpar : ¬ (E k).parent = -1 := fun e => h' (fun _ => e)
      unfold placeB at hp
      rw [Bool.and_eq_true] at hp
      obtain ⟨h1, h2⟩ := hp
      have h3 := (of_decide_eq_true h1).2.2
      cases hu : upW E k k with
      | zero => exact hpar (by rw [h3, upI, hu]; rfl)
      | succ p =>
        rw [hu] at h2
        exact (of_decide_eq_true h2).2.2.1 h6
theorem fit_kind_no {E : Nat → Nd} {n k : Nat} (h : placeB E n k = false) : fitB E n k = false := by unfold fitB; rw [h, Bool.and_false]
theorem fit_of {E : Nat → Nd} {n k : Nat} (h0 : kindB (E k) = true) (h : placeB E n k = true) : fitB E n k = true := by unfold fitB; rw [h0, h]; rfl

set_option maxHeartbeats 1600000 in
set_option maxRecDepth 100000 in
theorem nodesFault_some (b off n cap : Nat) (E : Nat → Nd) (w : World) (hn : n ≤ 100000) (hcap : n ≤ cap) (hT : Tabs w) (hb0 : b < w.heap.size) (hE : NdsAt w b off n E)
    (hsz : ∀ i, i < n → (E i).name.size ≤ Go.maxLen ∧ (E i).value.size ≤ Go.maxLen) :
    Calls Tryd.prog 11 #[.slice (some ⟨b, off, none⟩) n cap] w fun e w' => e = .returned (.int .i64 (nodesF E n)) ∧ Below w.heap.size w w' := by
  have HE : Hid (NdsAt w b off n E) := hE
  have HS : Hid (∀ i, i < n → (E i).name.size ≤ Go.maxLen ∧ (E i).value.size ≤ Go.maxLen) := hsz
  have HV : Hid (Tabs w) := hT
  clear hE hsz hT
  go_enter Tryd.func11, Tryd.ntmps11
  go_wp2
  go_loopw [3] (fun i wr => ∃ k : Nat, k ≤ n ∧ i = .int .i64 k ∧ fitTo E n k ∧ Below w.heap.size w wr) (fun i _ => n - (intOf i).toNat)
  case atStart => exact ⟨0, Nat.zero_le _, rfl, fitTo_zero E n, Below.refl _ _⟩
  case round =>
    obtain ⟨k, hk, rfl, hok, hbr⟩ := hrel
    by_cases hlt : k < n
    · obtain ⟨e1, e2, e3, e4, e5, e6⟩ := HE.out.below hbr hb0 k hlt
      have HOK : Hid (fitTo E n k) := hok
      have HBR : Hid (Below w.heap.size w wr) := hbr
      have CK : Hid (∀ o, Calls Tryd.prog 18 #[.agg #[.int .i64 (E k).kind, .string (E k).name, .string (E k).value, .int .i64 (E k).size, .int .i64 (E k).level, .int .i64 (E k).parent]] (wr.alloc o) fun e w' => e = .returned (.bool (mayB (E k))) ∧ Below (wr.alloc o).heap.size (wr.alloc o) w') :=
        fun o => nodeMay_any (E k).kind (E k).name (E k).value (E k).size (E k).level (E k).parent _ (HS.out k hlt).1 (HS.out k hlt).2 (Utf8Tabs_below HV.out (hbr.alloc hbr.size _))
      have HX : Hid (∀ o w1, Below (wr.alloc o).heap.size (wr.alloc o) w1 → Below w.heap.size w w1) := fun o w1 h => (hbr.alloc hbr.size _).trans (h.mono (by have := hbr.size; simp; omega))
      have HXS : Hid (∀ o w1, Below (wr.alloc o).heap.size (wr.alloc o) w1 → wr.heap.size < w1.heap.size ∧ b < w1.heap.size) := fun o w1 h => by
        have h1 := h.size
        have h2 := hbr.size
        simp at h1
        exact ⟨by omega, by omega⟩
      clear hok hbr
      cases hM : mayB (E k)
      · have HR : Hid (nodesF E n = 4) := nodesF_no (by omega) hlt (may_no hM)
        rw [hM] at CK
        clear hM
        go_wp2_with (first | (go_at_call 18; refine (CK.out _).mono ?_; rintro e w1 ⟨rfl, hb1⟩))
        go_ret
        exact ⟨ret_int HR.out.symm, HX.out _ _ hb1⟩
      · rw [hM] at CK
        have HM : Hid (mayB (E k) = true) := hM
        clear hM
        cases hI : inB (E k).size 0 ((n : Int) - 1 - k)
        · have HR : Hid (nodesF E n = 4) := nodesF_no (by omega) hlt (fit_kind_no (fit_size (of_decide_eq_false hI)))
          go_wp2_with (first | (go_at_call 18; refine (CK.out _).mono ?_; rintro e w1 ⟨rfl, hb1⟩; obtain ⟨hc, hf⟩ := bcell hb1) | (go_at_call 12; refine (in_any _ _ _ _).mono ?_; rintro e w2 ⟨rfl, rfl⟩))
          go_ret
          exact ⟨ret_int HR.out.symm, HX.out _ _ hb1⟩
        · obtain ⟨z1, z2⟩ := (of_decide_eq_true hI : 0 ≤ (E k).size ∧ (E k).size ≤ (n : Int) - 1 - k)
          go_wp2_with (first | (go_at_call 18; refine (CK.out _).mono ?_; rintro e w1 ⟨rfl, hb1⟩; obtain ⟨hc, hf⟩ := bcell hb1) | (go_at_call 12; refine (in_any _ _ _ _).mono ?_; rintro e w2 ⟨rfl, rfl⟩))
          have HW : Hid (Below w.heap.size w w2) := HX.out _ _ hb1
          obtain ⟨hr1, hr2⟩ := HXS.out _ _ hb1
          have x1 : w2.cell? ⟨wr.heap.size, 0, none⟩ = some (.int .i64 (E k).kind) := (hb1.cell (p := ⟨wr.heap.size, 0, none⟩) (by simp)).trans (by simp)
          have x4 : w2.cell? ⟨wr.heap.size, 3, none⟩ = some (.int .i64 (E k).size) := (hb1.cell (p := ⟨wr.heap.size, 3, none⟩) (by simp)).trans (by simp)
          have x5 : w2.cell? ⟨wr.heap.size, 4, none⟩ = some (.int .i64 (E k).level) := (hb1.cell (p := ⟨wr.heap.size, 4, none⟩) (by simp)).trans (by simp)
          have x6 : w2.cell? ⟨wr.heap.size, 5, none⟩ = some (.int .i64 (E k).parent) := (hb1.cell (p := ⟨wr.heap.size, 5, none⟩) (by simp)).trans (by simp)
          clear hb1 hc hf CK HX HXS HBR hI e1 e2 e3 e4 e5 e6
          have hwr : Hid (wr.heap.size < w2.heap.size) := hr1
          generalize wr.heap.size = B at *
          go_loop [5] (fun p => ∃ q : Nat, q ≤ k ∧ p = .int .i64 ((q : Int) - 1) ∧ upW E k q = upW E k k) (fun p => (intOf p + 1).toNat)
          case atStart => exact ⟨k, Nat.le_refl _, by go_num, rfl⟩
          case round =>
            obtain ⟨q, hq, rfl, hu⟩ := hrel
            have HU : Hid (upW E k q = upW E k k) := hu
            clear hu
            cases q with
            | zero =>
              have hu0 : upW E k k = 0 := by rw [← HU.out, upW_zero]
              have h4 : upI E k = -1 := by unfold upI; rw [hu0]; rfl
              rw [show ((0 : Nat) : Int) - 1 = -1 from rfl]
              by_cases hp : (E k).parent = -1
              · have HT : Hid (placeB E n k = decide ((E k).level = 0)) := place_top z1 z2 (by rw [hp, h4]) hu0
                rw [hp] at x6
                by_cases hl : (E k).level = 0
                · have HO1 : Hid (fitTo E n (k + 1)) := fitTo_succ HOK.out (fit_of (may_kind HM.out).1 (by rw [HT.out]; exact decide_eq_true hl))
                  rw [hl] at x5
                  clear hp hl hu0 h4 HT HU
                  go_wp2
                  go_roundw
                  case rel => exact ⟨k + 1, by omega, by go_num, HO1.out, HW.out⟩
                  case measure => simp [intOf]; omega
                · have HR : Hid (nodesF E n = 4) := nodesF_no (by omega) hlt (fit_kind_no (by rw [HT.out]; exact decide_eq_false hl))
                  have hl' : ((E k).level != 0) = true := by simpa using hl
                  clear hp hl hu0 h4 HT HU
                  go_wp2
                  go_ret
                  exact ⟨ret_int HR.out.symm, HW.out⟩
              · have HR : Hid (nodesF E n = 4) := nodesF_no (by omega) hlt (fit_kind_no (fit_up (by rw [h4]; exact hp)))
                have hp' : ((E k).parent != -1) = true := by simpa using hp
                clear hp hu0 h4 HU
                go_wp2
                go_ret
                exact ⟨ret_int HR.out.symm, HW.out⟩
            | succ p =>
              rw [show ((p + 1 : Nat) : Int) - 1 = (p : Int) by omega]
              obtain ⟨p1, p2, p3, p4, p5, p6⟩ := HE.out.below HW.out hb0 p (by omega)
              have hfp := HOK.out p (by omega)
              obtain ⟨_, s1, s2, _⟩ := fit_parts hfp
              obtain ⟨r, hr, hpar, _⟩ := fit_parent hfp
              have hpn : p < n := by omega
              have hpk : p < k := by omega
              clear hfp
              by_cases hin : (p : Int) + (E p).size < k
              · have HG : Hid (upW E k r = upW E k k) := by
                  have e : upW E k r = upW E k k := by rw [← HU.out, upW_go hin hpar hr]
                  exact e
                rw [hpar] at p6
                generalize (E p).size = z at *
                clear hpar p1 p2 p3 p5 HU
                go_wp2
                go_round
                case rel => exact ⟨r, by omega, rfl, HG.out⟩
                case measure => simp [intOf]; omega
              · have hu1 : upW E k k = p + 1 := by rw [← HU.out, upW_stay hin]
                have h4 : upI E k = p := by unfold upI; rw [hu1]; omega
                clear HU hpar
                by_cases hp : (E k).parent = (p : Int)
                · have HT : Hid (placeB E n k = decide ((E k).level = (E p).level + 1 ∧ (k : Int) + (E k).size ≤ p + (E p).size ∧ (E k).kind ≠ 6 ∧ ((E k).kind = 2 → (E p).kind = 1 ∧ (k = p + 1 ∨ (E (k - 1)).kind = 2)))) := place_in z1 z2 (by rw [hp, h4]) hu1
                  have k6 : (E k).kind ≠ 6 := fun h => by have := (may_kind HM.out).2 h; omega
                  obtain ⟨q1, _, _, _, _, _⟩ := HE.out.below HW.out hb0 (k - 1) (by omega)
                  have hpkind := up_kind HOK.out hu1
                  have hlv := level_in HOK.out p hpk
                  have hi1 : ((k : Int) - 1) = ((k - 1 : Nat) : Int) := by omega
                  have hi2 : k - 1 < n := by omega
                  rw [hp] at x6
                  clear hp hu1 h4
                  generalize (E k).level = lx at *
                  generalize (E p).level = lp at *
                  generalize (E k).size = sx at *
                  generalize (E p).size = sp at *
                  have HKB : Hid (kindB (E k) = true) := (may_kind HM.out).1
                  generalize hkk : (E k).kind = kx at *
                  clear hkk
                  generalize (E p).kind = kp at *
                  generalize (E (k - 1)).kind = kq at *
                  by_cases c1 : lx = lp + 1
                  · have c1' : (lx != lp + 1) = false := by simpa using c1
                    by_cases c2 : (p : Int) + sp < k + sx
                    · have HR : Hid (nodesF E n = 4) := nodesF_no (by omega) hlt (fit_kind_no (by rw [HT.out]; exact decide_eq_false (fun h => by omega)))
                      clear HT c1 k6
                      rcases hpkind with rfl | rfl
                      all_goals
                        go_wp2
                        go_ret
                        exact ⟨ret_int HR.out.symm, HW.out.alloc HW.out.size _⟩
                    · have HT2 : Hid (placeB E n k = decide (kx = 2 → kp = 1 ∧ (k = p + 1 ∨ kq = 2))) := by
                        have e : placeB E n k = decide (kx = 2 → kp = 1 ∧ (k = p + 1 ∨ kq = 2)) := by
                          rw [HT.out]
                          exact decide_eq_decide.2 ⟨fun h => h.2.2.2, fun h => ⟨c1, by omega, k6, h⟩⟩
                        exact e
                      clear HT c1 k6
                      by_cases k2 : kx = 2
                      · rcases hpkind with rfl | rfl
                        · cases a2 : (((k - 1 : Nat) : Int) != (p : Int))
                          · have HR1 : Hid (placeB E n k = true) := by
                              have e : placeB E n k = true := by
                                have a4 : ((k - 1 : Nat) : Int) = (p : Int) := by simpa using a2
                                rw [HT2.out]; exact decide_eq_true (fun _ => ⟨rfl, .inl (by omega)⟩)
                              exact e
                            subst k2
                            have HO1 : Hid (fitTo E n (k + 1)) := fitTo_succ HOK.out (fit_of HKB.out HR1.out)
                            clear HT2 HR1
                            go_wp2
                            go_roundw
                            case rel => exact ⟨k + 1, by omega, by go_num, HO1.out, HW.out.alloc HW.out.size _⟩
                            case measure => simp [intOf]; omega
                          · cases a3 : (kq != 2)
                            · have HR1 : Hid (placeB E n k = true) := by
                                have e : placeB E n k = true := by
                                  have a4 : kq = 2 := by simpa using a3
                                  rw [HT2.out]; exact decide_eq_true (fun _ => ⟨rfl, .inr a4⟩)
                                exact e
                              subst k2
                              have HO1 : Hid (fitTo E n (k + 1)) := fitTo_succ HOK.out (fit_of HKB.out HR1.out)
                              clear HT2 HR1
                              go_wp2
                              go_roundw
                              case rel => exact ⟨k + 1, by omega, by go_num, HO1.out, HW.out.alloc HW.out.size _⟩
                              case measure => simp [intOf]; omega
                            · have HR : Hid (nodesF E n = 4) := nodesF_no (by omega) hlt (fit_kind_no (by
                                rw [HT2.out]
                                refine decide_eq_false (fun h => ?_)
                                rcases (h k2).2 with h | h
                                · have a4 : ¬ (((k - 1 : Nat) : Int) = (p : Int)) := by simpa using a2
                                  omega
                                · simp [h] at a3))
                              subst k2
                              go_wp2
                              go_ret
                              exact ⟨ret_int HR.out.symm, HW.out.alloc HW.out.size _⟩
                        · have HR : Hid (nodesF E n = 4) := nodesF_no (by omega) hlt (fit_kind_no (by
                            rw [HT2.out]
                            refine decide_eq_false (fun h => ?_)
                            have := (h k2).1
                            omega))
                          subst k2
                          go_wp2
                          go_ret
                          exact ⟨ret_int HR.out.symm, HW.out.alloc HW.out.size _⟩
                      · have HR1 : Hid (placeB E n k = true) := by
                          have e : placeB E n k = true := by rw [HT2.out]; exact decide_eq_true (fun h => absurd h k2)
                          exact e
                        have k2' : (kx == 2) = false := by simpa using k2
                        clear k2
                        rcases hpkind with rfl | rfl
                        all_goals
                          have HO1 : Hid (fitTo E n (k + 1)) := fitTo_succ HOK.out (fit_of HKB.out HR1.out)
                          clear HT2 HR1
                          go_wp2
                          go_roundw
                          case rel => exact ⟨k + 1, by omega, by go_num, HO1.out, HW.out.alloc HW.out.size _⟩
                          case measure => simp [intOf]; omega
                  · have c1' : (lx != lp + 1) = true := by simpa using c1
                    have HR : Hid (nodesF E n = 4) := nodesF_no (by omega) hlt (fit_kind_no (by rw [HT.out]; exact decide_eq_false (fun h => by omega)))
                    clear HT c1 k6
                    rcases hpkind with rfl | rfl
                    all_goals
                      go_wp2
                      go_ret
                      exact ⟨ret_int HR.out.symm, HW.out.alloc HW.out.size _⟩
                · have HR : Hid (nodesF E n = 4) := nodesF_no (by omega) hlt (fit_kind_no (fit_up (by rw [h4]; exact hp)))
                  have hp' : ((E k).parent != (p : Int)) = true := by simpa using hp
                  generalize (E p).size = z at *
                  clear hp hu1 h4
                  go_wp2
                  go_ret
                  exact ⟨ret_int HR.out.symm, HW.out⟩
    · have e : k = n := by omega
      subst e
      have HR : Hid (nodesF E k = 0) := nodesF_ok (by omega) hok
      have HBR : Hid (Below w.heap.size w wr) := hbr
      clear hok hbr
      go_wp2
      go_ret
      exact ⟨ret_int HR.out.symm, HBR.out⟩
set_option maxHeartbeats 400000 in
theorem nodesFault_big (a : Option Addr) (n cap : Nat) (w : World) (hn : 100000 < n) (hm : n ≤ maxLen) :
    Calls Tryd.prog 11 #[.slice a n cap] w fun e w' => e = .returned (.int .i64 1) ∧ Below w.heap.size w w' := by
  unfold maxLen at hm
  go_enter Tryd.func11, Tryd.ntmps11
  go_wp2
  go_ret
  exact ⟨rfl, Below.refl _ _⟩
set_option maxHeartbeats 400000 in
theorem nodesFault_zero (a : Option Addr) (cap : Nat) (w : World) :
    Calls Tryd.prog 11 #[.slice a 0 cap] w fun e w' => e = .returned (.int .i64 0) ∧ Below w.heap.size w w' := by
  go_enter Tryd.func11, Tryd.ntmps11
  go_wp2
  go_loop [3] (fun i => i = .int .i64 0) (fun _ => 0)
  case atStart => rfl
  case round =>
    subst hrel
    go_wp2
    go_ret
    exact ⟨rfl, Below.refl _ _⟩
theorem nodesFault_any (b off n cap : Nat) (E : Nat → Nd) (w : World) (hcap : n ≤ cap) (hm : cap ≤ maxLen) (hT : Tabs w) (hb0 : b < w.heap.size) (hE : NdsAt w b off n E)
    (hsz : ∀ i, i < n → (E i).name.size ≤ Go.maxLen ∧ (E i).value.size ≤ Go.maxLen) :
    Calls Tryd.prog 11 #[.slice (some ⟨b, off, none⟩) n cap] w fun e w' => e = .returned (.int .i64 (nodesF E n)) ∧ Below w.heap.size w w' := by
  by_cases hn : 100000 < n
  · rw [nodesF_size hn]
    exact nodesFault_big _ n cap w hn (Nat.le_trans hcap hm)
  · exact nodesFault_some b off n cap E w (by omega) hcap hT hb0 hE hsz
end Go.Proofs.YtnfljohddpadhaaDoor
