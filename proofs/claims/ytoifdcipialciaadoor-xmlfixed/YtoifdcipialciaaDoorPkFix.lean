/-
  THE LAW XmlFixed.
-/
import Derived.Test.YtoifdcipialciaaDoorPxBackD
import Derived.Test.YtoifdcipialciaaDoorShow
set_option linter.unusedVariables false
namespace Go.Proofs.YtoifdcipialciaaDoor
set_option maxRecDepth 100000
open Go.RowKit

theorem check_okF {E : Nat → Ev} {n : Nat} (h : checkN E n = 0) : n ≤ 400 ∧ okTo E n ∧ (stAt E n).d = 0 := by
  by_cases h4 : 400 < n
  · rw [checkN_size h4] at h; exact absurd h (by decide)
  · have hok : okTo E n := by
      intro j hj
      by_cases he : errAt E j = 0
      · exact he
      · exfalso
        unfold checkN at h
        rw [if_neg h4] at h
        cases hf : (List.range n).find? (fun j => decide (errAt E j ≠ 0)) with
        | none =>
          have := List.find?_eq_none.1 hf j (List.mem_range.2 hj)
          simp at this
          exact he this
        | some q =>
          rw [hf] at h
          have := List.find?_some hf
          simp at this
          exact this h
    rw [checkN_end h4 hok] at h
    by_cases hc : n = 0 ∨ 0 < (stAt E n).d
    · rw [if_pos hc] at h; exact absurd h (by decide)
    · exact ⟨by omega, hok, by omega⟩

/-- what is parsed may be shown, and is parsed alike -/
theorem Ls_evAt (L : List Ev) : Ls (evAt L) L.length = L := by
  refine List.ext_getElem (by simp [Ls]) fun i h1 h2 => ?_
  simp only [Ls, List.getElem_map, List.getElem_range]
  unfold evAt
  rw [List.getD_eq_getElem?_getD, List.getElem?_eq_getElem h2]
  rfl
theorem val_of {L : List Ev} (h : checkL L = 0) : L.length ≤ 400 ∧ Val (evAt L) L.length := by
  unfold checkL at h
  obtain ⟨h1, h2, h3⟩ := check_okF h
  refine ⟨h1, ⟨h2, h3, ?_⟩⟩
  rcases Nat.eq_zero_or_pos L.length with e | e
  · rw [e, checkN_zero] at h; exact absurd h (by decide)
  · exact e
theorem parse_ok {s : ByteArray} (h : (parseM s).1 = 0) : s.size ≤ 4000 ∧ checkL (parseM s).2 = 0 ∧ Fine (parseM s).2 := by
  unfold parseM at h ⊢
  by_cases c0 : 4000 < s.size
  · rw [if_pos c0] at h; exact absurd h (by decide)
  · rw [if_neg c0] at h ⊢
    by_cases c1 : (documentM s).1 = 0
    · rw [if_pos c1] at h ⊢
      by_cases c2 : checkL (documentM s).2.2.1 = 0
      · rw [if_pos c2]; exact ⟨by omega, c2, documentM_fine (by omega)⟩
      · rw [if_neg c2] at h; exact absurd h c2
    · rw [if_neg c1] at h; exact absurd h c1
theorem parse_bad {s : ByteArray} (h : ¬ (parseM s).1 = 0) : (parseM s).2 = [] := by
  unfold parseM at h ⊢
  by_cases c0 : 4000 < s.size
  · rw [if_pos c0]
  · rw [if_neg c0] at h ⊢
    by_cases c1 : (documentM s).1 = 0
    · rw [if_pos c1] at h ⊢
      by_cases c2 : checkL (documentM s).2.2.1 = 0
      · rw [if_pos c2] at h; exact absurd rfl h
      · rw [if_neg c2]
    · rw [if_neg c1]
theorem parse_again {L : List Ev} (h : checkL L = 0) : parseM (tx (showR (evAt L) L.length)) = if 4000 < (showR (evAt L) L.length).length then (1, []) else (0, L) := by
  have hb := show_back (val_of h).2
  rw [Ls_evAt] at hb
  unfold parseM
  rw [tx_size]
  split
  · rfl
  · rw [hb, if_pos rfl, if_pos h]
theorem tells_m : (parseM ⟨#[]⟩).1 = 5 := by decide +kernel
theorem show_own {w : World} {base : Nat} {ev : Value} {L : List Ev} (h : w.ownsRow base 31 3 ev L.length (evsCp L)) (hf : Fine L) (hc : checkL L = 0) (henv : Env w) (ht : EscTab w) :
    Calls Tryd.prog 6 #[ev] w fun e w' => e = .returned (.tuple #[.string (tx (showR (evAt L) L.length)), .int .i64 0]) ∧ Below w.heap.size w w' := by
  have hlt := h.lt
  obtain ⟨h4, V⟩ := val_of hc
  have hev := fun g cap (e : ev = .slice (some ⟨g, 0, none⟩) L.length cap) => evs_of (g := g) (cap := cap) (by rw [← e]; exact h)
  rcases h.2 with ⟨rfl, h0⟩ | ⟨g, cap, cur, rfl, hb, hg, hn, hm, hz, ht'⟩
  · have := V.pos; omega
  · refine show_some g 0 L.length cap (evAt L) w h4 hn hm henv ht (hlt g rfl).2 (hev g cap rfl) ?_ hc V.ok V.dz V.pos
    intro i hi
    have hm : evAt L i ∈ L := by
      unfold evAt
      rw [List.getD_eq_getElem?_getD, List.getElem?_eq_getElem hi]
      exact List.getElem_mem hi
    have := hf _ hm
    unfold Go.maxLen
    omega
set_option maxHeartbeats 1600000 in
theorem equal_walk (g1 c1 g2 c2 n : Nat) (E : Nat → Ev) (w : World) (h1 : EvsAt w g1 0 n E) (h2 : EvsAt w g2 0 n E) (hn : n ≤ 400) (hc1 : n ≤ c1) (hc2 : n ≤ c2) (hm1 : c1 ≤ maxLen) (hm2 : c2 ≤ maxLen) :
    Calls Tryd.prog 7 #[.slice (some ⟨g1, 0, none⟩) n c1, .slice (some ⟨g2, 0, none⟩) n c2] w fun e w' => e = .returned (.bool true) ∧ Below w.heap.size w w' := by
  have H1 : Hid (EvsAt w g1 0 n E) := h1
  have H2 : Hid (EvsAt w g2 0 n E) := h2
  unfold maxLen at hm1 hm2
  clear h1 h2
  go_enter Tryd.func7, Tryd.ntmps7
  go_wp2
  go_loopw [13] (fun i wr => ∃ k q : Nat, k ≤ n ∧ i = .int .i64 k ∧ wr = w.drewN q) (fun i _ => n - (intOf i).toNat)
  case atStart => exact ⟨0, 0, Nat.zero_le _, rfl, rfl⟩
  case round =>
    obtain ⟨k, q, hk, rfl, rfl⟩ := hrel
    by_cases hlt : k < n
    · obtain ⟨a1, a2, a3⟩ := H1.out k hlt
      obtain ⟨b1, b2, b3⟩ := H2.out k hlt
      rw [Nat.zero_add] at a1 a2 a3 b1 b2 b3
      have hki : (k : Int) < (n : Int) := by omega
      generalize (E k).kind = xk at *
      generalize (E k).name = xn at *
      generalize (E k).value = xv at *
      go_upto_region 6 with fail
      go_quiet (fail)
      go_wp2
      go_roundw
      case rel => exact ⟨k + 1, q + nq, by omega, by go_num, by first | rfl | (simp [World.drewN_add]) | exact (World.drewN_add _ _ _).symm⟩
      case measure => simp [intOf]; omega
    · have e : ¬ (k : Int) < (n : Int) := by omega
      go_wp2
      go_ret
      exact ⟨rfl, below_drawnP (Below.refl _ _) q⟩
theorem equal_own {w : World} {b1 b2 : Nat} {u v : Value} {L : List Ev} (h1 : w.ownsRow b1 31 3 u L.length (evsCp L)) (h2 : w.ownsRow b2 31 3 v L.length (evsCp L)) (h4 : L.length ≤ 400) (h0 : 0 < L.length) :
    Calls Tryd.prog 7 #[u, v] w fun e w' => e = .returned (.bool true) ∧ Below w.heap.size w w' := by
  have hev := fun g cap (e : u = .slice (some ⟨g, 0, none⟩) L.length cap) => evs_of (g := g) (cap := cap) (by rw [← e]; exact h1)
  have hew := fun g cap (e : v = .slice (some ⟨g, 0, none⟩) L.length cap) => evs_of (g := g) (cap := cap) (by rw [← e]; exact h2)
  rcases h1.2 with ⟨_, e⟩ | ⟨g, cap, cur, rfl, hb, hg, hn, hm, hz, ht⟩
  · omega
  · rcases h2.2 with ⟨_, e⟩ | ⟨g', cap', cur', rfl, hb', hg', hn', hm', hz', ht'⟩
    · omega
    · exact equal_walk g cap g' cap' L.length (evAt L) w (hev g cap rfl) (hew g' cap' rfl) h4 hn hn' hm hm'
theorem EscTab.allF {w w' : World} (h : EscTab w) (hb : Below w.heap.size w w') : EscTab w' := by
  obtain ⟨t, fr, h⟩ := h
  exact ⟨t, fr, (hb.block _ (Array.getElem?_eq_some_iff.1 h).1).trans h⟩
set_option maxHeartbeats 800000 in
theorem tells_is (w : World) (ht : EscTab w) (hv : Env w) :
    Calls Tryd.prog 4 #[] w fun e w' => e = .returned (.bool true) ∧ Below w.heap.size w w' := by
  have CP : Hid (Calls Tryd.prog 5 #[.string ⟨#[]⟩] w fun e w' => ∃ ev, e = .returned (.tuple #[ev, .int .i64 5]) ∧ Below w.heap.size w w') := (parse_is ⟨#[]⟩ w (by decide) ht hv).mono fun e w' ⟨ev, k1, _, k3⟩ => ⟨ev, by rw [← tells_m]; exact k1, k3⟩
  go_enter Tryd.func4, Tryd.ntmps4
  go_wp2_with (first | (go_at_call 5; refine CP.out.mono ?_; rintro e w1 ⟨ev, rfl, hb1⟩))
  all_goals
    go_ret
    exact ⟨rfl, hb1⟩
set_option maxHeartbeats 3200000 in
theorem lawXmlFixed (s : ByteArray) (w : World) (hs : s.size ≤ maxLen) (ht : EscTab w) (hv : Env w) :
    Calls Tryd.prog 3 #[.string s] w fun e w' => e = .returned (.bool true) ∧ Below w.heap.size w w' := by
  have CT : Hid (Calls Tryd.prog 4 #[] w fun e w' => e = .returned (.bool true) ∧ Below w.heap.size w w') := tells_is w ht hv
  have HT : Hid (∀ W, Below w.heap.size w W → EscTab W) := fun W h => ht.allF h
  have HV : Hid (∀ W, Below w.heap.size w W → Env W) := fun W h => hv.below h
  have CP : Hid (∀ W, Below w.heap.size w W → Calls Tryd.prog 5 #[.string s] W (ParsePost W (parseM s))) := fun W h => parse_is s W hs (HT.out W h) (HV.out W h)
  have HOK : Hid ((parseM s).1 = 0 → s.size ≤ 4000 ∧ checkL (parseM s).2 = 0 ∧ Fine (parseM s).2) := parse_ok
  have HBD : Hid (¬ (parseM s).1 = 0 → (parseM s).2 = []) := parse_bad
  clear ht hv hs
  generalize parseM s = P at CP HOK HBD
  obtain ⟨pe, L⟩ := P
  by_cases e0 : pe = 0
  · subst e0
    obtain ⟨hs4, hc', hf'⟩ := HOK.out rfl
    have hc : checkL L = 0 := hc'
    have hf : Fine L := hf'
    clear hc' hf'
    obtain ⟨h400, V⟩ := val_of hc
    obtain ⟨t, hte⟩ : ∃ t, t = tx (showR (evAt L) L.length) := ⟨_, rfl⟩
    have hpa := parse_again hc
    have htz : t.size = (showR (evAt L) L.length).length := by rw [hte]; rfl
    rw [← hte, ← htz] at hpa
    have hVp := V.pos
    have HLN : Hid (L.length ≤ 400 ∧ 0 < L.length) := ⟨h400, hVp⟩
    have htm : t.size ≤ maxLen := by
      have h5 := show_len V.ok
      rw [htz]
      unfold maxLen
      omega
    have CS : Hid (∀ W ev base, W.ownsRow base 31 3 ev L.length (evsCp L) → Below w.heap.size w W → Calls Tryd.prog 6 #[ev] W fun e w' => e = .returned (.tuple #[.string t, .int .i64 0]) ∧ Below W.heap.size W w') := fun W ev base h1 h2 => by
      have h := show_own h1 hf hc (HV.out W h2) (HT.out W h2)
      rw [← hte] at h
      exact h
    have CP2 : Hid (∀ W, Below w.heap.size w W → Calls Tryd.prog 5 #[.string t] W (ParsePost W (parseM t))) := fun W h => parse_is t W htm (HT.out W h) (HV.out W h)
    unfold maxLen at htm
    clear hte htz hc hf V HOK HBD hVp h400
    by_cases c1 : 4000 < t.size
    · rw [if_pos c1] at hpa
      rw [hpa] at CP2
      have hgt : (s.size : Int) < (t.size : Int) := by omega
      clear hpa
      go_enter Tryd.func3, Tryd.ntmps3
      go_wp2_with (first
        | (go_at_call 4; refine CT.out.mono ?_; rintro e w1 ⟨rfl, hb1⟩; have HB1 : Hid (Below w.heap.size w w1) := hb1; clear hb1)
        | (go_at_call_has 5 (Value.string s); refine (CP.out _ HB1.out).mono ?_; rintro e w2 ⟨ev2, rfl, ho2, hb2⟩; have HB2 : Hid (Below w.heap.size w w2) := HB1.out.trans (hb2.mono HB1.out.size); have HO2 : Hid (w2.ownsRow w1.heap.size 31 3 ev2 L.length (evsCp L)) := ho2; clear ho2 hb2)
        | (go_at_call 6; refine (CS.out _ _ _ HO2.out HB2.out).mono ?_; rintro e w3 ⟨rfl, hb3⟩; have HB3 : Hid (Below w.heap.size w w3) := HB2.out.trans (hb3.mono HB2.out.size); clear hb3)
        | (go_at_call_has 5 (Value.string t); refine (CP2.out _ HB3.out).mono ?_; rintro e w4 ⟨ev4, rfl, ho4, hb4⟩; have HB4 : Hid (Below w.heap.size w w4) := HB3.out.trans (hb4.mono HB3.out.size); clear ho4 hb4))
      all_goals
        go_ret
        exact ⟨rfl, HB4.out⟩
    · rw [if_neg c1] at hpa
      rw [hpa] at CP2
      clear hpa
      go_enter Tryd.func3, Tryd.ntmps3
      go_wp2_with (first
        | (go_at_call 4; refine CT.out.mono ?_; rintro e w1 ⟨rfl, hb1⟩; have HB1 : Hid (Below w.heap.size w w1) := hb1; clear hb1)
        | (go_at_call_has 5 (Value.string s); refine (CP.out _ HB1.out).mono ?_; rintro e w2 ⟨ev2, rfl, ho2, hb2⟩; have HB2 : Hid (Below w.heap.size w w2) := HB1.out.trans (hb2.mono HB1.out.size); have HO2 : Hid (w2.ownsRow w1.heap.size 31 3 ev2 L.length (evsCp L)) := ho2; clear ho2 hb2 CP)
        | (go_at_call 6; refine (CS.out _ _ _ HO2.out HB2.out).mono ?_; rintro e w3 ⟨rfl, hb3⟩; have HB3 : Hid (Below w.heap.size w w3) := HB2.out.trans (hb3.mono HB2.out.size); have HO3 : Hid (w3.ownsRow w1.heap.size 31 3 ev2 L.length (evsCp L)) := own_keepP HO2.out (fun b k1 k2 _ => hb3.block b k2); clear hb3)
        | (go_at_call 5; refine (CP2.out _ HB3.out).mono ?_; rintro e w4 ⟨ev4, rfl, ho4, hb4⟩; have HB4 : Hid (Below w.heap.size w w4) := HB3.out.trans (hb4.mono HB3.out.size); have HO4 : Hid (w4.ownsRow w1.heap.size 31 3 ev2 L.length (evsCp L)) := own_keepP HO3.out (fun b k1 k2 _ => hb4.block b k2); have HA4 : Hid (w4.ownsRow w3.heap.size 31 3 ev4 L.length (evsCp L)) := ho4; clear ho4 hb4)
        | (go_at_call 7; refine (equal_own HO4.out HA4.out HLN.out.1 HLN.out.2).mono ?_; rintro e w5 ⟨rfl, hb5⟩; have HB5 : Hid (Below w.heap.size w w5) := HB4.out.trans (hb5.mono HB4.out.size); clear hb5))
      all_goals
        go_ret
        exact ⟨rfl, HB5.out⟩
  · have e1 := HBD.out e0
    simp only at e1
    subst e1
    have t0 : (pe != 0) = true := by rw [bne_iff_ne]; exact e0
    have CE : Hid (∀ W, Below w.heap.size w W → Calls Tryd.prog 5 #[.string ⟨#[]⟩] W fun e w' => ∃ ev, e = .returned (.tuple #[ev, .int .i64 5]) ∧ Below W.heap.size W w') := fun W h => (parse_is ⟨#[]⟩ W (by decide) (HT.out W h) (HV.out W h)).mono fun e w' ⟨ev, k1, _, k3⟩ => ⟨ev, by rw [← tells_m]; exact k1, k3⟩
    clear HOK HBD e0
    go_enter Tryd.func3, Tryd.ntmps3
    go_wp2_with (first
      | (go_at_call 4; refine CT.out.mono ?_; rintro e w1 ⟨rfl, hb1⟩; have HB1 : Hid (Below w.heap.size w w1) := hb1; clear hb1)
      | (go_at_call 5; refine (CP.out _ HB1.out).mono ?_; rintro e w2 ⟨ev2, rfl, ho2, hb2⟩; obtain ⟨ea, ec, rfl⟩ := own_shapeP ho2; have HB2 : Hid (Below w.heap.size w w2) := HB1.out.trans (hb2.mono HB1.out.size); clear ho2 hb2 CP)
      | (go_at_call 5; refine (CE.out _ HB2.out).mono ?_; rintro e w3 ⟨ev3, rfl, hb3⟩; have HB3 : Hid (Below w.heap.size w w3) := HB2.out.trans (hb3.mono HB2.out.size); clear hb3 CE))
    all_goals
      go_ret
      exact ⟨rfl, HB3.out⟩
end Go.Proofs.YtoifdcipialciaaDoor
