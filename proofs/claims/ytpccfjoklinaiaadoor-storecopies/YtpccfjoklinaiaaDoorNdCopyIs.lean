/-
  CONTRACT of store.Copy, at all arguments.
-/
import Derived.Test.YtpccfjoklinaiaaDoorNdCopy
import Derived.Test.YtpccfjoklinaiaaDoorNdCopied
set_option linter.unusedVariables false
namespace Go.Proofs.YtpccfjoklinaiaaDoor
open Go.RowKit

set_option maxHeartbeats 800000 in
theorem copy_at (a1 a2 : Option Addr) (n cap1 m cap2 : Nat) (i par : Int) (E : Nat → Nd) (w : World) (ha : ¬ atF E n i = 0)
    (hC : Calls Tryd.prog 28 #[.slice a1 n cap1, .int .i64 i] w fun e w' => e = .returned (.int .i64 (atF E n i)) ∧ Below w.heap.size w w') :
    Calls Tryd.prog 16 #[.slice a1 n cap1, .int .i64 i, .slice a2 m cap2, .int .i64 par] w fun e w' => e = .returned (.tuple #[.slice none 0 0, .int .i64 (atF E n i)]) ∧ Below w.heap.size w w' := by
  have CC : Hid (Calls Tryd.prog 28 #[.slice a1 n cap1, .int .i64 i] w fun e w' => e = .returned (.int .i64 (atF E n i)) ∧ Below w.heap.size w w') := hC
  have hne2 : (atF E n i != 0) = true := by simpa using ha
  clear ha hC
  generalize atF E n i = R at *
  go_enter Tryd.func16, Tryd.ntmps16
  go_wp2_with (first | (go_at_call 28; refine CC.out.mono ?_; rintro e w1 ⟨rfl, hb1⟩))
  go_ret2
  exact ⟨rfl, hb1⟩
set_option maxHeartbeats 800000 in
set_option maxRecDepth 100000 in
theorem copy_some (b off n cap i z : Nat) (E F : Nat → Nd) (w : World) (a2 : Option Addr) (m cap2 : Nat) (par : Int) (hn : n ≤ 100000) (hcap : n ≤ cap) (hmx : cap ≤ maxLen) (hi : i < n) (hE : NdsAt w b off n E) (hb0 : b < w.heap.size) (hft : fitTo E n n) (hz : (E i).size = (z : Int)) (hzn : i + 1 + z ≤ n)
    (hmm : m ≤ 2199023255552) (hc2 : m ≤ cap2) (hv : NdsIs w (.slice a2 m cap2) m F) (hnil : a2 = none → cap2 = 0)
    (hC : Calls Tryd.prog 28 #[.slice (some ⟨b, off, none⟩) n cap, .int .i64 i] w fun e w' => e = .returned (.int .i64 0) ∧ Below w.heap.size w w') :
    Calls Tryd.prog 16 #[.slice (some ⟨b, off, none⟩) n cap, .int .i64 i, .slice a2 m cap2, .int .i64 par] w fun e w' => ∃ v, e = .returned (.tuple #[v, .int .i64 (if (E i).kind = 6 then 3 else if ¬ (-1 ≤ par ∧ par < m) then 2 else if 100000 < (m : Int) + 1 + (z : Int) then 1 else 0)]) ∧
      NdsIs w' v (if (if (E i).kind = 6 then 3 else if ¬ (-1 ≤ par ∧ par < m) then 2 else if 100000 < (m : Int) + 1 + (z : Int) then 1 else 0 : Int) = 0 then m + 1 + z else 0) (madeN E F i m par) ∧ Below w.heap.size w w' := by
  have CC : Hid (Calls Tryd.prog 28 #[.slice (some ⟨b, off, none⟩) n cap, .int .i64 i] w fun e w' => e = .returned (.int .i64 0) ∧ Below w.heap.size w w') := hC
  have HE : Hid (∀ W, Below w.heap.size w W → NdsAt W b off n E) := fun W hW => hE.below hW hb0
  have HNIL : Hid (∀ W, NdsIs W (.slice none 0 0) 0 (madeN E F i m par)) := fun W => ⟨none, 0, rfl, Nat.le_refl _, Nat.zero_le _, fun h => by omega⟩
  by_cases h6 : (E i).kind = 6
  · rw [if_pos h6]
    clear hE hft hv hC hnil
    go_enter Tryd.func16, Tryd.ntmps16
    go_wp2_with (first | (go_at_call 28; refine CC.out.mono ?_; rintro e w1 ⟨rfl, hb1⟩; have HB1 : Hid (Below w.heap.size w w1) := hb1; obtain ⟨e1, e2, e3, e4, e5, e6⟩ := HE.out w1 HB1.out i hi; rw [h6] at e1; clear hb1))
    go_ret2
    exact ⟨_, rfl, HNIL.out _, HB1.out⟩
  · rw [if_neg h6]
    have h6' : ((E i).kind == 6) = false := by simpa using h6
    clear h6
    by_cases hp : -1 ≤ par ∧ par < m
    · rw [if_neg (show ¬ ¬ (-1 ≤ par ∧ par < m) by omega)]
      obtain ⟨hp1, hp2⟩ := hp
      by_cases hs : 100000 < (m : Int) + 1 + (z : Int)
      · rw [if_pos hs]
        clear hE hft hv hC hnil
        go_enter Tryd.func16, Tryd.ntmps16
        go_wp2_with (first | (go_at_call 28; refine CC.out.mono ?_; rintro e w1 ⟨rfl, hb1⟩; have HB1 : Hid (Below w.heap.size w w1) := hb1; obtain ⟨e1, e2, e3, e4, e5, e6⟩ := HE.out w1 HB1.out i hi; rw [hz] at e4; clear hb1))
        go_ret2
        exact ⟨_, rfl, HNIL.out _, HB1.out⟩
      · rw [if_neg hs, if_pos rfl]
        obtain ⟨a, c, g1, _, _, g3⟩ := hv
        simp only [Value.slice.injEq, true_and] at g1
        obtain ⟨rfl, rfl⟩ := g1
        by_cases hpz : par < 0
        · have hpe : par = -1 := by omega
          subst hpe
          rcases Nat.eq_zero_or_pos m with hz0 | hz0
          · cases a2 with
            | none =>
              obtain rfl := hnil rfl
              exact copy_none b off n cap i z E F w m hz0 hn hcap hmx hi hE hb0 hft hz hzn (by omega) h6' hC
            | some a2 =>
              have hto : ∀ W, Below w.heap.size w W → ∀ j u, (ndCells F m)[j]? = some u → W.cell? (a2.add j) = some u := fun W _ j u hj => by
                have hj' : j < (ndCells F m).length := (List.getElem?_eq_some_iff.1 hj).1
                rw [ndCells_len] at hj'
                omega
              exact copy_neg b off n cap i z E F w m cap2 a2 hto hn hcap hmx hi hE hb0 hft hz hzn (by omega) h6' hC
          · obtain ⟨b2, off2, rfl, k4, k5⟩ := g3 hz0
            exact copy_neg b off n cap i z E F w m cap2 ⟨b2, off2, none⟩ (fun W hW => ndCells_in (k5.below hW k4)) hn hcap hmx hi hE hb0 hft hz hzn (by omega) h6' hC
        · obtain ⟨p, rfl⟩ : ∃ p : Nat, par = p := ⟨par.toNat, by omega⟩
          obtain ⟨b2, off2, rfl, k4, k5⟩ := g3 (by omega)
          exact copy_pos b off n cap i z E F w m cap2 b2 off2 p k5 k4 (by omega) hn hcap hmx hi hE hb0 hft hz hzn (by omega) h6' hC
    · rw [if_pos hp]
      clear hE hft hv hC hnil
      by_cases hq : par < -1
      · clear hp
        go_enter Tryd.func16, Tryd.ntmps16
        go_wp2_with (first | (go_at_call 28; refine CC.out.mono ?_; rintro e w1 ⟨rfl, hb1⟩; have HB1 : Hid (Below w.heap.size w w1) := hb1; obtain ⟨e1, e2, e3, e4, e5, e6⟩ := HE.out w1 HB1.out i hi; clear hb1))
        go_ret2
        exact ⟨_, rfl, HNIL.out _, HB1.out⟩
      · have hq2 : ¬ par < (m : Int) := by omega
        clear hp
        go_enter Tryd.func16, Tryd.ntmps16
        go_wp2_with (first | (go_at_call 28; refine CC.out.mono ?_; rintro e w1 ⟨rfl, hb1⟩; have HB1 : Hid (Below w.heap.size w w1) := hb1; obtain ⟨e1, e2, e3, e4, e5, e6⟩ := HE.out w1 HB1.out i hi; clear hb1))
        go_ret2
        exact ⟨_, rfl, HNIL.out _, HB1.out⟩
set_option maxRecDepth 100000 in
theorem copy_is (v1 v2 : Value) (n m : Nat) (i par : Int) (E F : Nat → Nd) (w : World) (hv1 : NdsIs w v1 n E) (hv2 : NdsIs w v2 m F) (hT : Tabs w) (hf : NdsFine n E) (hmm : m ≤ 2199023255552) (hnil : ∀ k c, v2 = .slice none k c → c = 0) :
    Calls Tryd.prog 16 #[v1, .int .i64 i, v2, .int .i64 par] w fun e w' => ∃ v, e = .returned (.tuple #[v, .int .i64 (copyF E n i m par)]) ∧ NdsIs w' v (copyL E n i m par) (madeN E F i.toNat m par) ∧ Below w.heap.size w w' := by
  have hC := checkAt_is v1 n i E w hv1 hT hf
  have hv2k := hv2
  obtain ⟨a2, cap2, rfl, k1, k2, k3⟩ := hv2
  by_cases ha : atF E n i = 0
  · rw [ha] at hC
    obtain ⟨h0, j, rfl, hj⟩ := atF_zero ha
    obtain ⟨hn, hft⟩ := nodesF_fit h0
    obtain ⟨a, cap, rfl, h1, h2, h3⟩ := hv1
    obtain ⟨b, off, rfl, h4, h5⟩ := h3 (by omega)
    obtain ⟨_, s1, s2, _⟩ := fit_parts (hft j hj)
    have key := copy_some b off n cap j (E j).size.toNat E F w a2 m cap2 par hn h1 h2 hj h5 h4 hft (by omega) (by omega) hmm k1 hv2k (fun e => hnil m cap2 (by rw [e])) hC
    have e1 : (((E j).size.toNat : Nat) : Int) = (E j).size := by omega
    rw [e1] at key
    have e2 : copyF E n (j : Int) m par = (if (E j).kind = 6 then 3 else if ¬ (-1 ≤ par ∧ par < m) then 2 else if 100000 < (m : Int) + 1 + (E j).size then 1 else 0) := by unfold copyF; rw [if_pos ha, Int.toNat_natCast]
    unfold copyL
    rw [e2, Int.toNat_natCast]
    exact key
  · obtain ⟨a, cap, rfl, h1, h2, h3⟩ := hv1
    have e2 : copyF E n i m par = atF E n i := by unfold copyF; rw [if_neg ha]
    unfold copyL
    rw [e2, if_neg ha]
    exact (copy_at a a2 n cap m cap2 i par E w ha hC).mono fun e w' h => ⟨_, h.1, ⟨none, 0, rfl, Nat.le_refl _, Nat.zero_le _, fun h => by omega⟩, h.2⟩

/-- the law's own copy, and of one without nodes that it is nil -/
theorem nodes_is2 (v : Value) (n : Nat) (E : Nat → Nd) (w : World) (hv : NdsIs w v n E) (hreach : n * 64 ≤ 140737488351232) (hnil : ∀ c, v = .slice none 0 c → c = 0) :
    Calls Tryd.prog 12 #[v] w fun e w' => ∃ v', e = .returned v' ∧ NdsIs w' v' n E ∧ (∀ k c, v' = .slice none k c → c = 0) ∧ Below w.heap.size w w' := by
  rcases Nat.eq_zero_or_pos n with hz | hz
  · subst hz
    obtain ⟨a, cap, rfl, h1, h2, h3⟩ := hv
    obtain ⟨i0, hi0, hz0, hz1, hz2⟩ := info_parts info42
    cases a with
    | none =>
      obtain rfl := hnil cap rfl
      go_enter Tryd.func12, Tryd.ntmps12
      go_wp2_with (first | (at_builtin; refine wpList_append_own_none rfl _ _ 23 rfl w.heap.size 42 i0 6 Tryd.underlying23 hi0 _ _ _ rfl (World.ownsRow_nil _ _ _ _) rfl ?_))
      go_ret
      exact ⟨_, rfl, ⟨none, 0, rfl, Nat.le_refl _, Nat.zero_le _, fun h => by omega⟩, fun k c h => by simp at h; omega, Below.refl _ _⟩
    | some a =>
      go_enter Tryd.func12, Tryd.ntmps12
      go_wp2_with (first | (at_builtin; refine wpList_append_own _ rfl _ _ 23 rfl w.heap.size 42 i0 _ 6 64 Tryd.underlying23 hi0 hz0 hz1 hz2 rfl (by decide) _ _ _ rfl (World.ownsRow_nil _ _ _ _) a 0 cap [] rfl rfl (fun j u hj => by simp at hj) (fun u hu => by cases hu) (by decide) (by decide) (Nat.le_refl _) ?_; intro v' w1 hown hgrow hnil))
      have hv : v' = .slice none 0 0 := hnil.2 ⟨rfl, trivial⟩
      subst hv
      have HG : Hid (Below w.heap.size w w1) := (Below.refl _ _).grown hgrow (Nat.le_refl _) (fun k hk => by cases hk)
      clear hown hgrow hnil
      go_wp2
      go_ret
      exact ⟨_, rfl, ⟨none, 0, rfl, Nat.le_refl _, Nat.zero_le _, fun h => by omega⟩, fun k c h => by simp at h; omega, HG.out⟩
  · refine (nodes_is v n E w hv hreach hnil).mono ?_
    rintro e w' ⟨v', rfl, h1, h2⟩
    refine ⟨v', rfl, h1, fun k c h => ?_, h2⟩
    obtain ⟨a, cap, h3, _, _, h4⟩ := h1
    obtain ⟨b, off, rfl, _⟩ := h4 hz
    rw [h3] at h
    simp at h
end Go.Proofs.YtpccfjoklinaiaaDoor
