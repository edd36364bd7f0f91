/-
  CONTRACTS of the document's answer on a node's text (textAt, TextOf).
-/
import Derived.Test.YtpccfjoklinaiaaDoorNdText
set_option linter.unusedVariables false
namespace Go.Proofs.YtpccfjoklinaiaaDoor
open Go.RowKit

set_option maxHeartbeats 800000 in
theorem textAt_leaf (b off n cap i : Nat) (E : Nat → Nd) (w : World) (hn : n ≤ 100000) (hcap : n ≤ cap) (hi : i < n) (hE : NdsAt w b off n E) (hk : holdsB (E i).kind = false) :
    Calls Tryd.prog 33 #[.slice (some ⟨b, off, none⟩) n cap, .int .i64 i] w fun e w' => ∃ s : ByteArray, e = .returned (.string s) ∧ Hid (s.data.toList = textR E i) ∧ w' = w := by
  have HR : Hid (textR E i = (E i).value.data.toList) := by
    have e : textR E i = (E i).value.data.toList := by unfold textR; rw [hk]; rfl
    exact e
  obtain ⟨e1, e2, e3, e4, e5, e6⟩ := hE i hi
  have hk' := of_decide_eq_false hk
  have k1 : ((E i).kind != 1) = true := by simpa using (fun h => hk' (.inl h))
  have k6 : ((E i).kind != 6) = true := by simpa using (fun h => hk' (.inr h))
  clear hE hk hk'
  go_enter Tryd.func33, Tryd.ntmps33
  go_wp2
  go_ret
  exact ⟨_, rfl, HR.out.symm, rfl⟩

set_option maxHeartbeats 800000 in
theorem textAt_deep (b off n cap i z : Nat) (kd : Int) (E : Nat → Nd) (w : World) (hn : n ≤ 100000) (hcap : n ≤ cap) (hi : i < n) (hE : NdsAt w b off n E) (hft : fitTo E n n) (hkd : (E i).kind = kd) (hk : kd = 1 ∨ kd = 6) (hz : (E i).size = (z : Int)) (hzn : i + 1 + z ≤ n) :
    Calls Tryd.prog 33 #[.slice (some ⟨b, off, none⟩) n cap, .int .i64 i] w fun e w' => ∃ s : ByteArray, e = .returned (.string s) ∧ Hid (s.data.toList = textR E i) ∧ w' = w := by
  have HR : Hid (textR E i = catS (textL E (i + 1) z)) := by
    have e : textR E i = catS (textL E (i + 1) z) := by
      unfold textR
      have hh : holdsB (E i).kind = true := decide_eq_true (by rw [hkd]; exact hk)
      rw [if_pos hh, hz]; rfl
    exact e
  have HLC : Hid (∀ k, k ≤ z → (catS (textL E (i + 1) k)).length ≤ 20000 * k) := fun k hkz => catS_len (fun j hj => (fit_parts (hft (i + 1 + j) (by omega))).1)
  have HVS : Hid (∀ k, k < z → (E (i + 1 + k)).kind = 3 → (E (i + 1 + k)).value.size ≤ 20000) := fun k hkz h3 => value_short (fit_parts (hft (i + 1 + k) (by omega))).1 h3
  obtain ⟨e1, e2, e3, e4, e5, e6⟩ := hE i hi
  rw [hkd] at e1
  rw [hz] at e4
  have HE : Hid (NdsAt w b off n E) := hE
  clear hE hft hkd hz
  rcases hk with rfl | rfl
  all_goals
    go_enter Tryd.func33, Tryd.ntmps33
    go_wp2
    go_loop [5, 6] (fun s q => ∃ (k : Nat) (t : ByteArray), k ≤ z ∧ q = .int .i64 ((i + 1 + k : Nat) : Int) ∧ s = .string t ∧ t.data.toList = catS (textL E (i + 1) k)) (fun _ q => i + 1 + z - (intOf q).toNat)
    case atStart => exact ⟨0, ⟨#[]⟩, Nat.zero_le _, by go_num, rfl, rfl⟩
    case round =>
      obtain ⟨k, t, hk, rfl, rfl, ht⟩ := hrel
      have HT : Hid (t.data.toList = catS (textL E (i + 1) k)) := ht
      have hts : t.size ≤ 20000 * k := by
        have h1 := HLC.out k hk
        rw [← ht] at h1
        exact h1
      clear ht
      by_cases hlt : k < z
      · obtain ⟨f1, f2, f3, f4, f5, f6⟩ := HE.out (i + 1 + k) (by omega)
        have HS : Hid (textL E (i + 1) (k + 1) = if (E (i + 1 + k)).kind = 3 then textL E (i + 1) k ++ [(E (i + 1 + k)).value] else textL E (i + 1) k) := rfl
        cases h3 : ((E (i + 1 + k)).kind == 3)
        · have HS1 : Hid (t.data.toList = catS (textL E (i + 1) (k + 1))) := by
            have e : t.data.toList = catS (textL E (i + 1) (k + 1)) := by rw [HS.out, if_neg (by simpa using h3)]; exact HT.out
            exact e
          go_wp2
          go_round
          case rel => exact ⟨k + 1, t, by omega, by go_num, rfl, HS1.out⟩
          case measure => simp [intOf]; omega
        · have hvs := HVS.out k hlt (by simpa using h3)
          have HS1 : Hid ((t ++ (E (i + 1 + k)).value).data.toList = catS (textL E (i + 1) (k + 1))) := by
            have e : (t ++ (E (i + 1 + k)).value).data.toList = catS (textL E (i + 1) (k + 1)) := by rw [HS.out, if_pos (by simpa using h3), catS_push, app_list, HT.out]
            exact e
          go_wp2
          go_round
          case rel => exact ⟨k + 1, _, by omega, by go_num, rfl, HS1.out⟩
          case measure => simp [intOf]; omega
      · have e : k = z := by omega
        subst e
        go_wp2
        go_ret
        exact ⟨t, rfl, HT.out.trans HR.out.symm, rfl⟩

theorem textAt_any (b off n cap i : Nat) (E : Nat → Nd) (w : World) (hcap : n ≤ cap) (hi : i < n) (hE : NdsAt w b off n E) (h0 : nodesF E n = 0) :
    Calls Tryd.prog 33 #[.slice (some ⟨b, off, none⟩) n cap, .int .i64 i] w fun e w' => ∃ s : ByteArray, e = .returned (.string s) ∧ Hid (s.data.toList = textR E i) ∧ w' = w := by
  obtain ⟨hn, hft⟩ := nodesF_fit h0
  cases hk : holdsB (E i).kind
  · exact textAt_leaf b off n cap i E w hn hcap hi hE hk
  · obtain ⟨_, s1, s2, _⟩ := fit_parts (hft i hi)
    exact textAt_deep b off n cap i (E i).size.toNat _ E w hn hcap hi hE hft rfl (of_decide_eq_true hk) (by omega) (by omega)

set_option maxHeartbeats 400000 in
theorem textOf_is (v : Value) (n : Nat) (i : Int) (E : Nat → Nd) (w : World) (hv : NdsIs w v n E) (hT : Tabs w) (hf : NdsFine n E) :
    Calls Tryd.prog 15 #[v, .int .i64 i] w fun e w' => ∃ s : ByteArray, e = .returned (.tuple #[.string s, .int .i64 (atF E n i)]) ∧ Hid (s.data.toList = textS E n i) ∧ Below w.heap.size w w' := by
  have CC : Hid (Calls Tryd.prog 32 #[v, .int .i64 i] w fun e w' => e = .returned (.int .i64 (atF E n i)) ∧ Below w.heap.size w w') := nodeFault_is v n i E w hv hT hf
  by_cases ha : atF E n i = 0
  · obtain ⟨h0, m, rfl, hmn⟩ := atF_zero ha
    obtain ⟨a, cap, rfl, h1, h2, h3⟩ := hv
    obtain ⟨b, off, rfl, h4, h5⟩ := h3 (by omega)
    have HS : Hid (textS E n m = textR E m) := by
      have e : textS E n m = textR E m := by unfold textS; rw [if_pos ha]; rfl
      exact e
    rw [ha] at CC ⊢
    have CT : Hid (∀ W, Below w.heap.size w W → Calls Tryd.prog 33 #[.slice (some ⟨b, off, none⟩) n cap, .int .i64 m] W fun e w' => ∃ s : ByteArray, e = .returned (.string s) ∧ Hid (s.data.toList = textR E m) ∧ w' = W) :=
      fun W hW => textAt_any b off n cap m E W h1 hmn (h5.below hW h4) h0
    clear ha h0 h5 hT hf
    go_enter Tryd.func15, Tryd.ntmps15
    go_wp2_with (first | (go_at_call 32; refine CC.out.mono ?_; rintro e w1 ⟨rfl, hb1⟩) | (go_at_call 33; refine (CT.out _ hb1).mono ?_; rintro e w2 ⟨s, rfl, hs, rfl⟩))
    go_ret2
    exact ⟨s, rfl, hs.out.trans HS.out.symm, hb1⟩
  · have HS : Hid (textS E n i = []) := by
      have e : textS E n i = [] := by unfold textS; rw [if_neg ha]
      exact e
    have hne : (atF E n i != 0) = true := by simpa using ha
    obtain ⟨a, cap, rfl, h1, h2, h3⟩ := hv
    clear ha h3 hT hf
    go_enter Tryd.func15, Tryd.ntmps15
    go_wp2_with (first | (go_at_call 32; refine CC.out.mono ?_; rintro e w1 ⟨rfl, hb1⟩))
    go_ret2
    exact ⟨_, rfl, HS.out.symm, hb1⟩
end Go.Proofs.YtpccfjoklinaiaaDoor
