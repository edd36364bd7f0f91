/-
  CONTRACT of the document's steps: WalkedOf.
-/
import Derived.Test.YtnfljohddpadhaaDoorStRef3
import Derived.Deep.QuietTactic
import Derived.BigQuiet
import Derived.WalkLawsBesides
import Derived.Outline
set_option linter.unusedVariables false
namespace Go.Proofs.YtnfljohddpadhaaDoor
set_option maxRecDepth 100000
open Go.RowKit Go.WideShapes

theorem in_is (x l h : Int) (W : World) (b : Bool) (hb : inB x l h = b) : Calls Tryd.prog 12 #[.int .i64 x, .int .i64 l, .int .i64 h] W fun e w' => e = .returned (.bool b) ∧ w' = W := by
  rw [← hb]; exact in_any x l h W
set_option maxHeartbeats 3200000 in
theorem walkedOf_is (v kv : Value) (N n : Nat) (E : Nat → Nd) (Z : Nat → Int) (axis tk : Int) (tn : ByteArray) (w : World) (hv : NdsIs w v N E) (hk : NumsIs w kv n Z) (hT : Tabs w) (hf : NdsFine N E) (hn8 : n * 8 ≤ 140737488355328) (htn : tn.size ≤ maxLen) :
    Calls Tryd.prog 7 #[v, kv, .int .i64 axis, .agg #[.int .i64 tk, .string tn]] w fun e w' => WalkT E N n Z axis tk tn w e w' := by
  have CC : Hid (∀ W, Below w.heap.size w W → Calls Tryd.prog 11 #[v] W fun e w' => e = .returned (.int .i64 (nodesF E N)) ∧ Below W.heap.size W w') := fun W hW => nodesFault_is v N E W (hv.below hW) (Utf8Tabs_below hT hW) hf
  have HV := hidS hv
  have HK := hidS hk
  have HF := hidS hf
  obtain ⟨va, vcap, rfl, v1, v2, _⟩ := hv
  obtain ⟨ka, kcap, rfl, k1, k2, k3⟩ := hk
  have HK3 := hidS k3
  unfold maxLen at v2 k2
  have hc : ∀ w1, Below (w.heap.size + 1) (w.alloc (.cells #[.int .i64 tk, .string tn] 25)) w1 → Below w.heap.size w w1 ∧ w1.heap[w.heap.size]? = some (.cells #[.int .i64 tk, .string tn] 25) := fun w1 hb =>
    ⟨((Below.refl _ _).alloc (Nat.le_refl _) _).trans (hb.mono (by omega)), (hb.block w.heap.size (by omega)).trans (heap_alloc_new w (.cells #[.int .i64 tk, .string tn] 25))⟩
  have HC := hidS hc
  have ARM : Hid (Calls Tryd.prog 11 #[.slice va N vcap] (w.alloc (.cells #[.int .i64 tk, .string tn] 25)) fun e w' => e = .returned (.int .i64 (nodesF E N)) ∧ Below w.heap.size w w' ∧ w'.heap[w.heap.size]? = some (.cells #[.int .i64 tk, .string tn] 25)) := (CC.out _ ((Below.refl _ _).alloc (Nat.le_refl _) _)).mono (by
    rintro e w' ⟨rfl, hb⟩
    have h := HC.out w' (by simpa using hb)
    exact ⟨rfl, h.1, h.2⟩)
  clear CC HC hc hf hT k3
  by_cases h0 : nodesF E N = 0
  · by_cases hkd : kdB axis tk = true
    · obtain ⟨⟨a1, a2⟩, a3, a4⟩ := of_decide_eq_true hkd
      have hAx : inB axis 1 12 = true := by unfold inB; simp; omega
      have hTx : inB tk 1 5 = true := by unfold inB; simp; omega
      have CA : Hid (∀ W, Calls Tryd.prog 12 #[.int .i64 axis, .int .i64 1, .int .i64 12] W fun e w' => e = .returned (.bool true) ∧ w' = W) := fun W => in_is axis 1 12 W true hAx
      have CT : Hid (∀ W, Calls Tryd.prog 12 #[.int .i64 tk, .int .i64 1, .int .i64 5] W fun e w' => e = .returned (.bool true) ∧ w' = W) := fun W => in_is tk 1 5 W true hTx
      have CI : Hid (∀ W x b, inB x 0 ((N : Int) - 1) = b → Calls Tryd.prog 12 #[.int .i64 x, .int .i64 0, .int .i64 ((N : Int) - 1)] W fun e w' => e = .returned (.bool b) ∧ w' = W) := fun W x b hb => in_is x 0 _ W b hb
      have HR : Hid (chF E N axis tk n Z = if ctB N Z n = true then 0 else 6) := by unfold chF; rw [if_pos h0, if_pos hkd]; exact rfl
      obtain ⟨hNs, hft⟩ := nodesF_fit h0
      have CW : Hid (∀ W, Below w.heap.size w W → ctB N Z n = true → Calls Tryd.prog 13 #[.slice va N vcap, .slice ka n kcap, .int .i64 axis, .agg #[.int .i64 tk, .string tn]] W fun e w' => WaT E N n Z axis tk tn W e w') := fun W hW hct => walkedAt_is (.slice va N vcap) (.slice ka n kcap) N n E Z axis tk tn W (tr_of hft) hNs (HV.out.below hW) (HK.out.below hW) (ctB_iff.1 hct) (fun i hi => (HF.out i hi).1) htn a1 a2 a3 a4
      rw [h0] at ARM
      clear h0 hkd hAx hTx hft HV HK HF
      go_enter Tryd.func7, Tryd.ntmps7
      go_wp2_with (first | (go_at_call 11; refine ARM.out.mono ?_; rintro e w1 ⟨rfl, hb1, ht1⟩; have HB1 := hidS hb1; have t0 : w1.cell? ⟨w.heap.size, 0, none⟩ = some (.int .i64 tk) := (by rw [Lib.cell_of_heap ht1]; rfl); have t1 : w1.cell? ⟨w.heap.size, 1, none⟩ = some (.string tn) := (by rw [Lib.cell_of_heap ht1]; rfl); clear hb1 ht1 ARM) | (go_at_call 12; refine (CA.out _).mono ?_; rintro e w' ⟨rfl, hww⟩; obtain rfl := hww.symm; clear hww CA) | (go_at_call 12; refine (CT.out _).mono ?_; rintro e w' ⟨rfl, hww⟩; obtain rfl := hww.symm; clear hww CT))
      go_loop [10, 11] (fun ev i => ∃ (k : Nat) (q : Int), k ≤ n ∧ i = .int .i64 (k : Int) ∧ ev = .int .i64 q ∧ ((q = 0 ∧ ctB N Z k = true) ∨ (q = 6 ∧ ctB N Z n = false))) (fun _ i => n - (intOf i).toNat)
      case atStart => exact ⟨0, 0, Nat.zero_le _, rfl, rfl, .inl ⟨rfl, rfl⟩⟩
      case round =>
        obtain ⟨k, q, hkn, rfl, rfl, hq⟩ := hrel
        rcases hq with ⟨rfl, hct⟩ | ⟨rfl, hct⟩
        · have HCT := hidS hct
          clear hct
          by_cases hlt : k < n
          · have hki : (k : Int) < (n : Int) := by omega
            obtain ⟨kb, ko, rfl, hkb, hcell⟩ := HK3.out (by omega)
            have e1 : w1.cell? ⟨kb, ko + k, none⟩ = some (.int .i64 (Z k)) := (HB1.out.cell (p := ⟨kb, ko + k, none⟩) hkb).trans (hcell k hlt)
            have hw0 : IntKind.i64.wrap ((N : Int) - 1) = (N : Int) - 1 := IntWalk.i64_in _ (by omega)
            clear hcell
            by_cases hz : 0 ≤ Z k ∧ Z k < N
            · have HN : Hid (ctB N Z (k + 1) = true) := by
                have h : ctB N Z (k + 1) = true := by rw [ctB_succ, HCT.out]; simp; omega
                exact h
              have CI1 := hidS (fun W => CI.out W (Z k) true (by unfold inB; simp; omega))
              generalize Z k = zk at *
              clear hz
              go_wp2_with (go_at_call 12; refine (CI1.out _).mono ?_; rintro e w' ⟨rfl, hww⟩; obtain rfl := hww.symm; clear hww CI1)
              go_round
              case rel => exact ⟨k + 1, 0, by omega, by go_num, rfl, .inl ⟨rfl, HN.out⟩⟩
              case measure => simp [intOf] <;> omega
            · have HN : Hid (ctB N Z n = false) := ctB_no hlt hz
              have CI1 := hidS (fun W => CI.out W (Z k) false (by unfold inB; simp; omega))
              generalize Z k = zk at *
              clear hz
              go_wp2_with (go_at_call 12; refine (CI1.out _).mono ?_; rintro e w' ⟨rfl, hww⟩; obtain rfl := hww.symm; clear hww CI1)
              go_round
              case rel => exact ⟨k + 1, 6, by omega, by go_num, rfl, .inr ⟨rfl, HN.out⟩⟩
              case measure => simp [intOf] <;> omega
          · obtain rfl : k = n := by omega
            have hki : ¬ (k : Int) < (k : Int) := by omega
            have H0 := hidS (show chF E N axis tk k Z = 0 by rw [HR.out, HCT.out]; rfl)
            have CW1 := hidS (CW.out w1 HB1.out HCT.out)
            clear CW CI
            go_wp2_with (go_at_call 13; refine CW1.out.mono ?_; intro e w2 hT2; obtain ⟨v2, L, rfl, o2, r2, m2, b2⟩ := hT2; have O2 := hidS o2; have R2 := hidS r2; have M2 := hidS m2; have B2 := hidS b2; clear o2 r2 m2 b2 CW1)
            refine bodyPost_ret (v := .tuple #[v2, .int .i64 0]) (by simp [results, Tryd.results7, go_sem]) rfl ?_
            refine ⟨v2, L, by rw [H0.out], own_base O2.out HB1.out.size, R2.out, fun i => ?_, HB1.out.trans (B2.out.mono HB1.out.size)⟩
            rw [M2.out i]
            exact ⟨fun h => ⟨H0.out, ⟨h.1, h.2.1⟩, h.2.2⟩, fun h => ⟨h.2.1.1, h.2.1.2, h.2.2⟩⟩
        · have HQ := hidS (show chF E N axis tk n Z = 6 by rw [HR.out, hct]; rfl)
          have H0 := hidS (show ¬ (6 : Int) = 0 by decide)
          clear hct
          by_cases hlt : k < n
          · have hki : (k : Int) < (n : Int) := by omega
            go_wp2_with fail
            refine bodyPost_ret (v := .tuple #[.slice none 0 0, .int .i64 6]) (by simp [results, Tryd.results7, go_sem]) rfl ?_
            refine ⟨_, [], by rw [HQ.out], World.ownsRow_nil _ _ _ _, List.Pairwise.nil, fun i => ⟨(fun h => by cases h), fun h => absurd (HQ.out.symm.trans h.1) H0.out⟩, HB1.out⟩
          · have hki : ¬ (k : Int) < (n : Int) := by omega
            go_wp2_with fail
            refine bodyPost_ret (v := .tuple #[.slice none 0 0, .int .i64 6]) (by simp [results, Tryd.results7, go_sem]) rfl ?_
            refine ⟨_, [], by rw [HQ.out], World.ownsRow_nil _ _ _ _, List.Pairwise.nil, fun i => ⟨(fun h => by cases h), fun h => absurd (HQ.out.symm.trans h.1) H0.out⟩, HB1.out⟩
    · have HQ := hidS (show chF E N axis tk n Z = 3 by unfold chF; rw [if_pos h0, if_neg hkd])
      have H0 := hidS (show ¬ (3 : Int) = 0 by decide)
      have hkd' : ¬ ((1 ≤ axis ∧ axis ≤ 12) ∧ 1 ≤ tk ∧ tk ≤ 5) := fun h => hkd (decide_eq_true h)
      rw [h0] at ARM
      clear h0 hkd HV HK HF HK3
      by_cases hax : 1 ≤ axis ∧ axis ≤ 12
      · have hAx : inB axis 1 12 = true := by unfold inB; simp; omega
        have hTx : inB tk 1 5 = false := by unfold inB; simp; omega
        have CA : Hid (∀ W, Calls Tryd.prog 12 #[.int .i64 axis, .int .i64 1, .int .i64 12] W fun e w' => e = .returned (.bool true) ∧ w' = W) := fun W => in_is axis 1 12 W true hAx
        have CT : Hid (∀ W, Calls Tryd.prog 12 #[.int .i64 tk, .int .i64 1, .int .i64 5] W fun e w' => e = .returned (.bool false) ∧ w' = W) := fun W => in_is tk 1 5 W false hTx
        clear hAx hTx hax hkd'
        rcases Decidable.em ((0 : Int) < (n : Int)) with hn0 | hn0
        all_goals
          go_enter Tryd.func7, Tryd.ntmps7
          go_wp2_with (first | (go_at_call 11; refine ARM.out.mono ?_; rintro e w1 ⟨rfl, hb1, ht1⟩; have HB1 := hidS hb1; have t0 : w1.cell? ⟨w.heap.size, 0, none⟩ = some (.int .i64 tk) := (by rw [Lib.cell_of_heap ht1]; rfl); have t1 : w1.cell? ⟨w.heap.size, 1, none⟩ = some (.string tn) := (by rw [Lib.cell_of_heap ht1]; rfl); clear hb1 ht1 ARM) | (go_at_call 12; refine (CA.out _).mono ?_; rintro e w' ⟨rfl, hww⟩; obtain rfl := hww.symm; clear hww CA) | (go_at_call 12; refine (CT.out _).mono ?_; rintro e w' ⟨rfl, hww⟩; obtain rfl := hww.symm; clear hww CT))
          go_loop [10, 11] (fun ev i => i = .int .i64 0 ∧ ev = .int .i64 3) (fun _ i => 0)
          case atStart => exact ⟨rfl, rfl⟩
          case round =>
            obtain ⟨rfl, rfl⟩ := hrel
            go_wp2_with fail
            refine bodyPost_ret (v := .tuple #[.slice none 0 0, .int .i64 3]) (by simp [results, Tryd.results7, go_sem]) rfl ?_
            refine ⟨_, [], by rw [HQ.out], World.ownsRow_nil _ _ _ _, List.Pairwise.nil, fun i => ⟨(fun h => by cases h), fun h => absurd (HQ.out.symm.trans h.1) H0.out⟩, HB1.out⟩
      · have hAx : inB axis 1 12 = false := by unfold inB; simp; omega
        have CA : Hid (∀ W, Calls Tryd.prog 12 #[.int .i64 axis, .int .i64 1, .int .i64 12] W fun e w' => e = .returned (.bool false) ∧ w' = W) := fun W => in_is axis 1 12 W false hAx
        clear hAx hax hkd'
        rcases Decidable.em ((0 : Int) < (n : Int)) with hn0 | hn0
        all_goals
          go_enter Tryd.func7, Tryd.ntmps7
          go_wp2_with (first | (go_at_call 11; refine ARM.out.mono ?_; rintro e w1 ⟨rfl, hb1, ht1⟩; have HB1 := hidS hb1; have t0 : w1.cell? ⟨w.heap.size, 0, none⟩ = some (.int .i64 tk) := (by rw [Lib.cell_of_heap ht1]; rfl); have t1 : w1.cell? ⟨w.heap.size, 1, none⟩ = some (.string tn) := (by rw [Lib.cell_of_heap ht1]; rfl); clear hb1 ht1 ARM) | (go_at_call 12; refine (CA.out _).mono ?_; rintro e w' ⟨rfl, hww⟩; obtain rfl := hww.symm; clear hww CA))
          go_loop [10, 11] (fun ev i => i = .int .i64 0 ∧ ev = .int .i64 3) (fun _ i => 0)
          case atStart => exact ⟨rfl, rfl⟩
          case round =>
            obtain ⟨rfl, rfl⟩ := hrel
            go_wp2_with fail
            refine bodyPost_ret (v := .tuple #[.slice none 0 0, .int .i64 3]) (by simp [results, Tryd.results7, go_sem]) rfl ?_
            refine ⟨_, [], by rw [HQ.out], World.ownsRow_nil _ _ _ _, List.Pairwise.nil, fun i => ⟨(fun h => by cases h), fun h => absurd (HQ.out.symm.trans h.1) H0.out⟩, HB1.out⟩
  · have hq : chF E N axis tk n Z = nodesF E N := by unfold chF; rw [if_neg h0]
    have h0' : (nodesF E N == 0) = false := by simpa using h0
    generalize nodesF E N = q at *
    have HQ := hidS hq
    have H0 := hidS h0
    clear h0 hq HV HK HF HK3
    rcases Decidable.em ((0 : Int) < (n : Int)) with hn0 | hn0
    all_goals
      go_enter Tryd.func7, Tryd.ntmps7
      go_wp2_with (go_at_call 11; refine ARM.out.mono ?_; rintro e w1 ⟨rfl, hb1, ht1⟩; have HB1 := hidS hb1; have t0 : w1.cell? ⟨w.heap.size, 0, none⟩ = some (.int .i64 tk) := (by rw [Lib.cell_of_heap ht1]; rfl); have t1 : w1.cell? ⟨w.heap.size, 1, none⟩ = some (.string tn) := (by rw [Lib.cell_of_heap ht1]; rfl); clear hb1 ht1 ARM)
      go_loop [10, 11] (fun ev i => i = .int .i64 0 ∧ ev = .int .i64 q) (fun _ i => 0)
      case atStart => exact ⟨rfl, rfl⟩
      case round =>
        obtain ⟨rfl, rfl⟩ := hrel
        go_wp2_with fail
        refine bodyPost_ret (v := .tuple #[.slice none 0 0, .int .i64 q]) (by simp [results, Tryd.results7, go_sem]) rfl ?_
        refine ⟨_, [], by rw [HQ.out], World.ownsRow_nil _ _ _ _, List.Pairwise.nil, fun i => ⟨(fun h => by cases h), fun h => absurd (HQ.out.symm.trans h.1) H0.out⟩, HB1.out⟩
end Go.Proofs.YtnfljohddpadhaaDoor
