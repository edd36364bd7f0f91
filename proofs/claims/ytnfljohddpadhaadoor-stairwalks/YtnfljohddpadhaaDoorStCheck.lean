/-
  CONTRACTS of stair.check and of stair.Walk.
-/
import Derived.Test.YtnfljohddpadhaaDoorStWalk
import Derived.Deep.QuietTactic
import Derived.BigQuiet
import Derived.WalkLawsBesides
import Derived.Outline
set_option linter.unusedVariables false
namespace Go.Proofs.YtnfljohddpadhaaDoor
set_option maxRecDepth 100000
open Go.RowKit Go.WideShapes

/-- a value is a list of n numbers -/
def NumsIs (w : World) (v : Value) (n : Nat) (Z : Nat → Int) : Prop := ∃ a cap, v = .slice a n cap ∧ n ≤ cap ∧ cap ≤ maxLen ∧ (0 < n → ∃ b off, a = some ⟨b, off, none⟩ ∧ b < w.heap.size ∧ ∀ j, j < n → w.cell? ⟨b, off + j, none⟩ = some (.int .i64 (Z j)))
theorem NumsIs.below {w w' : World} {v : Value} {n : Nat} {Z : Nat → Int} (h : NumsIs w v n Z) (hb : Below w.heap.size w w') : NumsIs w' v n Z := by
  obtain ⟨a, cap, h1, h2, h3, h4⟩ := h
  refine ⟨a, cap, h1, h2, h3, fun h0 => ?_⟩
  obtain ⟨b, off, h5, h6, h7⟩ := h4 h0
  exact ⟨b, off, h5, Nat.lt_of_lt_of_le h6 hb.size, fun j hj => (hb.cell (p := ⟨b, off + j, none⟩) h6).trans (h7 j hj)⟩
/-- are the axis and the test there? -/
def kdB (axis tk : Int) : Bool := decide ((1 ≤ axis ∧ axis ≤ 12) ∧ 1 ≤ tk ∧ tk ≤ 5)
/-- are the first context nodes there? -/
def ctB (N : Nat) (Z : Nat → Int) (k : Nat) : Bool := (List.range k).all fun j => decide (0 ≤ Z j ∧ Z j < N)
theorem ctB_succ (N : Nat) (Z : Nat → Int) (k : Nat) : ctB N Z (k + 1) = (ctB N Z k && decide (0 ≤ Z k ∧ Z k < N)) := by simp [ctB, List.range_succ]
theorem ctB_iff {N : Nat} {Z : Nat → Int} {k : Nat} : ctB N Z k = true ↔ ∀ j, j < k → 0 ≤ Z j ∧ Z j < N := by simp [ctB]
theorem ctB_no {N : Nat} {Z : Nat → Int} {k n : Nat} (h : k < n) (hz : ¬ (0 ≤ Z k ∧ Z k < N)) : ctB N Z n = false := by
  cases e : ctB N Z n with
  | false => rfl
  | true => exact absurd (ctB_iff.1 e k h) hz
/-- what is refused of a step -/
def chF (E : Nat → Nd) (N : Nat) (axis tk : Int) (n : Nat) (Z : Nat → Int) : Int := if nodesF E N = 0 then (if kdB axis tk = true then (if ctB N Z n = true then 0 else 6) else 3) else nodesF E N
set_option maxHeartbeats 3200000 in
theorem check_is (v kv : Value) (N n : Nat) (E : Nat → Nd) (Z : Nat → Int) (axis tk : Int) (tn : ByteArray) (w : World) (hv : NdsIs w v N E) (hk : NumsIs w kv n Z) (hT : Tabs w) (hf : NdsFine N E) :
    Calls Tryd.prog 9 #[v, kv, .int .i64 axis, .agg #[.int .i64 tk, .string tn]] w fun e w' => e = .returned (.int .i64 (chF E N axis tk n Z)) ∧ Below w.heap.size w w' := by
  have CC : Hid (∀ W, Below w.heap.size w W → Calls Tryd.prog 14 #[v] W fun e w' => e = .returned (.int .i64 (nodesF E N)) ∧ Below W.heap.size W w') := fun W hW => storeCheck_is v N E W (hv.below hW) (Utf8Tabs_below hT hW) hf
  obtain ⟨va, vcap, rfl, v1, v2, _⟩ := hv
  obtain ⟨ka, kcap, rfl, k1, k2, k3⟩ := hk
  unfold maxLen at v2 k2
  have hN63 : (N : Int) ≤ 9223372036854775807 := by omega
  have hc : ∀ w1, Below (w.heap.size + 1) (w.alloc (.cells #[.int .i64 tk, .string tn] 25)) w1 → Below w.heap.size w w1 ∧ w1.cell? ⟨w.heap.size, 0, none⟩ = some (.int .i64 tk) := fun w1 hb => by
    have h0 := (hb.block w.heap.size (by omega)).trans (heap_alloc_new w (.cells #[.int .i64 tk, .string tn] 25))
    exact ⟨((Below.refl _ _).alloc (Nat.le_refl _) _).trans (hb.mono (by omega)), by rw [Lib.cell_of_heap h0]; rfl⟩
  have HC := hidS hc
  have ARM : Hid (Calls Tryd.prog 14 #[.slice va N vcap] (w.alloc (.cells #[.int .i64 tk, .string tn] 25)) fun e w' => e = .returned (.int .i64 (nodesF E N)) ∧ Below w.heap.size w w' ∧ w'.cell? ⟨w.heap.size, 0, none⟩ = some (.int .i64 tk)) := (CC.out _ ((Below.refl _ _).alloc (Nat.le_refl _) _)).mono (by
    rintro e w' ⟨rfl, hb⟩
    have h := HC.out w' (by simpa using hb)
    exact ⟨rfl, h.1, h.2⟩)
  have HK3 := hidS k3
  clear CC HC hc k3 hT hf
  by_cases h0 : nodesF E N = 0
  · rw [h0] at ARM
    by_cases hkd : kdB axis tk = true
    · obtain ⟨⟨g1, g2⟩, g3, g4⟩ := of_decide_eq_true hkd
      have g1' : ¬ axis < 1 := by omega
      have g2' : ¬ axis > 12 := by omega
      have g3' : ¬ tk < 1 := by omega
      have g4' : ¬ tk > 5 := by omega
      have HR : Hid (chF E N axis tk n Z = if ctB N Z n = true then 0 else 6) := by unfold chF; rw [if_pos h0, if_pos hkd]; exact rfl
      clear h0 hkd
      go_enter Tryd.func9, Tryd.ntmps9
      go_wp2_with (go_at_call 14; refine ARM.out.mono ?_; rintro e w1 ⟨rfl, hb1, ht1⟩; have HB1 := hidS hb1; clear hb1 ARM)
      go_loop [35] (fun i => ∃ k : Nat, k ≤ n ∧ i = .int .i64 (k : Int) ∧ ctB N Z k = true) (fun i => n - (intOf i).toNat)
      case atStart => exact ⟨0, Nat.zero_le _, rfl, rfl⟩
      case round =>
        obtain ⟨k, hkn, rfl, hct⟩ := hrel
        have HCT := hidS hct
        clear hct
        by_cases hlt : k < n
        · have hki : (k : Int) < (n : Int) := by omega
          obtain ⟨kb, ko, rfl, hkb, hcell⟩ := HK3.out (by omega)
          have e1 : w1.cell? ⟨kb, ko + k, none⟩ = some (.int .i64 (Z k)) := (HB1.out.cell (p := ⟨kb, ko + k, none⟩) hkb).trans (hcell k hlt)
          clear hcell
          by_cases z0 : Z k < 0
          · have HN : Hid (ctB N Z n = false) := ctB_no hlt (by omega)
            go_wp2_with fail
            go_ret
            exact ⟨ret_int (by rw [HR.out, HN.out]; rfl), HB1.out⟩
          · by_cases z1 : (N : Int) ≤ Z k
            · have HN : Hid (ctB N Z n = false) := ctB_no hlt (by omega)
              go_wp2_with fail
              go_ret
              exact ⟨ret_int (by rw [HR.out, HN.out]; rfl), HB1.out⟩
            · have HN : Hid (ctB N Z (k + 1) = true) := by
                have h : ctB N Z (k + 1) = true := by rw [ctB_succ, HCT.out]; simp; omega
                exact h
              go_wp2_with fail
              go_round
              case rel => exact ⟨k + 1, by omega, by go_num, HN.out⟩
              case measure => simp [intOf] <;> omega
        · obtain rfl : k = n := by omega
          have hki : ¬ (k : Int) < (k : Int) := by omega
          go_wp2_with fail
          go_ret
          exact ⟨ret_int (by rw [HR.out, HCT.out]; rfl), HB1.out⟩
    · have HR : Hid (chF E N axis tk n Z = 3) := by unfold chF; rw [if_pos h0, if_neg hkd]; exact rfl
      rw [HR.out]
      have hkd' : ¬ ((1 ≤ axis ∧ axis ≤ 12) ∧ 1 ≤ tk ∧ tk ≤ 5) := fun h => hkd (decide_eq_true h)
      clear h0 hkd
      by_cases g1 : axis < 1
      · go_enter Tryd.func9, Tryd.ntmps9
        go_wp2_with (go_at_call 14; refine ARM.out.mono ?_; rintro e w1 ⟨rfl, hb1, ht1⟩; have HB1 := hidS hb1; clear hb1 ARM)
        go_ret
        exact ⟨rfl, HB1.out⟩
      · by_cases g2 : 12 < axis
        · go_enter Tryd.func9, Tryd.ntmps9
          go_wp2_with (go_at_call 14; refine ARM.out.mono ?_; rintro e w1 ⟨rfl, hb1, ht1⟩; have HB1 := hidS hb1; clear hb1 ARM)
          go_ret
          exact ⟨rfl, HB1.out⟩
        · by_cases g3 : tk < 1
          · go_enter Tryd.func9, Tryd.ntmps9
            go_wp2_with (go_at_call 14; refine ARM.out.mono ?_; rintro e w1 ⟨rfl, hb1, ht1⟩; have HB1 := hidS hb1; clear hb1 ARM)
            go_ret
            exact ⟨rfl, HB1.out⟩
          · have g4 : 5 < tk := by omega
            go_enter Tryd.func9, Tryd.ntmps9
            go_wp2_with (go_at_call 14; refine ARM.out.mono ?_; rintro e w1 ⟨rfl, hb1, ht1⟩; have HB1 := hidS hb1; clear hb1 ARM)
            go_ret
            exact ⟨rfl, HB1.out⟩
  · have HR : Hid (chF E N axis tk n Z = nodesF E N) := by unfold chF; rw [if_neg h0]; exact rfl
    rw [HR.out]
    have h0' : (nodesF E N == 0) = false := by simpa using h0
    generalize nodesF E N = q at *
    clear h0
    go_enter Tryd.func9, Tryd.ntmps9
    go_wp2_with (go_at_call 14; refine ARM.out.mono ?_; rintro e w1 ⟨rfl, hb1, ht1⟩; have HB1 := hidS hb1; clear hb1 ARM)
    go_ret
    exact ⟨rfl, HB1.out⟩
/-- what a step tells: a list, and what is refused -/
def WalkT (E : Nat → Nd) (N n : Nat) (Z : Nat → Int) (axis tk : Int) (tn : ByteArray) (w : World) (e : Ending) (w' : World) : Prop :=
  ∃ v L, e = .returned (.tuple #[v, .int .i64 (chF E N axis tk n Z)]) ∧ w'.ownsRow w.heap.size 3 1 v L.length (nCells L) ∧ Rise L ∧ (∀ i : Nat, i ∈ L ↔ (chF E N axis tk n Z = 0 ∧ (i < N ∧ ∃ j, j < n ∧ onA E (Z j).toNat axis i) ∧ tmB (E i) axis tk tn = true)) ∧ Below w.heap.size w w'
theorem ctx_of {w : World} {v : Value} {n N : Nat} {Z : Nat → Int} (h : NumsIs w v n Z) (hz : ∀ j, j < n → 0 ≤ Z j ∧ Z j < N) (hnil : n = 0 → v = .slice none 0 0) : CtxIs w v ((List.range n).map fun j => (Z j).toNat) := by
  obtain ⟨a, cap, rfl, h1, h2, h3⟩ := h
  by_cases h0 : 0 < n
  · obtain ⟨b, off, rfl, h5, h6⟩ := h3 h0
    refine .inr ⟨b, off, cap, by simp, by simpa using h0, h5, fun j hj => ?_⟩
    have hj' : j < n := by simpa using hj
    rw [h6 j hj']
    have := hz j hj'
    simp
    omega
  · obtain rfl : n = 0 := by omega
    exact .inl ⟨rfl, hnil rfl⟩
set_option maxHeartbeats 1600000 in
theorem walk_is (v kv : Value) (N n : Nat) (E : Nat → Nd) (Z : Nat → Int) (axis tk : Int) (tn : ByteArray) (w : World) (hv : NdsIs w v N E) (hk : NumsIs w kv n Z) (hT : Tabs w) (hf : NdsFine N E) (hn8 : n * 8 ≤ 140737488355328) (htn : tn.size ≤ maxLen) (hnil : n = 0 → kv = .slice none 0 0) :
    Calls Tryd.prog 5 #[v, kv, .int .i64 axis, .agg #[.int .i64 tk, .string tn]] w fun e w' => WalkT E N n Z axis tk tn w e w' := by
  have CC : Hid (∀ W, Below w.heap.size w W → Calls Tryd.prog 9 #[v, kv, .int .i64 axis, .agg #[.int .i64 tk, .string tn]] W fun e w' => e = .returned (.int .i64 (chF E N axis tk n Z)) ∧ Below W.heap.size W w') := fun W hW => check_is v kv N n E Z axis tk tn W (hv.below hW) (hk.below hW) (Utf8Tabs_below hT hW) hf
  have HV := hidS hv
  have HK := hidS hk
  have HF := hidS hf
  have HN := hidS hnil
  obtain ⟨va, vcap, rfl, v1, v2, _⟩ := hv
  obtain ⟨ka, kcap, rfl, k1, k2, _⟩ := hk
  have hc : ∀ w1, Below (w.heap.size + 1) (w.alloc (.cells #[.int .i64 tk, .string tn] 25)) w1 → Below w.heap.size w w1 ∧ w1.heap[w.heap.size]? = some (.cells #[.int .i64 tk, .string tn] 25) := fun w1 hb =>
    ⟨((Below.refl _ _).alloc (Nat.le_refl _) _).trans (hb.mono (by omega)), (hb.block w.heap.size (by omega)).trans (heap_alloc_new w (.cells #[.int .i64 tk, .string tn] 25))⟩
  have HC := hidS hc
  have ARM : Hid (Calls Tryd.prog 9 #[.slice va N vcap, .slice ka n kcap, .int .i64 axis, .agg #[.int .i64 tk, .string tn]] (w.alloc (.cells #[.int .i64 tk, .string tn] 25)) fun e w' => e = .returned (.int .i64 (chF E N axis tk n Z)) ∧ Below w.heap.size w w' ∧ w'.heap[w.heap.size]? = some (.cells #[.int .i64 tk, .string tn] 25)) := (CC.out _ ((Below.refl _ _).alloc (Nat.le_refl _) _)).mono (by
    rintro e w' ⟨rfl, hb⟩
    have h := HC.out w' (by simpa using hb)
    exact ⟨rfl, h.1, h.2⟩)
  clear CC HC hc hf hT hnil
  by_cases h0 : chF E N axis tk n Z = 0
  · have hn0 : nodesF E N = 0 := by
      unfold chF at h0
      by_cases h : nodesF E N = 0
      · exact h
      · rw [if_neg h] at h0; exact absurd h0 h
    have hkd : kdB axis tk = true := by
      unfold chF at h0
      rw [if_pos hn0] at h0
      by_cases h : kdB axis tk = true
      · exact h
      · rw [if_neg h] at h0; exact absurd h0 (by decide)
    have hct : ctB N Z n = true := by
      unfold chF at h0
      rw [if_pos hn0, if_pos hkd] at h0
      by_cases h : ctB N Z n = true
      · exact h
      · rw [if_neg h] at h0; exact absurd h0 (by decide)
    obtain ⟨⟨a1, a2⟩, a3, a4⟩ := of_decide_eq_true hkd
    have hz := ctB_iff.1 hct
    obtain ⟨hNs, hft⟩ := nodesF_fit hn0
    have CR : Hid (∀ W, Below w.heap.size w W → Calls Tryd.prog 10 #[.slice va N vcap, .slice ka n kcap, .int .i64 axis, .agg #[.int .i64 tk, .string tn]] W fun e w' => ∃ v L, e = .returned v ∧ w'.ownsRow W.heap.size 3 1 v L.length (nCells L) ∧ Rise L ∧ (∀ i, i ∈ L ↔ ((i < N ∧ ∃ c ∈ ((List.range n).map fun j => (Z j).toNat), onA E c axis i) ∧ tmB (E i) axis tk tn = true)) ∧ Below W.heap.size W w') := fun W hW =>
      reach_is (.slice va N vcap) (.slice ka n kcap) N E ((List.range n).map fun j => (Z j).toNat) axis tk tn W (tr_of hft) hNs (HV.out.below hW) (ctx_of (HK.out.below hW) hz HN.out) (fun x hx => by
        obtain ⟨j, hj, e⟩ := List.mem_map.1 hx
        have := hz j (List.mem_range.1 hj)
        omega) (by simpa using hn8) (fun i hi => (HF.out i hi).1) htn a1 a2 a3 a4
    have H0 := hidS h0
    rw [h0] at ARM
    clear hn0 hkd hct hz hft h0
    go_enter Tryd.func5, Tryd.ntmps5
    go_wp2_with (first
      | (go_at_call 9; refine ARM.out.mono ?_; rintro e w1 ⟨rfl, hb1, ht1⟩; have HB1 := hidS hb1; have t0 : w1.cell? ⟨w.heap.size, 0, none⟩ = some (.int .i64 tk) := (by rw [Lib.cell_of_heap ht1]; rfl); have t1 : w1.cell? ⟨w.heap.size, 1, none⟩ = some (.string tn) := (by rw [Lib.cell_of_heap ht1]; rfl); clear hb1 ht1 ARM)
      | (go_at_call 10; refine (CR.out w1 HB1.out).mono ?_; rintro e w2 ⟨v2, L, rfl, o2, r2, m2, b2⟩; have O2 := hidS o2; have R2 := hidS r2; have M2 := hidS m2; have B2 := hidS b2; clear o2 r2 m2 b2 CR))
    refine bodyPost_ret (v := .tuple #[v2, .int .i64 0]) (by simp [results, Tryd.results5, go_sem]) rfl ?_
    refine ⟨v2, L, by rw [H0.out], own_base O2.out HB1.out.size, R2.out, fun i => ?_, HB1.out.trans (B2.out.mono HB1.out.size)⟩
    rw [M2.out i]
    constructor
    · rintro ⟨⟨h1, c, hc, h2⟩, h3⟩
      obtain ⟨j, hj, rfl⟩ := List.mem_map.1 hc
      exact ⟨H0.out, ⟨h1, j, List.mem_range.1 hj, h2⟩, h3⟩
    · rintro ⟨_, ⟨h1, j, hj, h2⟩, h3⟩
      exact ⟨⟨h1, _, List.mem_map.2 ⟨j, List.mem_range.2 hj, rfl⟩, h2⟩, h3⟩
  · have H0 := hidS h0
    have h0' : (chF E N axis tk n Z == 0) = false := by simpa using h0
    generalize hq : chF E N axis tk n Z = q at *
    have HQ := hidS hq
    clear h0 hq
    go_enter Tryd.func5, Tryd.ntmps5
    go_wp2_with (go_at_call 9; refine ARM.out.mono ?_; rintro e w1 ⟨rfl, hb1, ht1⟩; have HB1 := hidS hb1; clear hb1 ht1 ARM)
    refine bodyPost_ret (v := .tuple #[.slice none 0 0, .int .i64 q]) (by simp [results, Tryd.results5, go_sem]) rfl ?_
    refine ⟨_, [], by rw [HQ.out], World.ownsRow_nil _ _ _ _, List.Pairwise.nil, fun i => ⟨(fun h => by cases h), fun h => absurd (HQ.out.symm.trans h.1) H0.out⟩, HB1.out⟩
end Go.Proofs.YtnfljohddpadhaaDoor
