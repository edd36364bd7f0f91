/-
  CONTRACTS of the document's answer aggregated.
-/
import Derived.Test.YtjgihlmefaakkaaDoorGdPlain
import Derived.Deep.QuietTactic
import Derived.BigQuiet
set_option linter.unusedVariables false
namespace Go.Proofs.YtjgihlmefaakkaaDoor
set_option maxRecDepth 100000
open Go.RowKit Go.WideShapes

set_option maxHeartbeats 800000 in
theorem agg_count (v : Value) (L : Nat) (Y : Nat → It) (w : World) (hv : ItsIs w v L Y) : Calls Tryd.prog 18 #[.string tCount, v] w fun e w' => e = .returned (.tuple #[.int .i64 (L : Int), .bool true]) ∧ w' = w := by
  obtain ⟨a, cap, rfl, _⟩ := hv
  unfold tCount
  go_enter Tryd.func18, Tryd.ntmps18
  go_wp2
  exact bodyPost_ret (v := .tuple #[.int .i64 (L : Int), .bool true]) (by simp [results, Tryd.results18, go_sem]) rfl ⟨rfl, rfl⟩
def dA (which : ByteArray) (Y : Nat → It) (L : Nat) : Int := if dOk which Y L = true then dV which Y L else 0
theorem dA_yes {which : ByteArray} {Y : Nat → It} {L : Nat} (h : dOk which Y L = true) : dA which Y L = dV which Y L := if_pos h
theorem dA_no {which : ByteArray} {Y : Nat → It} {L : Nat} (h : dOk which Y L = false) : dA which Y L = 0 := if_neg (by rw [h]; decide)
theorem bad_kind {which : ByteArray} {Y : Nat → It} {t : Nat} (h : ¬ (Y t).kind = 2) : badT which Y t = true := by
  unfold badT
  rw [decide_eq_true h, Bool.true_or]
theorem bad_no {which : ByteArray} {Y : Nat → It} {t : Nat} (h : (Y t).kind = 2) (h2 : which = tSum → inb (vSeq (opG which) (fun s => (Y s).n) (t + 1)) = true) : badT which Y t = false := by
  have e3 : decide (¬ (Y t).kind = 2) = false := decide_eq_false (fun e => e h)
  unfold badT
  rw [e3, Bool.false_or]
  by_cases e : which = tSum
  · rw [h2 e]; simp
  · rw [decide_eq_false e, Bool.false_and]
theorem bad_sum {Y : Nat → It} {t : Nat} (h2 : inb (vSeq (opG tSum) (fun s => (Y s).n) (t + 1)) = false) : badT tSum Y t = true := by
  unfold badT
  rw [h2]
  simp
theorem dOk_no {which : ByteArray} (hw : ¬ which = tCount) {Y : Nat → It} {L t : Nat} (ht : t < L) (h : badT which Y t = true) : dOk which Y L = false := by
  unfold dOk
  rw [if_neg hw, List.any_eq_true.2 ⟨t, List.mem_range.2 ht, h⟩]
  rfl
theorem dOk_yes {which : ByteArray} {Y : Nat → It} {L : Nat} (h : ∀ t, t < L → badT which Y t = false) : dOk which Y L = true := by
  unfold dOk
  by_cases hw : which = tCount
  · rw [if_pos hw]
  · rw [if_neg hw]
    cases ha : (List.range L).any (badT which Y)
    · rfl
    · obtain ⟨t, h1, h2⟩ := List.any_eq_true.1 ha
      rw [h t (List.mem_range.1 h1)] at h2
      cases h2
theorem vSeq_bound {which : ByteArray} (hw : which = tSum ∨ which = tMin ∨ which = tMax) {Y : Nat → It} {t : Nat} (h : ∀ s, s < t → badT which Y s = false) (hY : ∀ s, s < t → -1099511627776 ≤ (Y s).n ∧ (Y s).n ≤ 1099511627776) : -1099511627776 ≤ vSeq (opG which) (fun s => (Y s).n) t ∧ vSeq (opG which) (fun s => (Y s).n) t ≤ 1099511627776 := by
  induction t with
  | zero =>
    have e : vSeq (opG which) (fun s => (Y s).n) 0 = 0 := rfl
    rw [e]; omega
  | succ t ih =>
    have ih := ih (fun s hs => h s (by omega)) (fun s hs => hY s (by omega))
    rcases hw with e | e
    · have hb := h t (by omega)
      unfold badT at hb
      rw [Bool.or_eq_false_iff] at hb
      have h2 := hb.2
      rw [decide_eq_true e, Bool.true_and] at h2
      have h3 : inb (vSeq (opG which) (fun s => (Y s).n) (t + 1)) = true := by simpa using h2
      exact of_decide_eq_true h3
    · rw [vSeq]
      by_cases e0 : t = 0
      · rw [if_pos e0]; exact hY 0 (by omega)
      · rw [if_neg e0]; exact opG_in e ih (hY t (by omega))
set_option maxHeartbeats 1600000 in
theorem agg_sum (v : Value) (L : Nat) (Y : Nat → It) (w : World) (hv : ItsIs w v L Y) (hY : ∀ s, s < L → -1099511627776 ≤ (Y s).n ∧ (Y s).n ≤ 1099511627776) : Calls Tryd.prog 18 #[.string tSum, v] w fun e w' => e = .returned (.tuple #[.int .i64 (dA tSum Y L), .bool (dOk tSum Y L)]) ∧ ∃ q, w' = w.drewN q := by
  have HY : Hid (∀ s, s < L → -1099511627776 ≤ (Y s).n ∧ (Y s).n ≤ 1099511627776) := hY
  have HNC : Hid (¬ tSum = tCount) := by
    have h : ¬ tSum = tCount := by unfold tSum tCount; decide
    exact h
  have HAT : Hid (∀ t, t < L → ∀ W : World, W.heap = w.heap → ∃ a b off cap, v = .slice (some ⟨b, off, none⟩) L cap ∧ a = 0 ∧ b < W.heap.size ∧ W.cell? ⟨b, off + t * 3, none⟩ = some (.int .i64 (Y t).kind) ∧ W.cell? ⟨b, off + t * 3 + 1, none⟩ = some (.int .i64 (Y t).n)) := fun t ht W hW => by
    obtain ⟨a, cap, h1, _, _, _, h3⟩ := hv
    obtain ⟨b, off, h4, h5, h6⟩ := h3 (by omega)
    obtain ⟨p0, p1, _⟩ := h6 t ht
    exact ⟨0, b, off, cap, by rw [h1, h4], rfl, by rw [hW]; exact h5, by simpa [World.cell?, hW] using p0, by simpa [World.cell?, hW] using p1⟩
  have hL : L ≤ 9223372036854775807 := by
    obtain ⟨a, cap, h1, h2, h3, _⟩ := hv
    unfold maxLen at h3
    omega
  obtain ⟨a, cap, rfl, _⟩ := hv
  clear hY
  have HVS : Hid (∀ t, vSeq (opG tSum) (fun s => (Y s).n) (t + 1) = if t = 0 then (Y 0).n else opG tSum (vSeq (opG tSum) (fun s => (Y s).n) t) (Y t).n) := fun t => rfl
  have HDV : Hid (dV tSum Y L = vSeq (opG tSum) (fun s => (Y s).n) L) := if_neg HNC.out
  obtain ⟨vs, hvs⟩ : ∃ vs, vs = vSeq (opG tSum) (fun s => (Y s).n) := ⟨_, rfl⟩
  have HVE : Hid (vs = vSeq (opG tSum) (fun s => (Y s).n)) := hvs
  rw [← hvs] at HVS HDV
  clear hvs
  show Calls Tryd.prog 18 #[.string ⟨#[115, 117, 109]⟩, .slice a L cap] w _
  go_enter Tryd.func18, Tryd.ntmps18
  go_wp2
  go_loopw [6, 7] (fun x i wr => ∃ t : Nat, t ≤ L ∧ i = .int .i64 t ∧ x = .int .i64 (vs t) ∧ (∀ s, s < t → badT tSum Y s = false) ∧ ∃ q, wr = w.drewN q) (fun _ i _ => L - (intOf i).toNat)
  case atStart => exact ⟨0, Nat.zero_le _, rfl, by rw [HVE.out]; rfl, fun s hs => by omega, 0, rfl⟩
  case round =>
    obtain ⟨t, ht, rfl, rfl, hbad, q, rfl⟩ := hrel
    have HBAD : Hid (∀ s, s < t → badT tSum Y s = false) := hbad
    clear hbad
    by_cases htL : t < L
    · have hti : (t : Int) < (L : Int) := by omega
      obtain ⟨_, b, off, cap', e', _, hb, p0, p1⟩ := HAT.out t htL (w.drewN q) rfl
      cases e'
      have hvb := vSeq_bound (which := tSum) (by first | exact .inl rfl | exact .inr (.inl rfl) | exact .inr (.inr rfl)) HBAD.out (fun s hs => HY.out s (by omega))
      rw [← HVE.out] at hvb
      obtain ⟨hv1, hv2⟩ := hvb
      obtain ⟨hy1, hy2⟩ := HY.out t htL
      by_cases hk : (Y t).kind = 2
      · have HK : Hid ((Y t).kind = 2) := hk
        rw [hk] at p0
        have HS1 := HVS.out t
        have hsum : vs (t + 1) = vs t + (Y t).n := by
          rw [HS1]
          by_cases e : t = 0
          · subst e
            rw [if_pos rfl]
            have e0 : vs 0 = 0 := by rw [HVE.out]; rfl
            rw [e0, Int.zero_add]
          · rw [if_neg e, opG_sum]
        have HSUM : Hid (vs (t + 1) = vs t + (Y t).n) := hsum
        have hwa : IntKind.i64.wrap (vs t + (Y t).n) = vs t + (Y t).n := IntWalk.i64_in _ (by omega)
        clear hsum HS1 hk
        by_cases hin : -1099511627776 ≤ vs t + (Y t).n ∧ vs t + (Y t).n ≤ 1099511627776
        · have CIN : Hid (∀ W, Calls Tryd.prog 27 #[.int .i64 (vs t + (Y t).n), .int .i64 (-1099511627776), .int .i64 1099511627776] W fun e w' => e = .returned (.bool true) ∧ w' = W) := fun W => by
            have h := in_any (vs t + (Y t).n) (-1099511627776) 1099511627776 W
            rwa [show inB (vs t + (Y t).n) (-1099511627776) 1099511627776 = true by unfold inB; exact decide_eq_true hin] at h
          have HBT : Hid (badT tSum Y t = false) := bad_no HK.out (fun _ => by rw [← HVE.out, HSUM.out]; exact decide_eq_true hin)
          clear hin
          go_wp2_with (first | (go_at_call 27; refine (CIN.out _).mono ?_; rintro e w2 ⟨rfl, hw2⟩; obtain rfl := hw2.symm))
          go_roundw
          case rel => exact ⟨t + 1, by omega, by go_num, by rw [HSUM.out], fun s hs => by
            by_cases e : s = t
            · rw [e]; exact HBT.out
            · exact HBAD.out s (by omega), q, rfl⟩
          case measure => simp [intOf]; omega
        · have CIN : Hid (∀ W, Calls Tryd.prog 27 #[.int .i64 (vs t + (Y t).n), .int .i64 (-1099511627776), .int .i64 1099511627776] W fun e w' => e = .returned (.bool false) ∧ w' = W) := fun W => by
            have h := in_any (vs t + (Y t).n) (-1099511627776) 1099511627776 W
            rwa [show inB (vs t + (Y t).n) (-1099511627776) 1099511627776 = false by unfold inB; exact decide_eq_false hin] at h
          have HF : Hid (dOk tSum Y L = false) := dOk_no HNC.out htL (bad_sum (by rw [← HVE.out, HSUM.out]; exact decide_eq_false hin))
          clear hin
          go_wp2_with (first | (go_at_call 27; refine (CIN.out _).mono ?_; rintro e w2 ⟨rfl, hw2⟩; obtain rfl := hw2.symm))
          refine bodyPost_ret (v := .tuple #[.int .i64 0, .bool false]) (by simp [results, Tryd.results18, go_sem]) rfl ⟨by rw [dA_no HF.out, HF.out], _, rfl⟩
      · have hk1 : ((Y t).kind == 2) = false := by simpa using hk
        have HF : Hid (dOk tSum Y L = false) := dOk_no HNC.out htL (bad_kind hk)
        clear hk
        go_wp2
        refine bodyPost_ret (v := .tuple #[.int .i64 0, .bool false]) (by simp [results, Tryd.results18, go_sem]) rfl ⟨by rw [dA_no HF.out, HF.out], _, rfl⟩
    · have e : t = L := by omega
      subst e
      have HT : Hid (dOk tSum Y t = true) := dOk_yes HBAD.out
      go_wp2
      refine bodyPost_ret (v := .tuple #[.int .i64 (vs t), .bool true]) (by simp [results, Tryd.results18, go_sem]) rfl ⟨by rw [dA_yes HT.out, HT.out, HDV.out], _, rfl⟩
set_option maxHeartbeats 1600000 in
theorem agg_min (v : Value) (L : Nat) (Y : Nat → It) (w : World) (hv : ItsIs w v L Y) (hY : ∀ s, s < L → -1099511627776 ≤ (Y s).n ∧ (Y s).n ≤ 1099511627776) : Calls Tryd.prog 18 #[.string tMin, v] w fun e w' => e = .returned (.tuple #[.int .i64 (dA tMin Y L), .bool (dOk tMin Y L)]) ∧ ∃ q, w' = w.drewN q := by
  have HY : Hid (∀ s, s < L → -1099511627776 ≤ (Y s).n ∧ (Y s).n ≤ 1099511627776) := hY
  have HNC : Hid (¬ tMin = tCount) := by
    have h : ¬ tMin = tCount := by unfold tMin tCount; decide
    exact h
  have HAT : Hid (∀ t, t < L → ∀ W : World, W.heap = w.heap → ∃ a b off cap, v = .slice (some ⟨b, off, none⟩) L cap ∧ a = 0 ∧ b < W.heap.size ∧ W.cell? ⟨b, off + t * 3, none⟩ = some (.int .i64 (Y t).kind) ∧ W.cell? ⟨b, off + t * 3 + 1, none⟩ = some (.int .i64 (Y t).n)) := fun t ht W hW => by
    obtain ⟨a, cap, h1, _, _, _, h3⟩ := hv
    obtain ⟨b, off, h4, h5, h6⟩ := h3 (by omega)
    obtain ⟨p0, p1, _⟩ := h6 t ht
    exact ⟨0, b, off, cap, by rw [h1, h4], rfl, by rw [hW]; exact h5, by simpa [World.cell?, hW] using p0, by simpa [World.cell?, hW] using p1⟩
  have hL : L ≤ 9223372036854775807 := by
    obtain ⟨a, cap, h1, h2, h3, _⟩ := hv
    unfold maxLen at h3
    omega
  obtain ⟨a, cap, rfl, _⟩ := hv
  clear hY
  have HVS : Hid (∀ t, vSeq (opG tMin) (fun s => (Y s).n) (t + 1) = if t = 0 then (Y 0).n else opG tMin (vSeq (opG tMin) (fun s => (Y s).n) t) (Y t).n) := fun t => rfl
  have HDV : Hid (dV tMin Y L = vSeq (opG tMin) (fun s => (Y s).n) L) := if_neg HNC.out
  obtain ⟨vs, hvs⟩ : ∃ vs, vs = vSeq (opG tMin) (fun s => (Y s).n) := ⟨_, rfl⟩
  have HVE : Hid (vs = vSeq (opG tMin) (fun s => (Y s).n)) := hvs
  rw [← hvs] at HVS HDV
  clear hvs
  show Calls Tryd.prog 18 #[.string ⟨#[109, 105, 110]⟩, .slice a L cap] w _
  go_enter Tryd.func18, Tryd.ntmps18
  go_wp2
  go_loopw [6, 7] (fun x i wr => ∃ t : Nat, t ≤ L ∧ i = .int .i64 t ∧ x = .int .i64 (vs t) ∧ (∀ s, s < t → badT tMin Y s = false) ∧ ∃ q, wr = w.drewN q) (fun _ i _ => L - (intOf i).toNat)
  case atStart => exact ⟨0, Nat.zero_le _, rfl, by rw [HVE.out]; rfl, fun s hs => by omega, 0, rfl⟩
  case round =>
    obtain ⟨t, ht, rfl, rfl, hbad, q, rfl⟩ := hrel
    have HBAD : Hid (∀ s, s < t → badT tMin Y s = false) := hbad
    clear hbad
    by_cases htL : t < L
    · have hti : (t : Int) < (L : Int) := by omega
      obtain ⟨_, b, off, cap', e', _, hb, p0, p1⟩ := HAT.out t htL (w.drewN q) rfl
      cases e'
      have hvb := vSeq_bound (which := tMin) (by first | exact .inl rfl | exact .inr (.inl rfl) | exact .inr (.inr rfl)) HBAD.out (fun s hs => HY.out s (by omega))
      rw [← HVE.out] at hvb
      obtain ⟨hv1, hv2⟩ := hvb
      obtain ⟨hy1, hy2⟩ := HY.out t htL
      by_cases hk : (Y t).kind = 2
      · have HK : Hid ((Y t).kind = 2) := hk
        rw [hk] at p0
        have HS1 := HVS.out t
        have HBT : Hid (badT tMin Y t = false) := bad_no HK.out (fun e => absurd e (by unfold tMin tSum; decide))
        have HOP : Hid (∀ x y, opG tMin x y = min x y) := fun x y => by unfold opG; rw [if_pos rfl]
        have HS2 : Hid (vs (t + 1) = if t = 0 then (Y 0).n else opG tMin (vs t) (Y t).n) := HS1
        clear HS1 hk
        by_cases e : t = 0
        · subst e
          have HE : Hid (vs (0 + 1) = (Y 0).n) := HS2.out.trans (if_pos rfl)
          simp only [Nat.zero_mul, Nat.add_zero] at p0 p1
          rw [show ((0 : Nat) : Int) = 0 from rfl]
          go_wp2
          go_roundw
          case rel => exact ⟨0 + 1, by omega, by go_num, by rw [HE.out], fun s hs => by
            obtain rfl : s = 0 := by omega
            exact HBT.out, q, rfl⟩
          case measure => simp [intOf]; omega
        · have HE : Hid (vs (t + 1) = min (vs t) (Y t).n) := HS2.out.trans ((if_neg e).trans (HOP.out _ _))
          have ht0 : ((t : Int) == 0) = false := by simpa using e
          by_cases hl : (Y t).n < vs t
          · have HM : Hid (min (vs t) (Y t).n = (Y t).n) := by
              have h : min (vs t) (Y t).n = (Y t).n := by omega
              exact h
            go_wp2
            go_roundw
            case rel => exact ⟨t + 1, by omega, by go_num, by rw [HE.out, HM.out], fun s hs => by
              by_cases e : s = t
              · rw [e]; exact HBT.out
              · exact HBAD.out s (by omega), q, rfl⟩
            case measure => simp [intOf]; omega
          · have HM : Hid (min (vs t) (Y t).n = vs t) := by
              have h : min (vs t) (Y t).n = vs t := by omega
              exact h
            go_wp2
            go_roundw
            case rel => exact ⟨t + 1, by omega, by go_num, by rw [HE.out, HM.out], fun s hs => by
              by_cases e : s = t
              · rw [e]; exact HBT.out
              · exact HBAD.out s (by omega), q, rfl⟩
            case measure => simp [intOf]; omega
      · have hk1 : ((Y t).kind == 2) = false := by simpa using hk
        have HF : Hid (dOk tMin Y L = false) := dOk_no HNC.out htL (bad_kind hk)
        clear hk
        go_wp2
        refine bodyPost_ret (v := .tuple #[.int .i64 0, .bool false]) (by simp [results, Tryd.results18, go_sem]) rfl ⟨by rw [dA_no HF.out, HF.out], _, rfl⟩
    · have e : t = L := by omega
      subst e
      have HT : Hid (dOk tMin Y t = true) := dOk_yes HBAD.out
      go_wp2
      refine bodyPost_ret (v := .tuple #[.int .i64 (vs t), .bool true]) (by simp [results, Tryd.results18, go_sem]) rfl ⟨by rw [dA_yes HT.out, HT.out, HDV.out], _, rfl⟩
set_option maxHeartbeats 1600000 in
theorem agg_max (v : Value) (L : Nat) (Y : Nat → It) (w : World) (hv : ItsIs w v L Y) (hY : ∀ s, s < L → -1099511627776 ≤ (Y s).n ∧ (Y s).n ≤ 1099511627776) : Calls Tryd.prog 18 #[.string tMax, v] w fun e w' => e = .returned (.tuple #[.int .i64 (dA tMax Y L), .bool (dOk tMax Y L)]) ∧ ∃ q, w' = w.drewN q := by
  have HY : Hid (∀ s, s < L → -1099511627776 ≤ (Y s).n ∧ (Y s).n ≤ 1099511627776) := hY
  have HNC : Hid (¬ tMax = tCount) := by
    have h : ¬ tMax = tCount := by unfold tMax tCount; decide
    exact h
  have HAT : Hid (∀ t, t < L → ∀ W : World, W.heap = w.heap → ∃ a b off cap, v = .slice (some ⟨b, off, none⟩) L cap ∧ a = 0 ∧ b < W.heap.size ∧ W.cell? ⟨b, off + t * 3, none⟩ = some (.int .i64 (Y t).kind) ∧ W.cell? ⟨b, off + t * 3 + 1, none⟩ = some (.int .i64 (Y t).n)) := fun t ht W hW => by
    obtain ⟨a, cap, h1, _, _, _, h3⟩ := hv
    obtain ⟨b, off, h4, h5, h6⟩ := h3 (by omega)
    obtain ⟨p0, p1, _⟩ := h6 t ht
    exact ⟨0, b, off, cap, by rw [h1, h4], rfl, by rw [hW]; exact h5, by simpa [World.cell?, hW] using p0, by simpa [World.cell?, hW] using p1⟩
  have hL : L ≤ 9223372036854775807 := by
    obtain ⟨a, cap, h1, h2, h3, _⟩ := hv
    unfold maxLen at h3
    omega
  obtain ⟨a, cap, rfl, _⟩ := hv
  clear hY
  have HVS : Hid (∀ t, vSeq (opG tMax) (fun s => (Y s).n) (t + 1) = if t = 0 then (Y 0).n else opG tMax (vSeq (opG tMax) (fun s => (Y s).n) t) (Y t).n) := fun t => rfl
  have HDV : Hid (dV tMax Y L = vSeq (opG tMax) (fun s => (Y s).n) L) := if_neg HNC.out
  obtain ⟨vs, hvs⟩ : ∃ vs, vs = vSeq (opG tMax) (fun s => (Y s).n) := ⟨_, rfl⟩
  have HVE : Hid (vs = vSeq (opG tMax) (fun s => (Y s).n)) := hvs
  rw [← hvs] at HVS HDV
  clear hvs
  show Calls Tryd.prog 18 #[.string ⟨#[109, 97, 120]⟩, .slice a L cap] w _
  go_enter Tryd.func18, Tryd.ntmps18
  go_wp2
  go_loopw [6, 7] (fun x i wr => ∃ t : Nat, t ≤ L ∧ i = .int .i64 t ∧ x = .int .i64 (vs t) ∧ (∀ s, s < t → badT tMax Y s = false) ∧ ∃ q, wr = w.drewN q) (fun _ i _ => L - (intOf i).toNat)
  case atStart => exact ⟨0, Nat.zero_le _, rfl, by rw [HVE.out]; rfl, fun s hs => by omega, 0, rfl⟩
  case round =>
    obtain ⟨t, ht, rfl, rfl, hbad, q, rfl⟩ := hrel
    have HBAD : Hid (∀ s, s < t → badT tMax Y s = false) := hbad
    clear hbad
    by_cases htL : t < L
    · have hti : (t : Int) < (L : Int) := by omega
      obtain ⟨_, b, off, cap', e', _, hb, p0, p1⟩ := HAT.out t htL (w.drewN q) rfl
      cases e'
      have hvb := vSeq_bound (which := tMax) (by first | exact .inl rfl | exact .inr (.inl rfl) | exact .inr (.inr rfl)) HBAD.out (fun s hs => HY.out s (by omega))
      rw [← HVE.out] at hvb
      obtain ⟨hv1, hv2⟩ := hvb
      obtain ⟨hy1, hy2⟩ := HY.out t htL
      by_cases hk : (Y t).kind = 2
      · have HK : Hid ((Y t).kind = 2) := hk
        rw [hk] at p0
        have HS1 := HVS.out t
        have HBT : Hid (badT tMax Y t = false) := bad_no HK.out (fun e => absurd e (by unfold tMax tSum; decide))
        have HOP : Hid (∀ x y, opG tMax x y = max x y) := fun x y => by unfold opG tMin tMax; rw [if_neg (by decide), if_pos rfl]
        have HS2 : Hid (vs (t + 1) = if t = 0 then (Y 0).n else opG tMax (vs t) (Y t).n) := HS1
        clear HS1 hk
        by_cases e : t = 0
        · subst e
          have HE : Hid (vs (0 + 1) = (Y 0).n) := HS2.out.trans (if_pos rfl)
          simp only [Nat.zero_mul, Nat.add_zero] at p0 p1
          rw [show ((0 : Nat) : Int) = 0 from rfl]
          go_wp2
          go_roundw
          case rel => exact ⟨0 + 1, by omega, by go_num, by rw [HE.out], fun s hs => by
            obtain rfl : s = 0 := by omega
            exact HBT.out, q, rfl⟩
          case measure => simp [intOf]; omega
        · have HE : Hid (vs (t + 1) = max (vs t) (Y t).n) := HS2.out.trans ((if_neg e).trans (HOP.out _ _))
          have ht0 : ((t : Int) == 0) = false := by simpa using e
          by_cases hl : vs t < (Y t).n
          · have HM : Hid (max (vs t) (Y t).n = (Y t).n) := by
              have h : max (vs t) (Y t).n = (Y t).n := by omega
              exact h
            go_wp2
            go_roundw
            case rel => exact ⟨t + 1, by omega, by go_num, by rw [HE.out, HM.out], fun s hs => by
              by_cases e : s = t
              · rw [e]; exact HBT.out
              · exact HBAD.out s (by omega), q, rfl⟩
            case measure => simp [intOf]; omega
          · have HM : Hid (max (vs t) (Y t).n = vs t) := by
              have h : max (vs t) (Y t).n = vs t := by omega
              exact h
            go_wp2
            go_roundw
            case rel => exact ⟨t + 1, by omega, by go_num, by rw [HE.out, HM.out], fun s hs => by
              by_cases e : s = t
              · rw [e]; exact HBT.out
              · exact HBAD.out s (by omega), q, rfl⟩
            case measure => simp [intOf]; omega
      · have hk1 : ((Y t).kind == 2) = false := by simpa using hk
        have HF : Hid (dOk tMax Y L = false) := dOk_no HNC.out htL (bad_kind hk)
        clear hk
        go_wp2
        refine bodyPost_ret (v := .tuple #[.int .i64 0, .bool false]) (by simp [results, Tryd.results18, go_sem]) rfl ⟨by rw [dA_no HF.out, HF.out], _, rfl⟩
    · have e : t = L := by omega
      subst e
      have HT : Hid (dOk tMax Y t = true) := dOk_yes HBAD.out
      go_wp2
      refine bodyPost_ret (v := .tuple #[.int .i64 (vs t), .bool true]) (by simp [results, Tryd.results18, go_sem]) rfl ⟨by rw [dA_yes HT.out, HT.out, HDV.out], _, rfl⟩
theorem aggregated_is (which : ByteArray) (hG : isG which) (v : Value) (L : Nat) (Y : Nat → It) (w : World) (hv : ItsIs w v L Y) (hY : ∀ s, s < L → -1099511627776 ≤ (Y s).n ∧ (Y s).n ≤ 1099511627776) : Calls Tryd.prog 18 #[.string which, v] w fun e w' => e = .returned (.tuple #[.int .i64 (dA which Y L), .bool (dOk which Y L)]) ∧ ∃ q, w' = w.drewN q := by
  rcases hG with rfl | rfl | rfl | rfl
  · refine (agg_count v L Y w hv).mono ?_
    rintro e w' ⟨rfl, rfl⟩
    have h : dOk tCount Y L = true := if_pos rfl
    refine ⟨?_, 0, rfl⟩
    rw [dA_yes h, h]
    unfold dV
    rw [if_pos rfl]
  · exact agg_sum v L Y w hv hY
  · exact agg_min v L Y w hv hY
  · exact agg_max v L Y w hv hY
end Go.Proofs.YtjgihlmefaakkaaDoor
