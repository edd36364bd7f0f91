/-
  CONTRACTS: store.Events, the document's EventsAt, and sameEvents, at any list of nodes.
-/
import Derived.Test.YtabnaeppcnfhhaaDoorEtCode
import Derived.Test.YtabnaeppcnfhhaaDoorEtRef
import Derived.Deep.QuietTactic
import Derived.BigQuiet
set_option linter.unusedVariables false
namespace Go.Proofs.YtabnaeppcnfhhaaDoor
set_option maxRecDepth 100000
open Go.RowKit

/-- the events that are told -/
def evT (E : Nat → Nd) (n : Nat) (i : Int) : List Evt := if atF E n i = 0 then evA E i.toNat else []
theorem evT_ok {E : Nat → Nd} {n m : Nat} (h : atF E n m = 0) : evT E n m = evA E m := by unfold evT; rw [if_pos h]; rfl
theorem evT_no {E : Nat → Nd} {n : Nat} {i : Int} (h : ¬ atF E n i = 0) : evT E n i = [] := if_neg h
theorem nds_parts {w : World} {v : Value} {n : Nat} {E : Nat → Nd} (hv : NdsIs w v n E) (h0 : 0 < n) : ∃ b off cap, v = .slice (some ⟨b, off, none⟩) n cap ∧ n ≤ cap ∧ cap ≤ maxLen ∧ b < w.heap.size ∧ NdsAt w b off n E := by
  obtain ⟨a, cap, h1, h2, h3, h4⟩ := hv
  obtain ⟨b, off, rfl, h5, h6⟩ := h4 h0
  exact ⟨b, off, cap, h1, h2, h3, h5, h6⟩
set_option maxHeartbeats 800000 in
theorem events_is (v : Value) (n : Nat) (i : Int) (E : Nat → Nd) (w : World) (hv : NdsIs w v n E) (hT : Tabs w) (hf : NdsFine n E) :
    Calls Tryd.prog 4 #[v, .int .i64 i] w fun e w' => ∃ u, e = .returned (.tuple #[u, .int .i64 (atF E n i)]) ∧ EvRow w' w.heap.size u (evT E n i) ∧ Below w.heap.size w w' := by
  have hC := checkAt_is v n i E w hv hT hf
  by_cases h : atF E n i = 0
  · obtain ⟨h1, m, rfl, hm⟩ := atF_zero h
    obtain ⟨hN, hfit⟩ := nodesF_fit h1
    obtain ⟨b, off, cap, rfl, h2, h3, h4, h5⟩ := nds_parts hv (by omega)
    rw [evT_ok h, h]
    rw [h] at hC
    exact events_some b off n cap m E w hN h2 h3 hm h4 h5 (tree_of hfit) hC
  · have HC : Hid (Calls Tryd.prog 8 #[v, .int .i64 i] w fun e w' => e = .returned (.int .i64 (atF E n i)) ∧ Below w.heap.size w w') := hC
    obtain ⟨a, cap, rfl, _⟩ := hv
    rw [evT_no h]
    have h' : (atF E n i == 0) = false := by simpa using h
    generalize atF E n i = R at *
    clear hC hT hf h
    go_enter Tryd.func4, Tryd.ntmps4
    go_wp2_with (go_at_call 8; refine HC.out.mono ?_; rintro e w1 ⟨rfl, hb1⟩)
    refine bodyPost_ret (v := .tuple #[.slice none 0 0, .int .i64 R]) (by simp [results, Tryd.results4, go_sem]) rfl ?_
    exact ⟨_, rfl, EvRow.nil _ _, hb1⟩
set_option maxHeartbeats 800000 in
theorem eventsOf_is (v : Value) (n : Nat) (i : Int) (E : Nat → Nd) (w : World) (hv : NdsIs w v n E) (hT : Tabs w) (hf : NdsFine n E) :
    Calls Tryd.prog 6 #[v, .int .i64 i] w fun e w' => ∃ u, e = .returned (.tuple #[u, .int .i64 (atF E n i)]) ∧ EvRow w' w.heap.size u (evT E n i) ∧ Below w.heap.size w w' := by
  have hC := nodeFault_is v n i E w hv hT hf
  by_cases h : atF E n i = 0
  · obtain ⟨h1, m, rfl, hm⟩ := atF_zero h
    obtain ⟨hN, hfit⟩ := nodesF_fit h1
    obtain ⟨b, off, cap, rfl, h2, h3, h4, h5⟩ := nds_parts hv (by omega)
    rw [evT_ok h, h]
    rw [h] at hC
    have HC : Hid (Calls Tryd.prog 9 #[.slice (some ⟨b, off, none⟩) n cap, .int .i64 m] w fun e w' => e = .returned (.int .i64 0) ∧ Below w.heap.size w w') := hC
    have HE : Hid (∀ W, Below w.heap.size w W → Calls Tryd.prog 10 #[.slice (some ⟨b, off, none⟩) n cap, .int .i64 m] W fun e w' => ∃ v, e = .returned v ∧ EvRow w' W.heap.size v (evA E m) ∧ Below W.heap.size W w') := fun W hW =>
      eventsAt_all b off n cap E hN h2 h3 (tree_of hfit) (zN E m) m W (Nat.le_refl _) hm (Nat.lt_of_lt_of_le h4 hW.size) (h5.below hW h4)
    clear hC hT hf hv h h1 hfit h5
    generalize evA E m = L at *
    go_enter Tryd.func6, Tryd.ntmps6
    go_wp2_with (first
      | (go_at_call 9; refine HC.out.mono ?_; rintro e w1 ⟨rfl, hb1⟩; have HB1 : Hid (Below w.heap.size w w1) := hb1; clear hb1)
      | (go_at_call 10; refine (HE.out _ HB1.out).mono ?_; rintro e w2 ⟨u, rfl, hr2, hb2⟩))
    have hsh := own_shape hr2
    obtain ⟨ua, uc, rfl⟩ := hsh
    refine bodyPost_ret (v := .tuple #[.slice ua L.length uc, .int .i64 0]) (by simp [results, Tryd.results6, go_sem]) rfl ?_
    refine ⟨_, rfl, ?_, HB1.out.trans (hb2.mono HB1.out.size)⟩
    obtain ⟨k1, k2⟩ := hr2
    refine ⟨k1, ?_⟩
    rcases k2 with k2 | ⟨g, c', cur, q1, q2, q3⟩
    · exact .inl k2
    · exact .inr ⟨g, c', cur, q1, Nat.le_trans HB1.out.size q2, q3⟩
  · have HC : Hid (Calls Tryd.prog 9 #[v, .int .i64 i] w fun e w' => e = .returned (.int .i64 (atF E n i)) ∧ Below w.heap.size w w') := hC
    obtain ⟨a, cap, rfl, _⟩ := hv
    rw [evT_no h]
    have h' : (atF E n i == 0) = false := by simpa using h
    generalize atF E n i = R at *
    clear hC hT hf h
    go_enter Tryd.func6, Tryd.ntmps6
    go_wp2_with (go_at_call 9; refine HC.out.mono ?_; rintro e w1 ⟨rfl, hb1⟩)
    refine bodyPost_ret (v := .tuple #[.slice none 0 0, .int .i64 R]) (by simp [results, Tryd.results6, go_sem]) rfl ?_
    exact ⟨_, rfl, EvRow.nil _ _, hb1⟩

theorem below_drawnE {B : Nat} {w w' : World} (h : Below B w w') : ∀ n, Below B w (w'.drewN n)
  | 0 => h
  | n + 1 => (below_drawnE h n).drew
theorem EvRow.lens {w : World} {base : Nat} {v : Value} {L : List Evt} (h : EvRow w base v L) : L.length ≤ maxLen := by
  obtain ⟨hl, ⟨rfl, h2⟩ | ⟨b, cap, cur, rfl, q1, q2, q3, q4, _⟩⟩ := h
  · omega
  · omega
set_option maxHeartbeats 800000 in
theorem sameEvents_is (u v : Value) (base base' : Nat) (L : List Evt) (w : World) (hu : EvRow w base u L) (hv : EvRow w base' v L) :
    Calls Tryd.prog 7 #[u, v] w fun e w' => e = .returned (.bool true) ∧ Below w.heap.size w w' := by
  have hm := hu.lens
  unfold maxLen at hm
  have hs1 := own_shape hu
  have hs2 := own_shape hv
  obtain ⟨a, c, rfl⟩ := hs1
  obtain ⟨a', c', rfl⟩ := hs2
  have HQ : Hid (∀ W k, k < L.length → Below w.heap.size w W → ∃ (t : Evt) (b b' : Nat), a = some ⟨b, 0, none⟩ ∧ a' = some ⟨b', 0, none⟩ ∧ b < w.heap.size ∧ b' < w.heap.size ∧ L.length ≤ c ∧ L.length ≤ c' ∧
      W.cell? ⟨b, k * 3, none⟩ = some (.int .i64 t.kind) ∧ W.cell? ⟨b, k * 3 + 1, none⟩ = some (.string t.name) ∧ W.cell? ⟨b, k * 3 + 2, none⟩ = some (.string t.value) ∧
      W.cell? ⟨b', k * 3, none⟩ = some (.int .i64 t.kind) ∧ W.cell? ⟨b', k * 3 + 1, none⟩ = some (.string t.name) ∧ W.cell? ⟨b', k * 3 + 2, none⟩ = some (.string t.value)) := fun W k hk hW => by
    obtain ⟨b, cb, e1, e2, e3, e4, e5, e6⟩ := hu.at k hk
    obtain ⟨b', cb', f1, f2, f3, f4, f5, f6⟩ := hv.at k hk
    simp only [Value.slice.injEq, true_and] at e1 f1
    obtain ⟨rfl, rfl⟩ := e1
    obtain ⟨rfl, rfl⟩ := f1
    exact ⟨L[k], b, b', rfl, rfl, e2, f2, e3, f3, (hW.cell (p := ⟨b, k * 3, none⟩) e2).trans e4, (hW.cell (p := ⟨b, k * 3 + 1, none⟩) e2).trans e5, (hW.cell (p := ⟨b, k * 3 + 2, none⟩) e2).trans e6, (hW.cell (p := ⟨b', k * 3, none⟩) f2).trans f4, (hW.cell (p := ⟨b', k * 3 + 1, none⟩) f2).trans f5, (hW.cell (p := ⟨b', k * 3 + 2, none⟩) f2).trans f6⟩
  clear hu hv
  generalize L.length = n at *
  go_enter Tryd.func7, Tryd.ntmps7
  go_wp2
  go_loopw [5] (fun q wr => ∃ k : Nat, k ≤ n ∧ q = .int .i64 k ∧ Below w.heap.size w wr) (fun q _ => n - (intOf q).toNat)
  case atStart => exact ⟨0, Nat.zero_le _, rfl, Below.refl _ _⟩
  case round =>
    obtain ⟨k, hk, rfl, hbr⟩ := hrel
    have HBR : Hid (Below w.heap.size w wr) := hbr
    by_cases hlt : k < n
    · obtain ⟨t, b, b', rfl, rfl, hb, hb', hc, hc', e1, e2, e3, f1, f2, f3⟩ := HQ.out wr k (by omega) hbr
      have hki : (k : Int) < (n : Int) := by omega
      clear hbr
      go_wp2
      go_quiet (fail)
      go_wp2
      go_roundw
      case rel => exact ⟨k + 1, by omega, by go_num, below_drawnE HBR.out _⟩
      case measure => simp [intOf]; omega
    · clear hbr
      go_wp2
      go_ret
      exact ⟨rfl, HBR.out⟩
end Go.Proofs.YtabnaeppcnfhhaaDoor
