/-
  CONTRACT: the same tokens (pleacherlaw.sameTokens).
-/
import Derived.Test.YtcppodmgeonabaaDoorTcCut
set_option linter.unusedVariables false
namespace Go.Proofs.YtcppodmgeonabaaDoor
set_option maxRecDepth 100000
open Go.RowKit

theorem ToksOwn.lens {w : World} {base : Nat} {v : Value} {L : List Tok} (h : ToksOwn w base v L) : L.length ≤ maxLen := by
  obtain ⟨hl, ⟨rfl, h2⟩ | ⟨b, cap, cur, rfl, q1, q2, q3, q4, _⟩⟩ := h
  · omega
  · omega
set_option maxHeartbeats 800000 in
theorem sameTokens_is (u v : Value) (base base' : Nat) (L : List Tok) (w : World) (hu : ToksOwn w base u L) (hv : ToksOwn w base' v L) :
    Calls Tryd.prog 9 #[u, v] w fun e w' => e = .returned (.bool true) ∧ Below w.heap.size w w' := by
  have hm := hu.lens
  unfold maxLen at hm
  have hs1 := own_shape hu
  have hs2 := own_shape hv
  obtain ⟨a, c, rfl⟩ := hs1
  obtain ⟨a', c', rfl⟩ := hs2
  have HQ : Hid (∀ W k, k < L.length → Below w.heap.size w W → ∃ (t : Tok) (b b' : Nat), a = some ⟨b, 0, none⟩ ∧ a' = some ⟨b', 0, none⟩ ∧ b < w.heap.size ∧ b' < w.heap.size ∧ L.length ≤ c ∧ L.length ≤ c' ∧
      W.cell? ⟨b, k * 3, none⟩ = some (.int .i64 t.kind) ∧ W.cell? ⟨b, k * 3 + 1, none⟩ = some (.string t.s) ∧ W.cell? ⟨b, k * 3 + 2, none⟩ = some (.int .i64 t.n) ∧
      W.cell? ⟨b', k * 3, none⟩ = some (.int .i64 t.kind) ∧ W.cell? ⟨b', k * 3 + 1, none⟩ = some (.string t.s) ∧ W.cell? ⟨b', k * 3 + 2, none⟩ = some (.int .i64 t.n)) := fun W k hk hW => by
    obtain ⟨b, cb, e1, e2, e3, e4, e5, e6⟩ := hu.at k hk
    obtain ⟨b', cb', f1, f2, f3, f4, f5, f6⟩ := hv.at k hk
    simp only [Value.slice.injEq, true_and] at e1 f1
    obtain ⟨rfl, rfl⟩ := e1
    obtain ⟨rfl, rfl⟩ := f1
    exact ⟨L[k], b, b', rfl, rfl, e2, f2, e3, f3, (hW.cell (p := ⟨b, k * 3, none⟩) e2).trans e4, (hW.cell (p := ⟨b, k * 3 + 1, none⟩) e2).trans e5, (hW.cell (p := ⟨b, k * 3 + 2, none⟩) e2).trans e6, (hW.cell (p := ⟨b', k * 3, none⟩) f2).trans f4, (hW.cell (p := ⟨b', k * 3 + 1, none⟩) f2).trans f5, (hW.cell (p := ⟨b', k * 3 + 2, none⟩) f2).trans f6⟩
  clear hu hv
  generalize L.length = n at *
  go_enter Tryd.func9, Tryd.ntmps9
  go_wp2
  go_loopw [5] (fun q wr => ∃ k : Nat, k ≤ n ∧ q = .int .i64 k ∧ Below w.heap.size w wr) (fun q _ => n - (intOf q).toNat)
  case atStart => exact ⟨0, Nat.zero_le _, rfl, Below.refl _ _⟩
  case round =>
    obtain ⟨k, hk, rfl, hbr⟩ := hrel
    have HBR : Hid (Below w.heap.size w wr) := hbr
    by_cases hlt : k < n
    · obtain ⟨t, b, b', rfl, rfl, hb, hb', hc, hc', e1, e2, e3, f1, f2, f3⟩ := HQ.out wr k (by omega) hbr
      have hki : (k : Int) < (n : Int) := by omega
      clear hbr
      go_wp2
      go_quiet (fail)
      go_wp2
      go_roundw
      case rel => exact ⟨k + 1, by omega, by go_num, below_drawnT HBR.out _⟩
      case measure => simp [intOf]; omega
    · clear hbr
      go_wp2
      go_ret
      exact ⟨rfl, HBR.out⟩
end Go.Proofs.YtcppodmgeonabaaDoor
