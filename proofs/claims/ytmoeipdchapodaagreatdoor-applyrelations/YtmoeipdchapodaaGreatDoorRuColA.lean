/-
  CONTRACTS of package run at a plan of two ops, a table and a function of its two columns: columns that are told.
-/
import Derived.Test.YtmoeipdchapodaaGreatDoorRuCol
import Derived.Deep.QuietTactic
import Derived.Deep.Cut
import Derived.BigQuiet
import Derived.Deep.RegionLaw
import Derived.Laws.EntriesVeiled
set_option linter.unusedVariables false
namespace Go.Proofs.YtmoeipdchapodaaGreatDoor
set_option maxRecDepth 100000
open Go.RowKit Go.WideShapes

set_option maxHeartbeats 1600000 in
/-- columns of a relation without rows -/
theorem columns_is (v : Value) (n : Nat) (C : Nat → ByteArray) (w : World) (hv : StrsIs w v n C) (hf : StrsFine n C) (h0 : madeF C n 0 = 0) (hT : ∀ W, Below w.heap.size w W → Tabs W) :
    Calls Tryz.prog 79 #[v] w fun e w' => ∃ a cap, e = .returned (.tuple #[.agg #[.slice a n cap, .slice none 0 0], .int .i64 0]) ∧ StrsFrom w' w.heap.size (.slice a n cap) n C ∧ Below w.heap.size w w' := by
  have CC1 : Hid (∀ W bb, Below w.heap.size w W → W.cell? ⟨bb, 0, none⟩ = some v → bb < W.heap.size → Calls Tryz.prog 111 #[.slice (some ⟨bb, 0, none⟩) 1 1] W fun e w' => ∃ a cap, e = .returned (.slice a n cap) ∧ StrsFrom w' W.heap.size (.slice a n cap) n C ∧ Below W.heap.size W w') := fun W bb hW hc hbb => by
    refine Calls.mono (concatS_one bb 0 1 v n C W (Nat.le_refl _) (by unfold maxLen; omega) hbb hc (hv.below hW) hf.1) ?_
    rintro e w' ⟨u, rfl, h1, ⟨a, cap, rfl⟩, h2⟩
    exact ⟨a, cap, rfl, h1, h2⟩
  have CK : Hid (∀ W a cap, Below w.heap.size w W → StrsIs W (.slice a n cap) n C → Calls Tryz.prog 107 #[.agg #[.slice a n cap, .slice none 0 0]] W fun e w' => e = .returned (.int .i64 0) ∧ Below W.heap.size W w') := fun W a cap hW hs => by
    have h := relCheck_is (.slice a n cap) (.slice none 0 0) n 0 C (fun _ => ⟨0, fun _ => ⟨0, 0, ⟨#[]⟩⟩⟩) W hs ⟨none, 0, rfl, Nat.le_refl _, Nat.zero_le _, fun _ => rfl, fun h => absurd h (Nat.lt_irrefl 0)⟩ hf ⟨by omega, fun i hi => absurd hi (Nat.not_lt_zero i)⟩ (hT W hW)
    have e : relF C n (fun _ => ⟨0, fun _ => ⟨0, 0, ⟨#[]⟩⟩⟩) 0 = 0 := by unfold relF; rw [if_pos h0]; rfl
    rw [e] at h
    exact h
  have hvs := hv
  obtain ⟨va, vc, rfl, _⟩ := hvs
  clear hT h0
  go_enter Tryz.func79, Tryz.ntmps79
  go_wp2_with (first
    | (go_at_call 111; refine (CC1.out _ (w.heap.size + 1) ?_ ?_ ?_).mono ?_; (· (focus (repeat (first | exact Below.refl _ _ | exact Hid.out (by assumption) | refine Below.setCell ?_ (by first | omega | (simp <;> omega)) _ | refine Below.alloc ?_ (by first | omega | (simp <;> omega)) _)))); (· simp [go_sem]); (· simp); rintro e w1 ⟨a1, k1, rfl, hs1, hb1⟩; have HS1 : Hid (StrsFrom w1 (w.heap.size + 2) (.slice a1 n k1) n C) := (by have h := hs1; simp at h; exact h); have HB1 : Hid (Below w.heap.size w w1) := Below.trans (by (focus (repeat (first | exact Below.refl _ _ | exact Hid.out (by assumption) | refine Below.setCell ?_ (by first | omega | (simp <;> omega)) _ | refine Below.alloc ?_ (by first | omega | (simp <;> omega)) _)))) (hb1.mono (by first | omega | (simp <;> omega))); have HR1 : Hid (w1.heap[w.heap.size]? = some (.cells #[.slice none 0 0, .slice none 0 0] 36)) := (hb1.block _ (by first | omega | (simp <;> omega))).trans (alloc_old (alloc_newN rfl)); have hz1 : w.heap.size + 2 ≤ w1.heap.size := (by have := hb1.size; simp at this; omega); clear hb1 hs1)
    | (go_at_call 107; refine (CK.out _ _ _ ?_ ?_).mono ?_; (· (focus (repeat (first | exact Below.refl _ _ | exact Hid.out (by assumption) | refine Below.setCell ?_ (by first | omega | (simp <;> omega)) _ | refine Below.alloc ?_ (by first | omega | (simp <;> omega)) _)))); (· exact HS1.out.is.below ((Below.refl _ _).alloc (Nat.le_refl _) _)); rintro e w2 ⟨rfl, hb2⟩; have HB2 : Hid (Below w.heap.size w w2) := Below.trans (by (focus (repeat (first | exact Below.refl _ _ | exact Hid.out (by assumption) | refine Below.setCell ?_ (by first | omega | (simp <;> omega)) _ | refine Below.alloc ?_ (by first | omega | (simp <;> omega)) _)))) (hb2.mono (by first | omega | (simp <;> omega))); have HR2 : Hid (w2.heap[w.heap.size]? = some (.cells #[.slice none 0 0, .slice none 0 0] 36)) := (hb2.block _ (by first | omega | (simp <;> omega))).trans (alloc_old HR1.out); have HM2 : Hid (w2.heap[w1.heap.size]? = some (.cells #[.slice a1 n k1, .slice none 0 0] 36)) := (hb2.block _ (by first | omega | (simp <;> omega))).trans (alloc_newN rfl); have HS2 : Hid (StrsFrom w2 (w.heap.size + 2) (.slice a1 n k1) n C) := (HS1.out.below ((Below.refl _ _).alloc (Nat.le_refl _) _)).below hb2; obtain ⟨q0, q1, q2, q3, q4⟩ := blk2 HR2.out; obtain ⟨m0, m1, _, _, m4⟩ := blk2 HM2.out; clear hb2))
  refine bodyPost_ret (v := .tuple #[.agg #[.slice a1 n k1, .slice none 0 0], .int .i64 0]) (by simp [results, Tryz.results79, go_sem, q0, q1]) rfl ⟨a1, k1, rfl, ?_, ?_⟩
  · exact ((HS2.out.setCell (by simp) _).setCell (by simp) _).weaken (by omega)
  · (focus (repeat (first | exact Below.refl _ _ | exact Hid.out (by assumption) | refine Below.setCell ?_ (by first | omega | (simp <;> omega)) _ | refine Below.alloc ?_ (by first | omega | (simp <;> omega)) _)))
end Go.Proofs.YtmoeipdchapodaaGreatDoor
