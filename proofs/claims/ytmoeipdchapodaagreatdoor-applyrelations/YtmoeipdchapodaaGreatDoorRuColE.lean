/-
  CONTRACTS of package run at a plan of two ops, a table and a function of its two columns: outlines.
-/
import Derived.Test.YtmoeipdchapodaaGreatDoorRuColA
import Derived.Test.YtmoeipdchapodaaGreatDoorRuColC
import Derived.Deep.QuietTactic
import Derived.Deep.Cut
import Derived.BigQuiet
import Derived.Deep.RegionLaw
import Derived.Laws.EntriesVeiled
set_option linter.unusedVariables false
namespace Go.Proofs.YtmoeipdchapodaaGreatDoor
set_option maxRecDepth 100000
open Go.RowKit Go.WideShapes

/-- texts that lie behind a place lie behind an earlier one, too -/
theorem strs_ahead {w : World} {B B' : Nat} {v : Value} {n : Nat} {C : Nat → ByteArray} (h : StrsFrom w B v n C) (hB : B' ≤ B) : StrsFrom w B' v n C := by
  obtain ⟨a, cap, h1, h2, h3, h4, h5⟩ := h
  refine ⟨a, cap, h1, h2, h3, h4, fun h0 => ?_⟩
  obtain ⟨b, off, k1, k2, k3, k4⟩ := h5 h0
  exact ⟨b, off, k1, k2, by omega, k4⟩
set_option maxHeartbeats 3200000 in
theorem outline_table (pb cb qb rb ib rcap : Nat) (x y : It) (fn : ByteArray) (M iv : Value) (w : World) (h : PlS w pb cb qb rb ib rcap x y fn) (hT : ∀ W, Below w.heap.size w W → Tabs W) :
    Calls Tryz.prog 22 #[.pointer (some ⟨pb, 0, none⟩), M, iv] w fun e w' => ∃ a cap, e = .returned (.tuple #[.agg #[.slice a 2 cap, .slice none 0 0], .int .i64 0]) ∧ StrsFrom w' w.heap.size (.slice a 2 cap) 2 C2 ∧ Below w.heap.size w w' := by
  obtain ⟨hpb, d0, d1, d2, d3, d4, d5, d6, d7, d8, d9, d10, d11, d12, _⟩ := h.cells
  have CK : Hid (∀ W, Below w.heap.size w W → Calls Tryz.prog 79 #[.slice (some ⟨cb, 0, none⟩) 2 3] W fun e w' => ∃ a cap, e = .returned (.tuple #[.agg #[.slice a 2 cap, .slice none 0 0], .int .i64 0]) ∧ StrsFrom w' W.heap.size (.slice a 2 cap) 2 C2 ∧ Below W.heap.size W w') := fun W hW => columns_is _ 2 C2 W (h.strs.below hW) fine2 (made2 0 (by omega)) (fun W' hW' => hT W' (hW.trans (hW'.mono hW.size)))
  clear h hT d1 d2 d3 d4 d5 d6 d7 d8 d9 d10
  go_enter Tryz.func22, Tryz.ntmps22
  go_wp2_with (go_at_call 79; refine (CK.out _ ?_).mono ?_; (· (focus (repeat (first | exact Below.refl _ _ | exact Hid.out (by assumption) | refine Below.setCell ?_ (by first | omega | (simp <;> omega)) _ | refine Below.alloc ?_ (by first | omega | (simp <;> omega)) _)))); rintro e w1 ⟨a1, k1, rfl, hs1, hb1⟩; have HB1 : Hid (Below w.heap.size w w1) := Below.trans (by (focus (repeat (first | exact Below.refl _ _ | exact Hid.out (by assumption) | refine Below.setCell ?_ (by first | omega | (simp <;> omega)) _ | refine Below.alloc ?_ (by first | omega | (simp <;> omega)) _)))) (hb1.mono (by first | omega | (simp <;> omega))); have HS1 : Hid (StrsFrom w1 (w.heap.size + 1) (.slice a1 2 k1) 2 C2) := (by have k := hs1; simp at k; exact k); have HR1 : Hid (w1.heap[w.heap.size]? = some (.cells #[.slice none 0 0, .slice none 0 0] 36)) := (hb1.block _ (by first | omega | (simp <;> omega))).trans (alloc_newN rfl); obtain ⟨q0, q1, q2, q3, q4⟩ := blk2 HR1.out; clear hb1 hs1)
  refine bodyPost_ret (v := .tuple #[.agg #[.slice a1 2 k1, .slice none 0 0], .int .i64 0]) (by simp [results, Tryz.results22, go_sem, q0, q1]) rfl ⟨a1, k1, rfl, ?_, ?_⟩
  · exact strs_ahead ((HS1.out.setCell (by simp) _).setCell (by simp) _) (by omega)
  · (focus (repeat (first | exact Below.refl _ _ | exact Hid.out (by assumption) | refine Below.setCell ?_ (by first | omega | (simp <;> omega)) _ | refine Below.alloc ?_ (by first | omega | (simp <;> omega)) _)))
theorem one_strs (w : World) (s : ByteArray) (g : Nat) (hg : w.heap.size = g) : StrsIs (w.alloc (.cells #[.string s] 9)) (.slice (some ⟨g, 0, none⟩) 1 1) 1 (fun _ => s) := by
  subst hg
  refine ⟨_, 1, rfl, Nat.le_refl _, by unfold maxLen; omega, (fun h => nomatch h), fun _ => ⟨w.heap.size, 0, rfl, by simp, fun i hi => ?_⟩⟩
  obtain rfl : i = 0 := by omega
  simp
theorem app3 : appS ⟨2, C2⟩ ⟨1, fun _ => ⟨#[118]⟩⟩ = ⟨3, fun i => if i < 2 then C2 i else ⟨#[118]⟩⟩ := rfl
theorem C3_is {i : Nat} (hi : i < 3) : (if i < 2 then C2 i else ⟨#[118]⟩) = C3 i := by
  obtain rfl | rfl | rfl : i = 0 ∨ i = 1 ∨ i = 2 := by omega
  · rfl
  · rfl
  · rfl
theorem StrsIs.congr {w : World} {v : Value} {n : Nat} {C C' : Nat → ByteArray} (h : StrsIs w v n C) (e : ∀ i, i < n → C i = C' i) : StrsIs w v n C' := by
  obtain ⟨a, cap, h1, h2, h3, h4, h5⟩ := h
  refine ⟨a, cap, h1, h2, h3, h4, fun h0 => ?_⟩
  obtain ⟨b, off, k1, k2, k3⟩ := h5 h0
  exact ⟨b, off, k1, k2, fun i hi => by rw [← e i hi]; exact k3 i hi⟩
set_option maxHeartbeats 6400000 in
theorem outlineApply_is (ca : Option Addr) (ck nb : Nat) (w : World) (hc : StrsIs w (.slice ca 2 ck) 2 C2) (hnb : nb < w.heap.size) (c0 : w.cell? ⟨nb, 0, none⟩ = some (.string ⟨#[112, 111, 115]⟩)) (c1 : w.cell? ⟨nb, 1, none⟩ = some (.string ⟨#[105, 116, 101, 109]⟩)) (hT : ∀ W, Below w.heap.size w W → Tabs W) :
    Calls Tryz.prog 80 #[.agg #[.slice ca 2 ck, .slice none 0 0], .string ⟨#[118]⟩, .int .i64 2, .slice (some ⟨nb, 0, none⟩) 2 3] w fun e w' => ∃ a cap, e = .returned (.tuple #[.agg #[.slice a 3 cap, .slice none 0 0], .int .i64 0]) ∧ StrsFrom w' w.heap.size (.slice a 3 cap) 3 C3 ∧ Below w.heap.size w w' := by
  have CP : Hid (∀ W, Below w.heap.size w W → Calls Tryz.prog 24 #[.slice ca 2 ck, .slice (some ⟨nb, 0, none⟩) 2 3] W fun e w' => e = .returned (.tuple #[.slice (some ⟨W.heap.size, 0, none⟩) 2 2, .int .i64 0]) ∧ w'.heap[W.heap.size]? = some (.cells #[.int .i64 0, .int .i64 1] 3) ∧ Below W.heap.size W w') := fun W hW =>
    places_is _ 2 C2 nb 3 W (hc.below hW) col_pos col_item (by omega) (by unfold maxLen; omega) (Nat.lt_of_lt_of_le hnb hW.size) ((hW.cell (p := ⟨nb, 0, none⟩) hnb).trans c0) ((hW.cell (p := ⟨nb, 1, none⟩) hnb).trans c1)
  have CC1 : Hid (∀ W bb u, Below w.heap.size w W → W.cell? ⟨bb, 0, none⟩ = some (.slice ca 2 ck) → W.cell? ⟨bb, 1, none⟩ = some u → StrsIs W u 1 (fun _ => ⟨#[118]⟩) → bb < W.heap.size → Calls Tryz.prog 111 #[.slice (some ⟨bb, 0, none⟩) 2 2] W fun e w' => ∃ a cap, e = .returned (.slice a 3 cap) ∧ StrsIs w' (.slice a 3 cap) 3 C3 ∧ Below W.heap.size W w') := fun W bb u hW k0 k1 k2 hbb => by
    refine Calls.mono (concatS_two bb 0 2 _ _ ⟨2, C2⟩ ⟨1, fun _ => ⟨#[118]⟩⟩ W (Nat.le_refl _) (by unfold maxLen; omega) hbb k0 k1 (hc.below hW) k2 (by rw [app3]; show 3 * 16 ≤ _; omega)) ?_
    rw [app3]
    rintro e w' ⟨u, rfl, h1, ⟨a, cap, rfl⟩, h2⟩
    exact ⟨a, cap, rfl, h1.is.congr (fun i hi => C3_is hi), h2⟩
  have CK : Hid (∀ W a k, Below w.heap.size w W → StrsIs W (.slice a 3 k) 3 C3 → Calls Tryz.prog 79 #[.slice a 3 k] W fun e w' => ∃ a cap, e = .returned (.tuple #[.agg #[.slice a 3 cap, .slice none 0 0], .int .i64 0]) ∧ StrsFrom w' W.heap.size (.slice a 3 cap) 3 C3 ∧ Below W.heap.size W w') := fun W a k hW hs => columns_is _ 3 C3 W hs fine3 made3 (fun W' hW' => hT W' (hW.trans (hW'.mono hW.size)))
  clear hT hc c0 c1
  go_enter Tryz.func80, Tryz.ntmps80
  go_wp2_with (first
    | (go_at_call 24; refine (CP.out _ ?_).mono ?_; (· (focus (repeat (first | exact Below.refl _ _ | exact Hid.out (by assumption) | refine Below.setCell ?_ (by first | omega | (simp <;> omega)) _ | refine Below.alloc ?_ (by first | omega | (simp <;> omega)) _)))); rintro e w1 ⟨rfl, _, hb1⟩; have HB1 : Hid (Below w.heap.size w w1) := Below.trans (by (focus (repeat (first | exact Below.refl _ _ | exact Hid.out (by assumption) | refine Below.setCell ?_ (by first | omega | (simp <;> omega)) _ | refine Below.alloc ?_ (by first | omega | (simp <;> omega)) _)))) (hb1.mono (by first | omega | (simp <;> omega))); have HR1 : Hid (w1.heap[w.heap.size + 1]? = some (.cells #[.slice none 0 0, .slice none 0 0] 36)) := (hb1.block _ (by first | omega | (simp <;> omega))).trans (alloc_newN (by simp)); have HM1 : Hid (w1.heap[w.heap.size]? = some (.cells #[.slice ca 2 ck, .slice none 0 0] 36)) := (hb1.block _ (by first | omega | (simp <;> omega))).trans (alloc_old (alloc_newN rfl)); obtain ⟨m0, m1, _, _, m4⟩ := blk2 HM1.out; have hz1 : w.heap.size + 2 ≤ w1.heap.size := (by have := hb1.size; simp at this; omega); clear hb1 CP)
    | (go_at_call 111; refine (CC1.out _ (w1.heap.size + 1) (.slice (some ⟨w1.heap.size, 0, none⟩) 1 1) ?_ ?_ ?_ ?_ ?_).mono ?_; (· (focus (repeat (first | exact Below.refl _ _ | exact Hid.out (by assumption) | refine Below.setCell ?_ (by first | omega | (simp <;> omega)) _ | refine Below.alloc ?_ (by first | omega | (simp <;> omega)) _)))); (· simp [go_sem]); (· simp [go_sem]); (· exact (one_strs w1 ⟨#[118]⟩ w1.heap.size rfl).below ((Below.refl _ _).alloc (Nat.le_refl _) _)); (· simp); rintro e w2 ⟨a2, k2, rfl, hs2, hb2⟩; have HB2 : Hid (Below w.heap.size w w2) := Below.trans (by (focus (repeat (first | exact Below.refl _ _ | exact Hid.out (by assumption) | refine Below.setCell ?_ (by first | omega | (simp <;> omega)) _ | refine Below.alloc ?_ (by first | omega | (simp <;> omega)) _)))) (hb2.mono (by first | omega | (simp <;> omega))); have HS2 : Hid (StrsIs w2 (.slice a2 3 k2) 3 C3) := hs2; have HR2 : Hid (w2.heap[w.heap.size + 1]? = some (.cells #[.slice none 0 0, .slice none 0 0] 36)) := (hb2.block _ (by first | omega | (simp <;> omega))).trans (alloc_old (alloc_old HR1.out)); have hz2 : w.heap.size + 2 ≤ w2.heap.size := (by have := hb2.size; simp at this; omega); clear hb2 hs2 CC1)
    | (go_at_call 79; refine (CK.out _ _ _ HB2.out HS2.out).mono ?_; rintro e w3 ⟨a3, k3, rfl, hs3, hb3⟩; have HB3 : Hid (Below w.heap.size w w3) := HB2.out.trans (hb3.mono HB2.out.size); have HS3 : Hid (StrsFrom w3 (w.heap.size + 2) (.slice a3 3 k3) 3 C3) := strs_ahead hs3 hz2; have HR3 : Hid (w3.heap[w.heap.size + 1]? = some (.cells #[.slice none 0 0, .slice none 0 0] 36)) := (hb3.block _ (by first | omega | (simp <;> omega))).trans HR2.out; obtain ⟨q0, q1, q2, q3, q4⟩ := blk2 HR3.out; clear hb3 hs3 CK))
  refine bodyPost_ret (v := .tuple #[.agg #[.slice a3 3 k3, .slice none 0 0], .int .i64 0]) (by simp [results, Tryz.results80, go_sem, q0, q1]) rfl ⟨a3, k3, rfl, ?_, ?_⟩
  · exact strs_ahead ((HS3.out.setCell (by simp) _).setCell (by simp) _) (by omega)
  · (focus (repeat (first | exact Below.refl _ _ | exact Hid.out (by assumption) | refine Below.setCell ?_ (by first | omega | (simp <;> omega)) _ | refine Below.alloc ?_ (by first | omega | (simp <;> omega)) _)))
end Go.Proofs.YtmoeipdchapodaaGreatDoor
