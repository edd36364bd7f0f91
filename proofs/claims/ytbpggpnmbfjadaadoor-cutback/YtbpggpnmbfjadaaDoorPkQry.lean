/-
  CONTRACT of pleacherkeep.Query.
-/
import Derived.Test.YtbpggpnmbfjadaaDoorPoTq
import Derived.Laws.Concat
set_option linter.unusedVariables false
namespace Go.Proofs.YtbpggpnmbfjadaaDoor
set_option maxRecDepth 100000
open Go.RowKit

theorem GrowQ.from {pb : Nat} {w0 w w' : World} (hb : Below pb w0 w) (h : GrowQ pb w w') (hp : pb ≤ w.heap.size) : Below pb w0 w' := hb.trans (h.low hp)
/-- a poet that is made anew -/
theorem poet_new {w0 w : World} {v : Value} {n : Nat} {X : Nat → Rw} (hr : RawsIs w v n X) (hf : RawsFine n X) : PoS w (w.alloc (.cells #[v, .bool false, .int .i64 0] 36)) w.heap.size false :=
  ⟨rfl, ⟨v, n, X, ⟨by simp, by simp, by simp, by simp, by simp⟩, hr, hf⟩, (Below.refl _ _).alloc (Nat.le_refl _) _⟩
/-- a query of a poet that is made anew -/
theorem poet_query {d : Int} {k : Nat} (HQ : QueOk d k) {w : World} {v : Value} {n : Nat} {X : Nat → Rw} (hr : RawsIs w v n X) (hf : RawsFine n X) :
    Calls Tryd.prog 9 #[.pointer (some ⟨w.heap.size, 0, none⟩), .int .i64 d] (w.alloc (.cells #[v, .bool false, .int .i64 0] 36)) fun e w' => ∃ s, Hid (TextS s k) ∧ e = .returned (.string s) ∧ Below w.heap.size w w' :=
  (HQ (poet_new (w0 := w) hr hf)).mono fun e w' ⟨s, k1, k2, k3, k4⟩ => ⟨s, k1, k2, k4.lo⟩
set_option maxHeartbeats 1600000 in
theorem query_text {n1 n2 : Nat} (H2 : QueOk 2 n2) (H1 : QueOk 1 n1) (hn : n1 ≤ 1000000 ∧ n2 ≤ 1000000) (v : Value) (n : Nat) (X : Nat → Rw) (w : World) (hr : RawsIs w v n X) (hf : RawsFine n X) :
    Calls Tryd.prog 4 #[v] w fun e w' => ∃ s, TextS s 190 ∧ e = .returned (.string s) ∧ Below w.heap.size w w' := by
  have C2 : Hid (Calls Tryd.prog 9 #[.pointer (some ⟨w.heap.size, 0, none⟩), .int .i64 2] (w.alloc (.cells #[v, .bool false, .int .i64 0] 36)) fun e w' => ∃ s, Hid (TextS s n2) ∧ e = .returned (.string s) ∧ Below w.heap.size w w') := poet_query H2 hr hf
  have C1 : Hid (∀ W, Below w.heap.size w W → Calls Tryd.prog 9 #[.pointer (some ⟨W.heap.size, 0, none⟩), .int .i64 1] (W.alloc (.cells #[v, .bool false, .int .i64 0] 36)) fun e w' => ∃ s, Hid (TextS s n1) ∧ e = .returned (.string s) ∧ Below W.heap.size W w') := fun W hW => poet_query H1 (hr.below hW) hf
  have C0 : Hid (∀ W, Below w.heap.size w W → Calls Tryd.prog 9 #[.pointer (some ⟨W.heap.size, 0, none⟩), .int .i64 0] (W.alloc (.cells #[v, .bool false, .int .i64 0] 36)) fun e w' => ∃ s, Hid (TextS s 6) ∧ e = .returned (.string s) ∧ Below W.heap.size W w') := fun W hW => poet_query query0_ok (hr.below hW) hf
  clear H2 H1
  obtain ⟨a, cap, rfl, _, _, _⟩ := hr
  clear hf
  go_enter Tryd.func4, Tryd.ntmps4
  go_wp2_with (first
    | (go_at_call 9; refine C2.out.mono ?_; rintro e w1 ⟨s1, HT1, rfl, hb1⟩; have HB1 : Hid (Below w.heap.size w w1) := hb1; clear hb1 C2))
  go_loopw [3, 4, 5] (fun pv sv iv wr => ∃ (j pb : Nat) (s : ByteArray), pv = .pointer (some ⟨pb, 0, none⟩) ∧ j ≤ 2 ∧ iv = .int .i64 j ∧ sv = .string s ∧ TextS s 1000000 ∧ (j = 2 → s.size ≤ 190) ∧ Below w.heap.size w wr) (fun _ _ iv _ => 2 - (intOf iv).toNat)
  case atStart => exact ⟨0, _, s1, rfl, by omega, rfl, rfl, HT1.out.more hn.2, fun h => by omega, HB1.out⟩
  case round =>
    obtain ⟨j, pb, s, rfl, hj, rfl, rfl, hs, h2, hbw⟩ := hrel
    have HS : Hid (TextS s 1000000) := hs
    have HBW : Hid (Below w.heap.size w wr) := hbw
    have hsz : s.size ≤ 1000000 := hs.2.2
    clear hs hbw
    by_cases hl : 190 < s.size
    · have hli : (190 : Int) < (s.size : Int) := by omega
      have e2 : j = 0 ∨ j = 1 := by omega
      clear h2
      rcases e2 with rfl | rfl
      · rw [show ((0 : Nat) : Int) = 0 from rfl]
        go_wp2_with (first
          | (go_at_call 9; refine (C1.out _ HBW.out).mono ?_; rintro e w2 ⟨s2, HT2, rfl, hb2⟩; have HB2 : Hid (Below w.heap.size w w2) := HBW.out.trans (hb2.mono HBW.out.size); clear hb2))
        go_roundw
        case rel => exact ⟨1, _, s2, rfl, by omega, by go_num, rfl, HT2.out.more hn.1, fun h => by omega, HB2.out⟩
        case measure => simp [intOf]
      · rw [show ((1 : Nat) : Int) = 1 from rfl]
        go_wp2_with (first
          | (go_at_call 9; refine (C0.out _ HBW.out).mono ?_; rintro e w2 ⟨s2, HT2, rfl, hb2⟩; have HB2 : Hid (Below w.heap.size w w2) := HBW.out.trans (hb2.mono HBW.out.size); clear hb2))
        go_roundw
        case rel => exact ⟨2, _, s2, rfl, by omega, by go_num, rfl, HT2.out.more (by omega), fun _ => by have := HT2.out.2.2; omega, HB2.out⟩
        case measure => simp [intOf]
    · have hli : ¬ ((190 : Int) < (s.size : Int)) := by omega
      clear h2
      go_wp2_with fail
      go_ret
      exact ⟨s, ⟨HS.out.1, HS.out.2.1, by omega⟩, rfl, HBW.out⟩
end Go.Proofs.YtbpggpnmbfjadaaDoor
