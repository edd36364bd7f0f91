/-
  CONTRACTS of package core: what is refused of a call.
-/
import Derived.Test.YtcbpjgnbdpfiiaaGreatDoorLcE
import Derived.Deep.RegionHeld3
set_option linter.unusedVariables false
namespace Go.Proofs.YtcbpjgnbdpfiiaaGreatDoor
set_option maxRecDepth 100000
open Go.RowKit Go.WideShapes

/-- what a table says of a name and a number of arguments -/
def tabF (V : ByteArray → Option Value) (x : ByteArray) (m : Nat) (y : ByteArray) (a : Int) (R : Int) : Prop := (V x = some (fV y a) ∧ R = if a = (m : Int) then 0 else 11) ∨ (V x = none ∧ R = 6)
set_option maxHeartbeats 1600000 in
theorem tcheckV_is (V : ByteArray → Option Value) (tb : Nat) (x y : ByteArray) (m : Nat) (a R : Int) (w : World) (hx : x.size ≤ maxLen) (h : VMap w tb V) (hR : tabF V x m y a R) :
    Calls Tryz.prog 80 #[.map (some tb), .string x, .int .i64 m] w fun e w' => e = .returned (.int .i64 R) ∧ Below w.heap.size w w' := by
  have hl := (h.look hx Tryz.underlying73 (zeroF w)).2
  clear h
  rcases hR with ⟨h2, hR⟩ | ⟨h2, hR⟩
  · rw [h2] at hl
    have hl' : (Instr.lookup 73 (.map (some tb)) (.string x) true).run Tryz.prog w = .ok (.tuple #[.agg #[.string y, .int .i64 a], .bool true]) w := hl
    clear hl h2
    have HB : Hid (Below w.heap.size w (w.alloc (.cells #[.string y, .int .i64 a] 98))) := (Below.refl _ _).alloc (Nat.le_refl _) _
    by_cases h3 : a = (m : Int)
    · rw [if_pos h3] at hR
      subst h3 hR
      go_enter Tryz.func80, Tryz.ntmps80
      go_wp2
      go_ret
      exact ⟨rfl, HB.out⟩
    · have g3 : (a != (m : Int)) = true := by simpa using h3
      have g4 : (a == (m : Int)) = false := by simpa using h3
      rw [if_neg h3] at hR
      subst hR
      go_enter Tryz.func80, Tryz.ntmps80
      go_wp2
      go_ret
      exact ⟨rfl, HB.out⟩
  · rw [h2] at hl
    have hl' : (Instr.lookup 73 (.map (some tb)) (.string x) true).run Tryz.prog w = .ok (.tuple #[.agg #[.string ByteArray.empty, .int .i64 0], .bool false]) w := hl
    clear hl h2
    have HB : Hid (Below w.heap.size w (w.alloc (.cells #[.string ByteArray.empty, .int .i64 0] 98))) := (Below.refl _ _).alloc (Nat.le_refl _) _
    subst hR
    go_enter Tryz.func80, Tryz.ntmps80
    go_wp2
    go_ret
    exact ⟨rfl, HB.out⟩
set_option maxHeartbeats 1600000 in
theorem checkCall_plain (V : ByteArray → Option Value) (lb tb : Nat) (m2 m3 m4 m5 : Value) (nm y : ByteArray) (m : Nat) (a R : Int) (w : World) (hx : nm.size ≤ maxLen) (hl : w.heap[lb]? = some (.cells #[.map (some tb), m2, m3, m4, m5] 78)) (h : VMap w tb V) (hR : tabF V nm m y a R) (n0 : (nm.toList == [116, 114, 117, 101]) = false) (n1 : (nm.toList == [102, 97, 108, 115, 101]) = false) (n2 : (nm.toList == [112, 111, 115, 105, 116, 105, 111, 110]) = false) (n3 : (nm.toList == [108, 97, 115, 116]) = false) :
    Calls Tryz.prog 81 #[.pointer (some ⟨lb, 0, none⟩), .string nm, .int .i64 m] w fun e w' => e = .returned (.int .i64 R) ∧ Below w.heap.size w w' := by
  have CT : Hid (Calls Tryz.prog 80 #[.map (some tb), .string nm, .int .i64 m] w fun e w' => e = .returned (.int .i64 R) ∧ Below w.heap.size w w') := tcheckV_is V tb nm y m a R w hx h hR
  obtain ⟨l0, _, _, _, _, _, l6⟩ := bk5 hl
  clear hl h hR
  go_enter Tryz.func81, Tryz.ntmps81
  go_wp2_with (go_at_call 80; refine CT.out.mono ?_; rintro e w1 ⟨rfl, hb1⟩)
  go_ret
  exact ⟨rfl, hb1⟩
set_option maxHeartbeats 1600000 in
theorem checkCall_true (lb : Nat) (m : Nat) (w : World) :
    Calls Tryz.prog 81 #[.pointer (some ⟨lb, 0, none⟩), .string ⟨#[116, 114, 117, 101]⟩, .int .i64 m] w fun e w' => e = .returned (.int .i64 (if m = 0 then 0 else 11)) ∧ Below w.heap.size w w' := by
  by_cases hm : m = 0
  · subst hm
    go_enter Tryz.func81, Tryz.ntmps81
    go_wp2
    go_ret
    exact ⟨rfl, Below.refl _ _⟩
  · rw [if_neg hm]
    have h1 : (0 : Int) < (m : Int) := by omega
    go_enter Tryz.func81, Tryz.ntmps81
    go_wp2
    go_ret
    exact ⟨rfl, Below.refl _ _⟩
theorem parts_call (m : Nat) (w : World) : Calls Tryz.prog 75 #[.int .i64 8, .int .i64 m] w fun e w' => e = .returned (.int .i64 0) ∧ w' = w := by
  go_enter Tryz.func75, Tryz.ntmps75
  go_wp2
  go_ret
  exact ⟨rfl, rfl⟩
set_option maxHeartbeats 3200000 in
/-- checkAlone of a call: what checkCall says -/
theorem alone_call (lb b off : Nat) (it : It) (nm : ByteArray) (n ax tk : Int) (tn : ByteArray) (aa : Option Addr) (am ac : Nat) (cv : Value) (R : Int) (w : World) (h : PhAt w b off 8 it nm n ax tk tn (.slice aa am ac) cv) (hb : b < w.heap.size)
    (hC : ∀ W, Below w.heap.size w W → Calls Tryz.prog 81 #[.pointer (some ⟨lb, 0, none⟩), .string nm, .int .i64 am] W fun e w' => e = .returned (.int .i64 R) ∧ Below W.heap.size W w') :
    Calls Tryz.prog 48 #[.pointer (some ⟨lb, 0, none⟩), .pointer (some ⟨b, off, none⟩)] w fun e w' => e = .returned (.int .i64 R) ∧ Below w.heap.size w w' := by
  have CP : Hid (∀ W, Calls Tryz.prog 75 #[.int .i64 8, .int .i64 am] W fun e w' => e = .returned (.int .i64 0) ∧ w' = W) := parts_call am
  obtain ⟨c0, c1, c2, c3, c4, c5, c6, c7, c8, c9, c10⟩ := h
  clear c1 c2 c3 c5 c6 c7 c8 c10
  go_enter Tryz.func48, Tryz.ntmps48
  go_upto_region 1 with fail
  go_quiet ((go_at_call 75; exact Calls.quiet_of_same (CP.out _)))
  obtain ⟨W1, hW1⟩ : ∃ W, W = w.drewN nq := ⟨_, rfl⟩
  have HB1 : Hid (Below w.heap.size w W1) := by rw [hW1]; exact ⟨rfl, rfl, rfl, Nat.le_refl _, fun _ _ => rfl⟩
  rw [← hW1]
  have hb1 : b < W1.heap.size := Nat.lt_of_lt_of_le hb HB1.out.size
  have e0 : W1.cell? ⟨b, off, none⟩ = some (.int .i64 8) := (HB1.out.cell (p := ⟨b, off, none⟩) hb).trans c0
  have e4 : W1.cell? ⟨b, off + 4, none⟩ = some (.string nm) := (HB1.out.cell (p := ⟨b, off + 4, none⟩) hb).trans c4
  have e9 : W1.cell? ⟨b, off + 9, none⟩ = some (.slice aa am ac) := (HB1.out.cell (p := ⟨b, off + 9, none⟩) hb).trans c9
  have HSS : Hid (∀ W, Below W1.heap.size W1 W → W.cell? ⟨b, off + 4, none⟩ = some (.string nm) ∧ W.cell? ⟨b, off + 9, none⟩ = some (.slice aa am ac)) := fun W hW => ⟨(hW.cell (p := ⟨b, off + 4, none⟩) hb1).trans e4, (hW.cell (p := ⟨b, off + 9, none⟩) hb1).trans e9⟩
  have CC : Hid (∀ W, Below W1.heap.size W1 W → Calls Tryz.prog 81 #[.pointer (some ⟨lb, 0, none⟩), .string nm, .int .i64 am] W fun e w' => e = .returned (.int .i64 R) ∧ Below W1.heap.size W1 w') := fun W hW => (hC W (HB1.out.trans (hW.mono HB1.out.size))).mono fun e w' ⟨k1, k2⟩ => ⟨k1, hW.trans (k2.mono hW.size)⟩
  clear hW1 c0 c4 c9 hC
  go_upto_region 21 with fail
  go_region_held3 (fun W => W.cell? ⟨b, off + 4, none⟩ = some (.string nm) ∧ W.cell? ⟨b, off + 9, none⟩ = some (.slice aa am ac))
    ((refine HSS.out _ ?_; repeat (first | exact Hid.out (by assumption) | exact Below.refl _ _ | refine Below.drew ?_)))
    (first
      | (go_at_call 81; refine (CC.out _ ?_).mono ?_; (focus (repeat (first | exact Hid.out (by assumption) | exact Below.refl _ _ | refine Below.drew ?_))); rintro e w2 ⟨rfl, hb2⟩; have HB2 : Hid (Below W1.heap.size W1 w2) := hb2; clear hb2))
  go_wp2
  go_ret
  exact ⟨rfl, HB1.out.trans (HB2.out.mono HB1.out.size)⟩
end Go.Proofs.YtcbpjgnbdpfiiaaGreatDoor
