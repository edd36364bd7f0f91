/-
  CONTRACT: a relation without rows, with room for some (rel.withRoom).
-/
import Derived.Test.YtmoeipdchapodaaGreatDoorRlBase
import Derived.Deep.RegionWith
import Derived.Laws.MakeOwn
set_option linter.unusedVariables false
namespace Go.Proofs.YtmoeipdchapodaaGreatDoor
set_option maxRecDepth 100000
open Go.RowKit Go.WideShapes

theorem below_mid {B : Nat} {a b c : World} (k : Below b.heap.size b c) (h : Below B a b) (hB : B ≤ b.heap.size) : Below B a c := h.trans (k.mono hB)
theorem rows_less {w : World} {base base' : Nat} {v : Value} {R : Nat → Row} (h : RowsOwn w base v 0 R) (hb : base' ≤ base) : RowsOwn w base' v 0 R := by
  obtain ⟨us, h1, _⟩ := h
  refine ⟨us, ⟨h1.1, ?_⟩, fun i hi => by omega⟩
  rcases h1.2 with h2 | ⟨g, cap, cur, q0, q1, q2⟩
  · exact .inl h2
  · exact .inr ⟨g, cap, cur, q0, by omega, q2⟩
theorem make_rows (r : Nat) (hr : r ≤ 4000000) : ∃ Z : Array Value, Z.size = r * 1 ∧ ∀ W : World, (Instr.makeSlice 34 (.int .i64 0) (.int .i64 (r : Int))).run Tryz.prog W = .ok (.slice (some ⟨W.heap.size, 0, none⟩) 0 r) (W.alloc (.cells Z 33)) := by
  obtain ⟨i0, hi0, hz0, hz1, hz2⟩ := info_parts infoItems
  refine ⟨madeCells (Value.cells (.slice none 0 0)) (r * i0.size), ?_, fun W => ?_⟩
  · rw [size_madeCells, hz1]
  · have h := run_make (P := Tryz.prog) W 34 33 i0 _ Tryz.underlying34 hi0 hz0 .i64 .i64 0 r (Int.le_refl _) (by omega) (by rw [hz2]; omega) (by omega)
    simp only [Int.toNat_zero, Int.toNat_natCast] at h
    exact h
theorem made_own {W : World} {r : Nat} {Z : Array Value} {base : Nat} (R : Nat → Row) (hz : Z.size = r * 1) (hr : r ≤ 4000000) (hb : base ≤ W.heap.size) : RowsOwn (W.alloc (.cells Z 33)) base (.slice (some ⟨W.heap.size, 0, none⟩) 0 r) 0 R :=
  ⟨[], World.ownsRow_made W Z r hb (by unfold maxLen; omega) hz, fun i hi => by omega⟩

set_option maxHeartbeats 1600000 in
theorem withRoom_one (r b off cap : Nat) (u : Value) (n : Nat) (C : Nat → ByteArray) (w : World) (hr : r ≤ 4000000) (h1 : 1 ≤ cap) (hc : cap ≤ maxLen) (hb : b < w.heap.size) (hcell : w.cell? ⟨b, off, none⟩ = some u) (hu : StrsIs w u n C) (hn : n * 16 ≤ 140737488351232) (R : Nat → Row) :
    Calls Tryz.prog 156 #[.int .i64 r, .slice (some ⟨b, off, none⟩) 1 cap] w fun e w' => ∃ c' q', e = .returned (.agg #[c', q']) ∧ StrsKept w' w.heap.size w'.heap.size q'.ownBlock c' n C ∧ RowsOwn w' w.heap.size q' 0 R ∧ (∃ a1 k1, c' = .slice a1 n k1) ∧ (∃ a2 k2, q' = .slice a2 0 k2) ∧ Below w.heap.size w w' := by
  have CC : Hid (∀ W, Below w.heap.size w W → Calls Tryz.prog 111 #[.slice (some ⟨b, off, none⟩) 1 cap] W fun e w' => ∃ v, e = .returned v ∧ StrsFrom w' W.heap.size v n C ∧ (∃ a' c', v = .slice a' n c') ∧ Below W.heap.size W w') := fun W hW => concatS_one b off cap u n C W h1 hc (Nat.lt_of_lt_of_le hb hW.size) ((hW.cell (p := ⟨b, off, none⟩) hb).trans hcell) (hu.below hW) hn
  obtain ⟨Z, hZ, hmk⟩ := make_rows r hr
  clear hu hcell hc
  go_enter Tryz.func156, Tryz.ntmps156
  go_upto_region 1 with fail
  go_region_with (go_at_call 111; refine (CC.out _ ?_).mono ?_; (first | exact (((Below.refl _ _).alloc (Nat.le_refl _) _).drew) | exact ((((Below.refl _ _).alloc (Nat.le_refl _) _).drew).alloc (by simp) _)); rintro e w5 ⟨v5, rfl, hv5, hsh5, hb5⟩; obtain ⟨va5, vc5, rfl⟩ := hsh5; have HV5 : Hid (StrsFrom w5 _ (.slice va5 n vc5) n C) := hv5; have HB5 : Hid (Below _ _ w5) := hb5; have hbx : Below (w.heap.size + 1) (w.alloc (.cells #[.slice none 0 0, .slice none 0 0] 36)) w5 := (below_mid hb5 (by first | exact (Below.refl _ _).drew | exact ((Below.refl _ _).drew).alloc (by simp) _) (by simp)); have HBX : Hid (Below (w.heap.size + 1) (w.alloc (.cells #[.slice none 0 0, .slice none 0 0] 36)) w5) := hbx; obtain ⟨x0, x1, x2, x3, x4⟩ := resbox (by omega) hbx; clear hv5 hb5 hbx)
  · go_wp2
    have HBW : Hid (Below w.heap.size w w5) := ((Below.refl _ _).alloc (Nat.le_refl _) _).trans (HBX.out.mono (Nat.le_succ _))
    have hsz : ((w5.setCell ⟨w.heap.size, 0, none⟩ (.slice va5 n vc5)).setCell ⟨w.heap.size, 1, none⟩ (.slice (some ⟨w5.heap.size, 0, none⟩) 0 r)).heap.size = w5.heap.size := by simp
    have hm := made_own (W := (w5.setCell ⟨w.heap.size, 0, none⟩ (.slice va5 n vc5)).setCell ⟨w.heap.size, 1, none⟩ (.slice (some ⟨w5.heap.size, 0, none⟩) 0 r)) (base := w.heap.size) R hZ hr (by rw [hsz]; omega)
    rw [hsz] at hm
    refine bodyPost_ret (v := .agg #[.slice va5 n vc5, .slice (some ⟨w5.heap.size, 0, none⟩) 0 r]) (by simp [results, Tryz.results156, go_sem, x0, x1, x4]) rfl ⟨_, _, rfl, ?_, hm, ⟨_, _, rfl⟩, ⟨_, _, rfl⟩, ?_⟩
    · have hv : StrsFrom w5 (w.heap.size + 1) (.slice va5 n vc5) n C := HV5.out.weaken (by simp)
      refine StrsKept.mono (B := w.heap.size + 1) (T := w5.heap.size) (StrsKept.below (StrsKept.of ((hv.setCell (Nat.lt_succ_self _) _).setCell (Nat.lt_succ_self _) _) (Nat.le_refl _) (by rw [hsz]; exact Nat.le_refl _) (fun k hk => .inr (by rw [hsz]; simp [Value.ownBlock] at hk; omega))) ((Below.refl _ _).alloc (Nat.le_refl _) _)) (Nat.le_succ _) (by simp [hsz])
    · exact ((HBW.out.setCell (Nat.le_refl _) _).setCell (Nat.le_refl _) _).alloc (by rw [hsz]; omega) _
  · go_wp2
    have HBW : Hid (Below w.heap.size w w5) := ((Below.refl _ _).alloc (Nat.le_refl _) _).trans (HBX.out.mono (Nat.le_succ _))
    have hsz : (w.alloc (.cells #[.slice none 0 0, .slice none 0 0] 36)).heap.size = w.heap.size + 1 := by simp
    have hm := made_own (W := w.alloc (.cells #[.slice none 0 0, .slice none 0 0] 36)) (base := w.heap.size + 1) R hZ hr (by rw [hsz]; exact Nat.le_refl _)
    rw [hsz] at hm
    have hm5 : RowsOwn w5 (w.heap.size + 1) (.slice (some ⟨w.heap.size + 1, 0, none⟩) 0 r) 0 R := rows_behind HB5.out rfl hm
    refine bodyPost_ret (v := .agg #[.slice va5 n vc5, .slice (some ⟨w.heap.size + 1, 0, none⟩) 0 r]) (by simp [results, Tryz.results156, go_sem, x0, x1]) rfl ⟨_, _, rfl, ?_, ?_, ⟨_, _, rfl⟩, ⟨_, _, rfl⟩, ?_⟩
    · have hv : StrsFrom w5 (w.heap.size + 2) (.slice va5 n vc5) n C := HV5.out.weaken (by simp)
      exact StrsKept.of ((hv.setCell (by simp) _).setCell (by simp) _) (by omega) (Nat.le_refl _) (fun k hk => .inl (by simp [Value.ownBlock] at hk; omega))
    · exact rows_less ((hm5.setCell (Nat.lt_succ_self _) _).setCell (Nat.lt_succ_self _) _) (Nat.le_succ _)
    · exact (HBW.out.setCell (Nat.le_refl _) _).setCell (Nat.le_refl _) _
end Go.Proofs.YtmoeipdchapodaaGreatDoor
