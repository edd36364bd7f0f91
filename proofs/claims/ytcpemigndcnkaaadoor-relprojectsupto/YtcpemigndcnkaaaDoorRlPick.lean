/-
  CONTRACT: a row's items at some places (rel.itemsAt).
-/
import Derived.Test.YtcpemigndcnkaaaDoorRlCol
import Derived.Test.YtcpemigndcnkaaaDoorRlRoom
set_option linter.unusedVariables false
namespace Go.Proofs.YtcpemigndcnkaaaDoor
set_option maxRecDepth 100000
open Go.RowKit Go.WideShapes

/-- the value is a list of n numbers -/
def IntsIs (w : World) (v : Value) (n : Nat) (P : Nat → Nat) : Prop :=
  ∃ a cap, v = .slice a n cap ∧ n ≤ cap ∧ cap ≤ maxLen ∧ (0 < n → ∃ b off, a = some ⟨b, off, none⟩ ∧ b < w.heap.size ∧ ∀ i, i < n → w.cell? ⟨b, off + i, none⟩ = some (.int .i64 (P i : Int)))
theorem IntsIs.below {w w' : World} {v : Value} {n : Nat} {P : Nat → Nat} (h : IntsIs w v n P) (hb : Below w.heap.size w w') : IntsIs w' v n P := by
  obtain ⟨a, cap, h1, h2, h3, h4⟩ := h
  refine ⟨a, cap, h1, h2, h3, fun h0 => ?_⟩
  obtain ⟨b, off, h5, h6, h7⟩ := h4 h0
  exact ⟨b, off, h5, Nat.lt_of_lt_of_le h6 hb.size, fun i hi => (hb.cell (p := ⟨b, off + i, none⟩) h6).trans (h7 i hi)⟩
theorem set_same {w : World} {a : Addr} {u v : Value} (h : w.cell? a = some u) : (w.setCell a v).cell? a = some v := by apply World.cell?_setCell_same; exact h
theorem set_other {w : World} {a b : Addr} {v : Value} (h : a ≠ b) : (w.setCell a v).cell? b = w.cell? b := by apply World.cell?_setCell_other; exact h
/-- room for k items -/
def Room (W : World) (g k : Nat) : Prop := ∀ o, o < k * 3 → (∃ v, W.cell? ⟨g, o, none⟩ = some v) ∧ W.frozen? ⟨g, o, none⟩ = false
theorem Room.setCell {W : World} {g k : Nat} (h : Room W g k) (a : Addr) (u : Value) : Room (W.setCell a u) g k := fun o ho => by
  obtain ⟨⟨v, hv⟩, hf⟩ := h o ho
  refine ⟨?_, by rw [World.frozen?_setCell]; exact hf⟩
  by_cases e : a = ⟨g, o, none⟩
  · subst e; exact ⟨u, set_same hv⟩
  · exact ⟨v, (set_other e).trans hv⟩
theorem Room.made (w : World) (Z : Array Value) (T : TypeId) (k : Nat) (hz : Z.size = k * 3) : Room (w.alloc (.cells Z T)) w.heap.size k := fun o ho => by
  have ho' : o < Z.size := by omega
  refine ⟨⟨Z[o], ?_⟩, ?_⟩
  · simp [ho']
  · simp
theorem its_set {W : World} {g j k : Nat} {X : Nat → It} (h : ItsAt W g 0 j X) (hr : Room W g k) (hj : j < k) :
    ItsAt (((W.setCell ⟨g, j * 3, none⟩ (.int .i64 (X j).kind)).setCell ⟨g, j * 3 + 1, none⟩ (.int .i64 (X j).n)).setCell ⟨g, j * 3 + 2, none⟩ (.string (X j).s)) g 0 (j + 1) X := by
  intro i hi
  by_cases e : i = j
  · subst e
    obtain ⟨⟨v0, h0⟩, _⟩ := hr (i * 3) (by omega)
    obtain ⟨⟨v1, h1⟩, _⟩ := (hr.setCell ⟨g, i * 3, none⟩ (.int .i64 (X i).kind)) (i * 3 + 1) (by omega)
    obtain ⟨⟨v2, h2⟩, _⟩ := ((hr.setCell ⟨g, i * 3, none⟩ (.int .i64 (X i).kind)).setCell ⟨g, i * 3 + 1, none⟩ (.int .i64 (X i).n)) (i * 3 + 2) (by omega)
    rw [Nat.zero_add]
    refine ⟨?_, ?_, set_same h2⟩
    · rw [set_other (by simp), set_other (by simp)]; exact set_same h0
    · rw [set_other (by simp)]; exact set_same h1
  · obtain ⟨h0, h1, h2⟩ := h i (by omega)
    refine ⟨?_, ?_, ?_⟩
    · rw [set_other (by simp <;> omega), set_other (by simp <;> omega), set_other (by simp <;> omega)]; exact h0
    · rw [set_other (by simp <;> omega), set_other (by simp <;> omega), set_other (by simp <;> omega)]; exact h1
    · rw [set_other (by simp <;> omega), set_other (by simp <;> omega), set_other (by simp <;> omega)]; exact h2
theorem make_items (k : Nat) (hk : k ≤ 4000000) : ∃ Z : Array Value, Z.size = k * 3 ∧ ∀ W : World, (Instr.makeSlice 37 (.int .i64 (k : Int)) (.int .i64 (k : Int))).run Tryd.prog W = .ok (.slice (some ⟨W.heap.size, 0, none⟩) k k) (W.alloc (.cells Z 51)) := by
  obtain ⟨i0, hi0, hz0, hz1, hz2⟩ := info_parts infoItem
  refine ⟨madeCells (Value.cells (.agg #[.int .i64 0, .int .i64 0, .string ⟨#[]⟩])) (k * i0.size), ?_, fun W => ?_⟩
  · rw [size_madeCells, hz1]
  · have h := run_make (P := Tryd.prog) W 37 51 i0 _ Tryd.underlying37 hi0 hz0 .i64 .i64 k k (by omega) (Int.le_refl _) (by rw [hz2]; omega) (by omega)
    simp only [Int.toNat_natCast] at h
    exact h
set_option maxHeartbeats 1600000 in
theorem itemsAt_is (u p : Value) (n k : Nat) (X : Nat → It) (P : Nat → Nat) (w : World) (hu : ItsIs w u n X) (hp : IntsIs w p k P) (hP : ∀ i, i < k → P i < n) (hk : k ≤ 4000000) :
    Calls Tryd.prog 24 #[u, p] w fun e w' => ∃ v, e = .returned v ∧ ItsApart w' w.heap.size none v k (fun i => X (P i)) ∧ (∃ a' c', v = .slice a' k c') ∧ Below w.heap.size w w' := by
  obtain ⟨ua, ucap, rfl, u1, u2, _, u3⟩ := hu
  obtain ⟨pa, pcap, rfl, p1, p2, p3⟩ := hp
  obtain ⟨Z, hZ, hmk⟩ := make_items k hk
  have HU : Hid (∀ W i, Below w.heap.size w W → i < k → ∃ b off pb po, ua = some ⟨b, off, none⟩ ∧ pa = some ⟨pb, po, none⟩ ∧ b < w.heap.size ∧ pb < w.heap.size ∧ W.cell? ⟨pb, po + i, none⟩ = some (.int .i64 (P i : Int)) ∧ W.cell? ⟨b, off + P i * 3, none⟩ = some (.int .i64 (X (P i)).kind) ∧ W.cell? ⟨b, off + P i * 3 + 1, none⟩ = some (.int .i64 (X (P i)).n) ∧ W.cell? ⟨b, off + P i * 3 + 2, none⟩ = some (.string (X (P i)).s) ∧ P i < n) := fun W i hW hi => by
    have hPi := hP i hi
    obtain ⟨b, off, e1, e2, e3⟩ := u3 (by omega)
    obtain ⟨pb, po, d1, d2, d3⟩ := p3 (by omega)
    obtain ⟨x0, x1, x2⟩ := e3 (P i) hPi
    exact ⟨b, off, pb, po, e1, d1, e2, d2, (hW.cell (p := ⟨pb, po + i, none⟩) d2).trans (d3 i hi), (hW.cell (p := ⟨b, off + P i * 3, none⟩) e2).trans x0, (hW.cell (p := ⟨b, off + P i * 3 + 1, none⟩) e2).trans x1, (hW.cell (p := ⟨b, off + P i * 3 + 2, none⟩) e2).trans x2, hPi⟩
  have hnn : n ≤ 9223372036854775807 := by unfold maxLen at u2; omega
  have HZ : Hid (Room (w.alloc (.cells Z 51)) w.heap.size k) := Room.made w Z _ k hZ
  clear u2 u3 p2 p3 hP
  go_enter Tryd.func24, Tryd.ntmps24
  go_wp2
  clear hmk
  go_loopw [13] (fun i wr => ∃ j : Nat, j ≤ k ∧ i = .int .i64 j ∧ Room wr w.heap.size k ∧ ItsAt wr w.heap.size 0 j (fun i => X (P i)) ∧ Below w.heap.size w wr ∧ w.heap.size < wr.heap.size) (fun i _ => k - (intOf i).toNat)
  case atStart => exact ⟨0, Nat.zero_le _, rfl, HZ.out, fun i hi => by omega, (Below.refl _ _).alloc (Nat.le_refl _) _, by simp⟩
  case round =>
    obtain ⟨j, hj, rfl, hroom, hits, hbr, hsz⟩ := hrel
    have HR : Hid (Room wr w.heap.size k) := hroom
    have HI : Hid (ItsAt wr w.heap.size 0 j (fun i => X (P i))) := hits
    have HB : Hid (Below w.heap.size w wr) := hbr
    clear hroom hits hbr
    by_cases hlt : j < k
    · obtain ⟨b, off, pb, po, rfl, rfl, hb0, hpb0, e0, e1, e2, e3, hPn⟩ := HU.out wr j HB.out hlt
      obtain ⟨⟨v0, r0⟩, f0⟩ := HR.out (j * 3) (by omega)
      obtain ⟨⟨v1, r1⟩, f1⟩ := HR.out (j * 3 + 1) (by omega)
      obtain ⟨⟨v2, r2⟩, f2⟩ := HR.out (j * 3 + 2) (by omega)
      have hji : (j : Int) < (k : Int) := by omega
      have hpi : (P j : Int) < (n : Int) := by omega
      have HS : Hid (ItsAt (((wr.setCell ⟨w.heap.size, j * 3, none⟩ (.int .i64 (X (P j)).kind)).setCell ⟨w.heap.size, j * 3 + 1, none⟩ (.int .i64 (X (P j)).n)).setCell ⟨w.heap.size, j * 3 + 2, none⟩ (.string (X (P j)).s)) w.heap.size 0 (j + 1) (fun i => X (P i))) := its_set (X := fun i => X (P i)) HI.out HR.out hlt
      generalize (X (P j)).kind = xk at *
      generalize (X (P j)).n = xn at *
      generalize (X (P j)).s = xs at *
      generalize P j = q at *
      go_wp2
      go_roundw
      case rel => exact ⟨j + 1, by omega, by go_num, ((HR.out.setCell _ _).setCell _ _).setCell _ _, HS.out, ((HB.out.setCell (Nat.le_refl _) _).setCell (Nat.le_refl _) _).setCell (Nat.le_refl _) _, by simpa using hsz⟩
      case measure => simp [intOf]; omega
    · have e : j = k := by omega
      subst e
      go_wp2
      go_ret
      exact ⟨_, rfl, ⟨_, _, rfl, Nat.le_refl _, by unfold maxLen; omega, fun h => by simp at h, fun _ => ⟨_, _, rfl, hsz, Nat.le_refl _, by simp, HI.out⟩⟩, ⟨_, _, rfl⟩, HB.out⟩
end Go.Proofs.YtcpemigndcnkaaaDoor
