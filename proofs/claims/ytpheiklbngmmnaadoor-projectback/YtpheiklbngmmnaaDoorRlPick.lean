/-
  CONTRACT of rel.itemsAt.
-/
import Derived.Test.YtpheiklbngmmnaaDoorRlInts
set_option linter.unusedVariables false
namespace Go.Proofs.YtpheiklbngmmnaaDoor
set_option maxRecDepth 100000
open Go.RowKit Go.WideShapes

set_option maxHeartbeats 1600000 in
theorem itemsAt_is (u p : Value) (n k : Nat) (X : Nat → It) (P : Nat → Nat) (w : World) (hu : ItsIs w u n X) (hp : IntsIs w p k P) (hP : ∀ i, i < k → P i < n) (hk : k ≤ 4000000) :
    Calls Tryd.prog 13 #[u, p] w fun e w' => ∃ v, e = .returned v ∧ ItsApart w' w.heap.size none v k (fun i => X (P i)) ∧ (∃ a' c', v = .slice a' k c') ∧ Below w.heap.size w w' := by
  obtain ⟨ua, ucap, rfl, u1, u2, _, u3⟩ := hu
  obtain ⟨pa, pcap, rfl, p1, p2, p3⟩ := hp
  obtain ⟨Z, hZ, hmk⟩ := make_items k hk
  have HU : Hid (∀ W i, Below w.heap.size w W → i < k → ∃ b off pb po, ua = some ⟨b, off, none⟩ ∧ pa = some ⟨pb, po, none⟩ ∧ b < w.heap.size ∧ pb < w.heap.size ∧ W.cell? ⟨pb, po + i, none⟩ = some (.int .i64 (P i : Int)) ∧ W.cell? ⟨b, off + P i * 3, none⟩ = some (.int .i64 (X (P i)).kind) ∧ W.cell? ⟨b, off + P i * 3 + 1, none⟩ = some (.int .i64 (X (P i)).n) ∧ W.cell? ⟨b, off + P i * 3 + 2, none⟩ = some (.string (X (P i)).s) ∧ P i < n) := fun W i hW hi => by
    have hPi := hP i hi
    obtain ⟨b, off, e1, e2, e3⟩ := u3 (by omega)
    obtain ⟨pb, po, d1, d2, d3⟩ := p3 (by omega)
    obtain ⟨x0, x1, x2⟩ := e3 (P i) hPi
    exact ⟨b, off, pb, po, e1, d1, e2, d2, (hW.cell (p := ⟨pb, po + i, none⟩) d2).trans (d3 i hi), (hW.cell (p := ⟨b, off + P i * 3, none⟩) e2).trans x0, (hW.cell (p := ⟨b, off + P i * 3 + 1, none⟩) e2).trans x1, (hW.cell (p := ⟨b, off + P i * 3 + 2, none⟩) e2).trans x2, hPi⟩
  have hnn : n ≤ 9223372036854775807 := by unfold maxLen at u2; omega
  have HZ : Hid (Room (w.alloc (.cells Z 37)) w.heap.size k) := Room.made w Z _ k hZ
  clear u2 u3 p2 p3 hP
  go_enter Tryd.func13, Tryd.ntmps13
  go_wp2
  clear hmk
  go_loopw [13] (fun i wr => ∃ j : Nat, j ≤ k ∧ i = .int .i64 j ∧ Room wr w.heap.size k ∧ ItsAt wr w.heap.size 0 j (fun i => X (P i)) ∧ Below w.heap.size w wr ∧ w.heap.size < wr.heap.size) (fun i _ => k - (intOf i).toNat)
  case atStart => exact ⟨0, Nat.zero_le _, rfl, HZ.out, fun i hi => by omega, (Below.refl _ _).alloc (Nat.le_refl _) _, by simp⟩
  case round =>
    obtain ⟨j, hj, rfl, hroom, hits, hbr, hsz⟩ := hrel
    have HR : Hid (Room wr w.heap.size k) := hroom
    have HI : Hid (ItsAt wr w.heap.size 0 j (fun i => X (P i))) := hits
    have HB : Hid (Below w.heap.size w wr) := hbr
    clear hroom hits hbr
    by_cases hlt : j < k
    · obtain ⟨b, off, pb, po, rfl, rfl, hb0, hpb0, e0, e1, e2, e3, hPn⟩ := HU.out wr j HB.out hlt
      obtain ⟨⟨v0, r0⟩, f0⟩ := HR.out (j * 3) (by omega)
      obtain ⟨⟨v1, r1⟩, f1⟩ := HR.out (j * 3 + 1) (by omega)
      obtain ⟨⟨v2, r2⟩, f2⟩ := HR.out (j * 3 + 2) (by omega)
      have hji : (j : Int) < (k : Int) := by omega
      have hpi : (P j : Int) < (n : Int) := by omega
      have HS : Hid (ItsAt (((wr.setCell ⟨w.heap.size, j * 3, none⟩ (.int .i64 (X (P j)).kind)).setCell ⟨w.heap.size, j * 3 + 1, none⟩ (.int .i64 (X (P j)).n)).setCell ⟨w.heap.size, j * 3 + 2, none⟩ (.string (X (P j)).s)) w.heap.size 0 (j + 1) (fun i => X (P i))) := its_set (X := fun i => X (P i)) HI.out HR.out hlt
      generalize (X (P j)).kind = xk at *
      generalize (X (P j)).n = xn at *
      generalize (X (P j)).s = xs at *
      generalize P j = q at *
      go_wp2
      go_roundw
      case rel => exact ⟨j + 1, by omega, by go_num, ((HR.out.setCell _ _).setCell _ _).setCell _ _, HS.out, ((HB.out.setCell (Nat.le_refl _) _).setCell (Nat.le_refl _) _).setCell (Nat.le_refl _) _, by simpa using hsz⟩
      case measure => simp [intOf]; omega
    · have e : j = k := by omega
      subst e
      go_wp2
      go_ret
      exact ⟨_, rfl, ⟨_, _, rfl, Nat.le_refl _, by unfold maxLen; omega, fun h => by simp at h, fun _ => ⟨_, _, rfl, hsz, Nat.le_refl _, by simp, HI.out⟩⟩, ⟨_, _, rfl⟩, HB.out⟩
end Go.Proofs.YtpheiklbngmmnaaDoor
