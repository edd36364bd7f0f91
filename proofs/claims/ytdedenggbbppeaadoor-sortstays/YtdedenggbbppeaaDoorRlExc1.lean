/-
  CONTRACT of the function value within rel.Except.
-/
import Derived.Test.YtdedenggbbppeaaDoorRlUniqI
import Derived.Deep.RegionLaw
set_option linter.unusedVariables false
namespace Go.Proofs.YtdedenggbbppeaaDoor
set_option maxRecDepth 100000
open Go.RowKit Go.WideShapes

theorem IntsIs.heap {w w' : World} {v : Value} {n : Nat} {P : Nat → Nat} (h : IntsIs w v n P) (e : w'.heap = w.heap) : IntsIs w' v n P := by
  obtain ⟨a, cap, h1, h2, h3, h4⟩ := h
  refine ⟨a, cap, h1, h2, h3, fun h0 => ?_⟩
  obtain ⟨b, off, k1, k2, k3⟩ := h4 h0
  exact ⟨b, off, k1, by rw [e]; exact k2, fun i hi => (World.cell?_of_block (a := ⟨b, off + i, none⟩) (by rw [e])).trans (k3 i hi)⟩
theorem SetIs.look_all {w : World} {b n : Nat} {T : Value → Prop} (h : SetIs w b n T) {v : Value} {l : Lit} (hk : keyOf Tryd.prog 53 v = some l) :
    ∃ r : Bool, (r = true ↔ T v) ∧ ∀ W : World, W.heap[b]? = w.heap[b]? → (Instr.lookup 50 (.map (some b)) v true).run Tryd.prog W = .ok (.tuple #[.agg #[], .bool r]) W := by
  obtain ⟨r, _, h2⟩ := h.look hk
  refine ⟨r, h2, fun W hW => ?_⟩
  obtain ⟨r', h3, h4⟩ := (h.keep hW).look hk
  rw [h3, show r' = r by rw [Bool.eq_iff_iff, h4, h2]]
theorem key_call (u pv : Value) (n np : Nat) (X : Nat → It) (P : Nat → Nat) (w : World) (hu : ItsIs w u n X) (hp : IntsIs w pv np P) (hP : ∀ i, i < np → P i < n) (h8 : np ≤ 8) :
    ∀ W, Below w.heap.size w W → Calls Tryd.prog 17 #[u, pv] W fun e w' => ∃ v, e = .returned v ∧ v = keyV (keyX X P np) ∧ Below W.heap.size W w' := fun W hW =>
  (keyOf_is u pv n np X P W (hu.below hW) (hp.below hW) hP h8).mono (fun e w' ⟨h1, h2⟩ => ⟨_, h1, rfl, h2⟩)
set_option maxHeartbeats 3200000 in
theorem except1_is (u pv : Value) (n np gp gm M k : Nat) (X : Nat → It) (P : Nat → Nat) (T : Value → Prop) (w : World) (hu : ItsIs w u n X) (hp : IntsIs w pv np P) (hP : ∀ i, i < np → P i < n) (h8 : np ≤ 8)
    (hgp : gp < w.heap.size) (hgm : gm < w.heap.size) (hcp : w.cell? ⟨gp, 0, none⟩ = some pv) (hcm : w.cell? ⟨gm, 0, none⟩ = some (.map (some M))) (hs : SetIs w M k T) (l : Lit) (hkey : keyOf Tryd.prog 53 (keyV (keyX X P np)) = some l) :
    Calls Tryd.prog 19 #[u, .pointer (some ⟨gm, 0, none⟩), .pointer (some ⟨gp, 0, none⟩)] w fun e w' => ∃ r : Bool, e = .returned (.bool r) ∧ (r = true ↔ ¬ T (keyV (keyX X P np))) ∧ Below w.heap.size w w' := by
  have CK : Hid (∀ W, Below w.heap.size w W → Calls Tryd.prog 17 #[u, pv] W fun e w' => ∃ v, e = .returned v ∧ v = keyV (keyX X P np) ∧ Below W.heap.size W w') := key_call u pv n np X P w hu hp hP h8
  have HS : Hid (SetIs w M k T) := hs
  have HM : Hid (M < w.heap.size) := hs.lt
  obtain ⟨ua, ucap, rfl, _⟩ := hu
  obtain ⟨pa, pcap, rfl, _⟩ := hp
  clear hs hP
  generalize keyX X P np = Y at *
  go_enter Tryd.func19, Tryd.ntmps19
  go_upto_region 1 with fail
  go_region_law (first
    | (refine step_call rfl 17 #[.slice ua n ucap, .slice pa np pcap] (by simp [go_sem]) (fun v w' => v = keyV Y ∧ Below _ _ w') (CK.out _ (by first | exact (Below.refl _ _).drew | exact (((Below.refl _ _).drew).alloc (by simp) _))) ?_; rintro v1 w1 ⟨rfl, hb1⟩; have hbw : Below w.heap.size w w1 := (by first | exact (Below.refl _ _).drew.trans hb1 | exact (((Below.refl _ _).drew).alloc (by simp) _).trans (hb1.mono (by simp))); have HB1 : Hid (Below w.heap.size w w1) := hbw; have y0 := (hbw.cell (p := ⟨gm, 0, none⟩) hgm).trans hcm; have y1 := (hbw.cell (p := ⟨gp, 0, none⟩) hgp).trans hcp; have y2 : gm < w1.heap.size := Nat.lt_of_lt_of_le hgm hbw.size; have y3 : gp < w1.heap.size := Nat.lt_of_lt_of_le hgp hbw.size; have hM1 : M < w1.heap.size := Nat.lt_of_lt_of_le HM.out hbw.size; obtain ⟨r, hr, hlk⟩ := (HS.out.keep (w' := w1) (hbw.block M HM.out)).look_all hkey; have hl1 := hlk w1 rfl; have hl2 := (fun o => hlk (w1.alloc o) (((Below.refl w1.heap.size w1).alloc (Nat.le_refl _) o).block M hM1)); have HRR : Hid (r = true ↔ T (keyV Y)) := hr; clear hb1 hbw hr hlk hM1))
  all_goals
    go_wp2_with fail
    go_ret
    refine ⟨!r, rfl, ?_, by first | exact HB1.out | exact HB1.out.alloc HB1.out.size _⟩
    rw [← HRR.out]
    cases r <;> simp
end Go.Proofs.YtdedenggbbppeaaDoor
