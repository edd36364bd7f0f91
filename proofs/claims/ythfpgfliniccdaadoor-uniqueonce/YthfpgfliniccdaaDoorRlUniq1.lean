/-
  CONTRACT of the function value within rel.Unique.
-/
import Derived.Test.YthfpgfliniccdaaDoorRlSetOp
set_option linter.unusedVariables false
namespace Go.Proofs.YthfpgfliniccdaaDoor
set_option maxRecDepth 100000
open Go.RowKit Go.WideShapes

/-- all but one block is as it was -/
def ButOne (w w' : World) (b : Nat) : Prop := w.heap.size ≤ w'.heap.size ∧ w'.os = w.os ∧ w'.tape = w.tape ∧ w'.output = w.output ∧ ∀ c, c < w.heap.size → c ≠ b → w'.heap[c]? = w.heap[c]?
set_option maxHeartbeats 3200000 in
theorem unique1_is (u pv : Value) (n np gp gm M k : Nat) (X : Nat → It) (P : Nat → Nat) (T : Value → Prop) (w : World) (hu : ItsIs w u n X) (hp : IntsIs w pv np P) (hP : ∀ i, i < np → P i < n) (h8 : np ≤ 8)
    (hgp : gp < w.heap.size) (hgm : gm < w.heap.size) (hcp : w.cell? ⟨gp, 0, none⟩ = some pv) (hcm : w.cell? ⟨gm, 0, none⟩ = some (.map (some M))) (hs : SetIs w M k T) (hgM : gm ≠ M) (hk : k < maxLen) (l : Lit) (hkey : keyOf Tryd.prog 50 (keyV (keyX X P np)) = some l) :
    Calls Tryd.prog 15 #[u, .pointer (some ⟨gp, 0, none⟩), .pointer (some ⟨gm, 0, none⟩)] w fun e w' => ∃ r : Bool, e = .returned (.bool r) ∧ (r = true ↔ ¬ T (keyV (keyX X P np))) ∧ SetIs w' M (k + 1) (fun v => T v ∨ v = keyV (keyX X P np)) ∧ ButOne w w' M := by
  have CK : Hid (Calls Tryd.prog 16 #[u, pv] w fun e w' => e = .returned (keyV (keyX X P np)) ∧ Below w.heap.size w w') := keyOf_is u pv n np X P w hu hp hP h8
  have HS : Hid (SetIs w M k T) := hs
  have HM : Hid (M < w.heap.size) := hs.lt
  obtain ⟨ua, ucap, rfl, _⟩ := hu
  obtain ⟨pa, pcap, rfl, _⟩ := hp
  clear hs hP
  generalize keyX X P np = Y at *
  go_enter Tryd.func15, Tryd.ntmps15
  go_wp2_with (first
    | (go_at_call 16; refine CK.out.mono ?_; rintro e w1 ⟨rfl, hb1⟩; have HB1 : Hid (Below w.heap.size w w1) := hb1; have y0 := (hb1.cell (p := ⟨gm, 0, none⟩) hgm).trans hcm; have y1 : gm < w1.heap.size := Nat.lt_of_lt_of_le hgm hb1.size; clear hb1)
    | (refine wpList_store_key rfl (.tmp 5) (.tmp 10) rfl w1.heap.size rfl Y rfl (zero_room w1 rfl) ?_; intro w2 hi2 hz2 hb2 ho2 ht2 hu2; have HI2 : Hid (ItsAt w2 w1.heap.size 0 8 Y) := hi2; have hz2' : w2.heap.size = w1.heap.size + 1 := hz2.trans (by simp); have HBE : Hid (∀ c, c ≠ w1.heap.size → c < w1.heap.size → w2.heap[c]? = w1.heap[c]?) := (fun c hc h => (hb2 c hc).trans (((Below.refl _ _).alloc (Nat.le_refl _) _).block c h)); have HOS : Hid (w2.os = w1.os ∧ w2.tape = w1.tape ∧ w2.output = w1.output) := ⟨ho2, ht2, hu2⟩; have HS2 : Hid (SetIs w2 M k T) := HS.out.keep ((HBE.out M (by have := HM.out; have := HB1.out.size; omega) (Nat.lt_of_lt_of_le HM.out HB1.out.size)).trans (HB1.out.block M HM.out)); have z0 : w2.cell? ⟨gm, 0, none⟩ = some (.map (some M)) := (World.cell?_of_block (a := ⟨gm, 0, none⟩) (HBE.out gm (by omega) y1)).trans y0; have z1 : gm < w2.heap.size := (by omega); clear hi2 hz2 hb2 ho2 ht2 hu2)
    | (refine wpList_load_key rfl (.tmp 5) rfl w1.heap.size rfl Y (by first | exact HI2.out | exact HI2.out.below ((Below.refl w2.heap.size w2).alloc (Nat.le_refl _) _) (by omega)) ?_)
    | (refine wpList_look_set rfl (.tmp 12) (.tmp 13) rfl M k T rfl HS2.out (keyV Y) l rfl hkey ?_; intro r hr; have HRR : Hid (r = true ↔ T (keyV Y)) := hr; clear hr)
    | (refine wpList_put_set rfl (.tmp 17) (.tmp 18) (.tmp 19) rfl M k T rfl (HS2.out.keep (((Below.refl w2.heap.size w2).alloc (Nat.le_refl _) _).block M HS2.out.lt)) hk (keyV Y) l rfl rfl hkey ?_; intro w4 hs4 ht4; have HS4 : Hid (SetIs w4 M (k + 1) (fun v => T v ∨ v = keyV Y)) := hs4; have HT4 := Hid.out (p := Hid (World.mapTurned _ w4 M)) ht4; clear hs4 ht4))
  obtain ⟨k1, k2, k3, k4, k5⟩ := turned_block HT4.out
  have hzz := HB1.out.size
  go_ret
  refine ⟨!r, rfl, ?_, HS4.out, ?_, ?_, ?_, ?_, ?_⟩
  · rw [← HRR.out]
    cases r <;> simp
  · rw [k1]
    simp
    omega
  · exact k3.trans (HOS.out.1.trans HB1.out.os)
  · exact k4.trans (HOS.out.2.1.trans HB1.out.tape)
  · exact k5.trans (HOS.out.2.2.trans HB1.out.output)
  · intro c hc hne
    rw [k2 c hne, ((Below.refl w2.heap.size w2).alloc (Nat.le_refl _) _).block c (by omega), HBE.out c (by omega) (by omega)]
    exact HB1.out.block c hc
end Go.Proofs.YthfpgfliniccdaaDoor
