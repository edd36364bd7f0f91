/-
  CONTRACTS: the tables of functions (core.calls, core.operators, core.functions).
-/
import Derived.Test.YtkhlfdnlpimojaaDoorCkOps
set_option linter.unusedVariables false
namespace Go.Proofs.YtkhlfdnlpimojaaDoor
set_option maxRecDepth 100000
open Go.RowKit Go.WideShapes

def cL1 : List ByteArray := [⟨#[99, 111, 117, 110, 116]⟩, ⟨#[101, 109, 112, 116, 121]⟩, ⟨#[101, 120, 105, 115, 116, 115]⟩, ⟨#[110, 111, 116]⟩, ⟨#[98, 111, 111, 108, 101, 97, 110]⟩, ⟨#[115, 117, 109]⟩, ⟨#[109, 105, 110]⟩, ⟨#[109, 97, 120]⟩, ⟨#[114, 101, 118, 101, 114, 115, 101]⟩, ⟨#[115, 116, 114, 105, 110, 103]⟩, ⟨#[100, 97, 116, 97]⟩, ⟨#[105, 110, 116, 101, 103, 101, 114]⟩, ⟨#[110, 97, 109, 101]⟩]
def cL2 : List ByteArray := [⟨#[99, 111, 110, 99, 97, 116]⟩, ⟨#[99, 111, 110, 116, 97, 105, 110, 115]⟩]
def cL3 : List ByteArray := [⟨#[115, 117, 98, 115, 116, 114, 105, 110, 103]⟩]
def callsV0 : ByteArray → Option Value := putV (putV (putV (fun _ => none) ⟨#[100, 105, 115, 116, 105, 110, 99, 116, 45, 118, 97, 108, 117, 101, 115]⟩ (fV ⟨#[100, 105, 115, 116, 105, 110, 99, 116]⟩ 1)) ⟨#[115, 116, 114, 105, 110, 103, 45, 108, 101, 110, 103, 116, 104]⟩ (fV ⟨#[108, 101, 110, 103, 116, 104]⟩ 1)) ⟨#[115, 116, 97, 114, 116, 115, 45, 119, 105, 116, 104]⟩ (fV ⟨#[115, 116, 97, 114, 116, 115]⟩ 2)
def callsV : ByteArray → Option Value := putLL (putLL (putLL callsV0 1 cL1) 2 cL2) 3 cL3
def oL1 : List ByteArray := [⟨#[43]⟩, ⟨#[45]⟩, ⟨#[42]⟩, ⟨#[100, 105, 118]⟩, ⟨#[109, 111, 100]⟩, ⟨#[61]⟩, ⟨#[33, 61]⟩, ⟨#[60]⟩, ⟨#[60, 61]⟩, ⟨#[62]⟩, ⟨#[62, 61]⟩, ⟨#[105, 115]⟩, ⟨#[60, 60]⟩, ⟨#[62, 62]⟩]
def oL2 : List ByteArray := [⟨#[97, 110, 100]⟩, ⟨#[111, 114]⟩, ⟨#[116, 111]⟩, ⟨#[117, 110, 105, 111, 110]⟩, ⟨#[105, 110, 116, 101, 114, 115, 101, 99, 116]⟩, ⟨#[101, 120, 99, 101, 112, 116]⟩]
def opersV0 : ByteArray → Option Value := putV (fun _ => none) ⟨#[124]⟩ (fV ⟨#[117, 110, 105, 111, 110]⟩ 2)
def opersV : ByteArray → Option Value := putLL (putLL opersV0 2 oL1) 2 oL2
def fL1 : List ByteArray := [⟨#[100, 100, 111]⟩, ⟨#[110, 101, 103]⟩]
def fL2 : List ByteArray := [⟨#[104, 111, 108, 100, 115]⟩]
theorem lits_small {L : List ByteArray} (h : L.all (fun x => decide (x.size ≤ 20)) = true) : ∀ x ∈ L, x.size ≤ maxLen := fun x hx => by
  have := of_decide_eq_true (List.all_eq_true.1 h x hx)
  unfold maxLen
  omega
theorem TurnedM.refl (w : World) (M : Nat) : TurnedM w w M := ⟨rfl, fun _ _ => rfl, rfl, rfl, rfl⟩
theorem below_new {B : Nat} {w w' : World} (h : Below B w w') (hB : B ≤ w.heap.size) (o : Obj) : Below B w (w'.alloc o) := h.alloc (Nat.le_trans hB h.size) o
set_option maxHeartbeats 1600000 in
theorem calls_is (w : World) : Calls Tryd.prog 7 #[] w fun e w' => e = .returned (.map (some w.heap.size)) ∧ VMap w' w.heap.size callsV ∧ Below w.heap.size w w' := by
  have HV0 : Hid (VMap (w.alloc (.map #[] 0)) w.heap.size (fun _ => none)) := VMap.made w
  have HB0 : Hid (Below w.heap.size w (w.alloc (.map #[] 0))) := (Below.refl _ _).alloc (Nat.le_refl _) _
  have HA : Hid (∀ (W : World) V L v a, VMap W w.heap.size V → TxtsL W v L → (∀ x ∈ L, x.size ≤ maxLen) → Calls Tryd.prog 12 #[.map (some w.heap.size), .int .i64 a, v] W fun e w' => e = .returned (.tuple #[]) ∧ VMap w' w.heap.size (putLL V a L) ∧ TurnedM W w' w.heap.size) := fun W V L v a h1 h2 h3 => add_is _ V L v a W h1 h2 h3
  have hmm := @run_makeMap Tryd.prog
  go_enter Tryd.func7, Tryd.ntmps7
  go_wp2_with (first
    | (refine wpList_vins rfl _ _ (.tmp 3) 44 55 rfl Tryd.underlying44 w.heap.size _ _ _ rfl rfl rfl (by decide) HV0.out ?_; intro w1 hv1 ht1; have HV1 : Hid (VMap w1 w.heap.size _) := hv1; have HB1 : Hid (Below w.heap.size w w1) := HB0.out.trans (ht1.below (Nat.le_refl _)); clear hv1 ht1 HV0 HB0)
    | (refine wpList_vins rfl _ _ (.tmp 4) 44 55 rfl Tryd.underlying44 w.heap.size _ _ _ rfl rfl rfl (by decide) HV1.out ?_; intro w2 hv2 ht2; have HV2 : Hid (VMap w2 w.heap.size _) := hv2; have HB2 : Hid (Below w.heap.size w w2) := HB1.out.trans (ht2.below (Nat.le_refl _)); clear hv2 ht2 HV1 HB1)
    | (refine wpList_vins rfl _ _ (.tmp 5) 44 55 rfl Tryd.underlying44 w.heap.size _ _ _ rfl rfl rfl (by decide) HV2.out ?_; intro w3 hv3 ht3; have HV3 : Hid (VMap w3 w.heap.size callsV0) := hv3; have HB3 : Hid (Below w.heap.size w w3) := HB2.out.trans (ht3.below (Nat.le_refl _)); have hz3 := HB3.out.size; clear hv3 ht3 HV2 HB2)
    | (go_at_call 12; refine (HA.out _ _ cL1 _ _ (HV3.out.alloc _) (txts_lit w3 cL1 (by decide)) (lits_small (by decide))).mono ?_; rintro e w4 ⟨rfl, hv4, ht4⟩; have HV4 : Hid (VMap w4 w.heap.size (putLL callsV0 1 cL1)) := hv4; have HB4 : Hid (Below w.heap.size w w4) := (below_new HB3.out (Nat.le_refl _) _).trans (ht4.below (Nat.le_refl _)); clear hv4 ht4 HV3 HB3 hz3)
    | (go_at_call 12; refine (HA.out _ _ cL2 _ _ (HV4.out.alloc _) (txts_lit w4 cL2 (by decide)) (lits_small (by decide))).mono ?_; rintro e w5 ⟨rfl, hv5, ht5⟩; have HV5 : Hid (VMap w5 w.heap.size (putLL (putLL callsV0 1 cL1) 2 cL2)) := hv5; have HB5 : Hid (Below w.heap.size w w5) := (below_new HB4.out (Nat.le_refl _) _).trans (ht5.below (Nat.le_refl _)); clear hv5 ht5 HV4 HB4)
    | (go_at_call 12; refine (HA.out _ _ cL3 _ _ (HV5.out.alloc _) (txts_lit w5 cL3 (by decide)) (lits_small (by decide))).mono ?_; rintro e w6 ⟨rfl, hv6, ht6⟩; have HV6 : Hid (VMap w6 w.heap.size callsV) := hv6; have HB6 : Hid (Below w.heap.size w w6) := (below_new HB5.out (Nat.le_refl _) _).trans (ht6.below (Nat.le_refl _)); clear hv6 ht6 HV5 HB5))
  go_ret
  exact ⟨rfl, HV6.out, HB6.out⟩
set_option maxHeartbeats 1600000 in
theorem operators_is (w : World) : Calls Tryd.prog 8 #[] w fun e w' => e = .returned (.map (some w.heap.size)) ∧ VMap w' w.heap.size opersV ∧ Below w.heap.size w w' := by
  have HV0 : Hid (VMap (w.alloc (.map #[] 0)) w.heap.size (fun _ => none)) := VMap.made w
  have HB0 : Hid (Below w.heap.size w (w.alloc (.map #[] 0))) := (Below.refl _ _).alloc (Nat.le_refl _) _
  have HA : Hid (∀ (W : World) V L v a, VMap W w.heap.size V → TxtsL W v L → (∀ x ∈ L, x.size ≤ maxLen) → Calls Tryd.prog 12 #[.map (some w.heap.size), .int .i64 a, v] W fun e w' => e = .returned (.tuple #[]) ∧ VMap w' w.heap.size (putLL V a L) ∧ TurnedM W w' w.heap.size) := fun W V L v a h1 h2 h3 => add_is _ V L v a W h1 h2 h3
  have hmm := @run_makeMap Tryd.prog
  go_enter Tryd.func8, Tryd.ntmps8
  go_wp2_with (first
    | (refine wpList_vins rfl _ _ (.tmp 3) 44 55 rfl Tryd.underlying44 w.heap.size _ _ _ rfl rfl rfl (by decide) HV0.out ?_; intro w3 hv3 ht3; have HV3 : Hid (VMap w3 w.heap.size opersV0) := hv3; have HB3 : Hid (Below w.heap.size w w3) := HB0.out.trans (ht3.below (Nat.le_refl _)); clear hv3 ht3 HV0 HB0)
    | (go_at_call 12; refine (HA.out _ _ oL1 _ _ (HV3.out.alloc _) (txts_lit w3 oL1 (by decide)) (lits_small (by decide))).mono ?_; rintro e w4 ⟨rfl, hv4, ht4⟩; have HV4 : Hid (VMap w4 w.heap.size (putLL opersV0 2 oL1)) := hv4; have HB4 : Hid (Below w.heap.size w w4) := (below_new HB3.out (Nat.le_refl _) _).trans (ht4.below (Nat.le_refl _)); clear hv4 ht4 HV3 HB3)
    | (go_at_call 12; refine (HA.out _ _ oL2 _ _ (HV4.out.alloc _) (txts_lit w4 oL2 (by decide)) (lits_small (by decide))).mono ?_; rintro e w6 ⟨rfl, hv6, ht6⟩; have HV6 : Hid (VMap w6 w.heap.size opersV) := hv6; have HB6 : Hid (Below w.heap.size w w6) := (below_new HB4.out (Nat.le_refl _) _).trans (ht6.below (Nat.le_refl _)); clear hv6 ht6 HV4 HB4))
  go_ret
  exact ⟨rfl, HV6.out, HB6.out⟩
end Go.Proofs.YtkhlfdnlpimojaaDoor
