/-
  CONTRACT: the table of the core's functions (core.functions): it is filled out of two others, in whatever order these are told.
-/
import Derived.Test.YtcbpjgnbdpfiiaaGreatDoorTkOpen
set_option linter.unusedVariables false
namespace Go.Proofs.YtcbpjgnbdpfiiaaGreatDoor
set_option maxRecDepth 100000
open Go.RowKit Go.WideShapes

def leftM (w : World) (M r : Nat) : Nat := match w.heap[M]?, w.heap[r]? with
  | some (.map es _), some (.mapIter _ _ seen _) => (leftOf es seen).size
  | _, _ => 0
theorem VRng.left {w : World} {r M : Nat} {V : ByteArray → Option Value} {D : Value → Prop} {left : Nat} (h : VRng w r M V D left) : leftM w M r = left := by
  obtain ⟨es, clock, since, seen, c0, h1, h2, _, _, _, h6, _⟩ := h
  unfold leftM
  rw [h1, h2]
  exact h6
theorem argsN_one {x : ByteArray} (h : x ∈ fn1) : argsN x = 1 := by unfold argsN; rw [if_pos (hasB_iff.2 h)]
theorem not_has {L : List ByteArray} {x : ByteArray} (h : x ∉ L) : ¬ hasB L x = true := fun e => h (hasB_iff.1 e)
theorem two_one {x : ByteArray} (h : x ∈ fn2) : x ∉ fn1 := by
  simp only [fn2, List.mem_cons, List.not_mem_nil, or_false] at h
  rcases h with rfl | rfl | rfl | rfl | rfl | rfl | rfl | rfl | rfl | rfl | rfl | rfl | rfl | rfl | rfl | rfl | rfl | rfl | rfl | rfl | rfl | rfl | rfl | rfl <;> simp [fn1]
theorem three_one {x : ByteArray} (h : x ∈ fn3) : x ∉ fn1 ∧ x ∉ fn2 := by
  simp only [fn3, List.mem_cons, List.not_mem_nil, or_false] at h
  subst h
  constructor <;> simp [fn1, fn2]
theorem argsN_two {x : ByteArray} (h : x ∈ fn2) : argsN x = 2 := by unfold argsN; rw [if_neg (not_has (two_one h)), if_pos (hasB_iff.2 h)]
theorem argsN_three {x : ByteArray} (h : x ∈ fn3) : argsN x = 3 := by unfold argsN; rw [if_neg (not_has (three_one h).1), if_neg (not_has (three_one h).2), if_pos (hasB_iff.2 h)]
theorem argsN_pos {x : ByteArray} (h : 0 < argsN x) : x ∈ fn1 ∨ x ∈ fn2 ∨ x ∈ fn3 := by
  unfold argsN at h
  by_cases h1 : hasB fn1 x = true
  · exact .inl (hasB_iff.1 h1)
  · rw [if_neg h1] at h
    by_cases h2 : hasB fn2 x = true
    · exact .inr (.inl (hasB_iff.1 h2))
    · rw [if_neg h2] at h
      by_cases h3 : hasB fn3 x = true
      · exact .inr (.inr (hasB_iff.1 h3))
      · rw [if_neg h3] at h
        omega
theorem fn_small {x : ByteArray} (h : 0 < argsN x) : x.size ≤ maxLen := by
  have h1 : fn1.all (fun x => decide (x.size ≤ 20)) = true := by decide
  have h2 : fn2.all (fun x => decide (x.size ≤ 20)) = true := by decide
  have h3 : fn3.all (fun x => decide (x.size ≤ 20)) = true := by decide
  rcases argsN_pos h with h | h | h
  · exact lits_small h1 x h
  · exact lits_small h2 x h
  · exact lits_small h3 x h
theorem in_c1 {x : ByteArray} (h : x ∈ cL1) : x ∈ fn1 := by
  simp only [cL1, List.mem_cons, List.not_mem_nil, or_false] at h
  rcases h with rfl | rfl | rfl | rfl | rfl | rfl | rfl | rfl | rfl | rfl | rfl | rfl | rfl <;> simp [fn1]
theorem in_c2 {x : ByteArray} (h : x ∈ cL2) : x ∈ fn2 := by
  simp only [cL2, List.mem_cons, List.not_mem_nil, or_false] at h
  rcases h with rfl | rfl <;> simp [fn2]
theorem in_c3 {x : ByteArray} (h : x ∈ cL3) : x ∈ fn3 := by
  simp only [cL3, List.mem_cons, List.not_mem_nil, or_false] at h
  subst h; simp [fn3]
theorem in_o1 {x : ByteArray} (h : x ∈ oL1) : x ∈ fn2 := by
  simp only [oL1, List.mem_cons, List.not_mem_nil, or_false] at h
  rcases h with rfl | rfl | rfl | rfl | rfl | rfl | rfl | rfl | rfl | rfl | rfl | rfl | rfl | rfl <;> simp [fn2]
theorem in_o2 {x : ByteArray} (h : x ∈ oL2) : x ∈ fn2 := by
  simp only [oL2, List.mem_cons, List.not_mem_nil, or_false] at h
  rcases h with rfl | rfl | rfl | rfl | rfl | rfl <;> simp [fn2]
/-- a value that is a function's -/
def IsFn (v : Value) : Prop := ∃ y, v = fV y (argsN y) ∧ 0 < argsN y
theorem isFn1 {x : ByteArray} (h : x ∈ fn1) : IsFn (fV x 1) := ⟨x, by rw [argsN_one h], by rw [argsN_one h]; decide⟩
theorem isFn2 {x : ByteArray} (h : x ∈ fn2) : IsFn (fV x 2) := ⟨x, by rw [argsN_two h], by rw [argsN_two h]; decide⟩
theorem isFn3 {x : ByteArray} (h : x ∈ fn3) : IsFn (fV x 3) := ⟨x, by rw [argsN_three h], by rw [argsN_three h]; decide⟩
theorem putV_fn {V : ByteArray → Option Value} (hV : ∀ x v, V x = some v → IsFn v) {k : ByteArray} {u : Value} (hu : IsFn u) : ∀ x v, putV V k u x = some v → IsFn v := fun x v h => by
  unfold putV at h
  split at h
  · cases h; exact hu
  · exact hV x v h
theorem putLL_fn {V : ByteArray → Option Value} (hV : ∀ x v, V x = some v → IsFn v) {a : Int} {L : List ByteArray} (hL : ∀ x ∈ L, IsFn (fV x a)) : ∀ x v, putLL V a L x = some v → IsFn v := fun x v h => by
  rw [putLL_is] at h
  split at h
  · rename_i h1
    cases h
    exact hL x (hasB_iff.1 h1)
  · exact hV x v h
theorem calls_fn : ∀ x v, callsV x = some v → IsFn v :=
  putLL_fn (putLL_fn (putLL_fn (putV_fn (putV_fn (putV_fn (fun x v h => by simp at h) (isFn1 (by simp [fn1]))) (isFn1 (by simp [fn1]))) (isFn2 (by simp [fn2])))
    (fun x h => isFn1 (in_c1 h))) (fun x h => isFn2 (in_c2 h))) (fun x h => isFn3 (in_c3 h))
theorem opers_fn : ∀ x v, opersV x = some v → IsFn v :=
  putLL_fn (putLL_fn (putV_fn (fun x v h => by simp at h) (isFn2 (by simp [fn2]))) (fun x h => isFn2 (in_o1 h))) (fun x h => isFn2 (in_o2 h))
theorem fV_inj {x y : ByteArray} {a b : Int} (h : fV x a = fV y b) : x = y ∧ a = b := by simpa [fV] using h
/-- each function is told by one of the tables, or added by itself -/
theorem all_told {y : ByteArray} (h : 0 < argsN y) : (∃ x, callsV x = some (fV y (argsN y))) ∨ (∃ x, opersV x = some (fV y (argsN y))) ∨ y ∈ fL1 ∨ y ∈ fL2 := by
  have c1 : ∀ z, z ∈ cL1 → z ∉ cL2 → z ∉ cL3 → ∃ x, callsV x = some (fV z (argsN z)) := fun z h1 h2 h3 => ⟨z, by unfold callsV; rw [putLL_is, if_neg (not_has h3), putLL_is, if_neg (not_has h2), putLL_is, if_pos (hasB_iff.2 h1), argsN_one (in_c1 h1)]⟩
  have c2 : ∀ z, z ∈ cL2 → z ∉ cL3 → ∃ x, callsV x = some (fV z (argsN z)) := fun z h1 h3 => ⟨z, by unfold callsV; rw [putLL_is, if_neg (not_has h3), putLL_is, if_pos (hasB_iff.2 h1), argsN_two (in_c2 h1)]⟩
  have c3 : ∀ z, z ∈ cL3 → ∃ x, callsV x = some (fV z (argsN z)) := fun z h1 => ⟨z, by unfold callsV; rw [putLL_is, if_pos (hasB_iff.2 h1), argsN_three (in_c3 h1)]⟩
  have o1 : ∀ z, z ∈ oL1 → z ∉ oL2 → ∃ x, opersV x = some (fV z (argsN z)) := fun z h1 h2 => ⟨z, by unfold opersV; rw [putLL_is, if_neg (not_has h2), putLL_is, if_pos (hasB_iff.2 h1), argsN_two (in_o1 h1)]⟩
  have o2 : ∀ z, z ∈ oL2 → ∃ x, opersV x = some (fV z (argsN z)) := fun z h1 => ⟨z, by unfold opersV; rw [putLL_is, if_pos (hasB_iff.2 h1), argsN_two (in_o2 h1)]⟩
  have cn : ∀ k, k ∉ cL1 → k ∉ cL2 → k ∉ cL3 → callsV k = callsV0 k := fun k h1 h2 h3 => by unfold callsV; rw [putLL_is, if_neg (not_has h3), putLL_is, if_neg (not_has h2), putLL_is, if_neg (not_has h1)]
  rcases argsN_pos h with h | h | h
  · simp only [fn1, List.mem_cons, List.not_mem_nil, or_false] at h
    rcases h with rfl | rfl | rfl | rfl | rfl | rfl | rfl | rfl | rfl | rfl | rfl | rfl | rfl | rfl | rfl | rfl | rfl
    all_goals first
      | (refine .inl (c1 _ ?_ ?_ ?_) <;> simp [cL1, cL2, cL3] <;> done)
      | (refine .inr (.inr (.inl ?_)) <;> simp [fL1] <;> done)
      | (refine .inl ⟨⟨#[100, 105, 115, 116, 105, 110, 99, 116, 45, 118, 97, 108, 117, 101, 115]⟩, ?_⟩; rw [cn _ (by simp [cL1]) (by simp [cL2]) (by simp [cL3]), argsN_one (by simp [fn1])]; unfold callsV0; rw [putV_other _ _ (by simp), putV_other _ _ (by simp), putV_same]; done)
      | (refine .inl ⟨⟨#[115, 116, 114, 105, 110, 103, 45, 108, 101, 110, 103, 116, 104]⟩, ?_⟩; rw [cn _ (by simp [cL1]) (by simp [cL2]) (by simp [cL3]), argsN_one (by simp [fn1])]; unfold callsV0; rw [putV_other _ _ (by simp), putV_same]; done)
  · simp only [fn2, List.mem_cons, List.not_mem_nil, or_false] at h
    rcases h with rfl | rfl | rfl | rfl | rfl | rfl | rfl | rfl | rfl | rfl | rfl | rfl | rfl | rfl | rfl | rfl | rfl | rfl | rfl | rfl | rfl | rfl | rfl | rfl
    all_goals first
      | (refine .inr (.inl (o2 _ ?_)) <;> simp [oL2] <;> done)
      | (refine .inr (.inl (o1 _ ?_ ?_)) <;> simp [oL1, oL2] <;> done)
      | (refine .inl (c2 _ ?_ ?_) <;> simp [cL2, cL3] <;> done)
      | (refine .inr (.inr (.inr ?_)) <;> simp [fL2] <;> done)
      | (refine .inl ⟨⟨#[115, 116, 97, 114, 116, 115, 45, 119, 105, 116, 104]⟩, ?_⟩; rw [cn _ (by simp [cL1]) (by simp [cL2]) (by simp [cL3]), argsN_two (by simp [fn2])]; unfold callsV0; rw [putV_same]; done)
  · simp only [fn3, List.mem_cons, List.not_mem_nil, or_false] at h
    subst h
    exact .inl (c3 _ (by simp [cL3]))

/-- a table of some of the functions -/
def FnV (D : ByteArray → Bool) : ByteArray → Option Value := fun x => if D x = true then some (fV x (argsN x)) else none
def fnsV : ByteArray → Option Value := FnV fun x => decide (0 < argsN x)
theorem fnV_put (D : ByteArray → Bool) (L : List ByteArray) (a : Int) (hL : ∀ x ∈ L, argsN x = a) : putLL (FnV D) a L = FnV (fun x => D x || hasB L x) := by
  funext x
  rw [putLL_is]
  unfold FnV
  show _ = if (D x || hasB L x) = true then some (fV x (argsN x)) else none
  by_cases h : hasB L x = true
  · rw [if_pos h, h, Bool.or_true, if_pos rfl, hL x (hasB_iff.1 h)]
  · have h' : hasB L x = false := by simpa using h
    rw [if_neg h, h', Bool.or_false]
theorem fnV_nil : FnV (fun _ => false) = fun _ => none := by funext x; simp [FnV]
/-- what was told so far is in the table -/
def Told (D : ByteArray → Bool) (v : Value) : Prop := ∃ y, v = fV y (argsN y) ∧ D y = true
theorem Told.or {D : ByteArray → Bool} {L : List ByteArray} {v : Value} (h : Told D v) : Told (fun x => D x || hasB L x) v := by
  obtain ⟨y, h1, h2⟩ := h
  exact ⟨y, h1, by show (D y || hasB L y) = true; rw [h2]; rfl⟩
theorem has_self (y : ByteArray) : hasB [y] y = true := hasB_iff.2 (List.mem_singleton.2 rfl)
set_option maxHeartbeats 3200000 in
theorem functions_is (w : World) : Calls Tryz.prog 55 #[] w fun e w' => e = .returned (.map (some w.heap.size)) ∧ VMap w' w.heap.size fnsV ∧ Below w.heap.size w w' := by
  have HV0 : Hid (VMap (w.alloc (.map #[] 0)) w.heap.size (FnV fun _ => false)) := by rw [fnV_nil]; exact VMap.made w
  have HB0 : Hid (Below w.heap.size w (w.alloc (.map #[] 0))) := (Below.refl _ _).alloc (Nat.le_refl _) _
  have HA : Hid (∀ (W : World) V L v a, VMap W w.heap.size V → TxtsL W v L → (∀ x ∈ L, x.size ≤ maxLen) → Calls Tryz.prog 47 #[.map (some w.heap.size), .int .i64 a, v] W fun e w' => e = .returned (.tuple #[]) ∧ VMap w' w.heap.size (putLL V a L) ∧ TurnedM W w' w.heap.size) := fun W V L v a h1 h2 h3 => add_is _ V L v a W h1 h2 h3
  have hmm := @run_makeMap Tryz.prog
  go_enter Tryz.func55, Tryz.ntmps55
  go_wp2_with (first
    | (go_at_call 23; refine (calls_is _).mono ?_; rintro e w1 ⟨rfl, hv1, hb1⟩; have HV1 : Hid (VMap w1 w.heap.size (FnV fun _ => false)) := HV0.out.keep (hb1.block _ (by simp)); have HB1 : Hid (Below w.heap.size w w1) := HB0.out.trans (hb1.mono (by simp)); have hz1 : w.heap.size + 1 ≤ w1.heap.size := (by have := hb1.size; simpa using this); have hv1' : VMap w1 (w.heap.size + 1) callsV := (by simpa using hv1); have HC1 : Hid (VMap w1 (w.heap.size + 1) callsV) := hv1'; clear hb1 HV0 HB0 hv1 hv1')
    | (refine wpList_vrange rfl (.tmp 7) 73 98 rfl Tryz.underlying73 (w.heap.size + 1) callsV (by simp [Act.eval]) HC1.out (Told fun _ => false) ?_; intro w2 left2 hr2 hs2 hk2 ho2 ht2 hp2; have HR2 : Hid (VRng w2 w1.heap.size (w.heap.size + 1) callsV (Told fun _ => false) left2) := hr2; have HV2 : Hid (VMap w2 w.heap.size (FnV fun _ => false)) := HV1.out.keep (hk2 _ (by omega)); have HB2 : Hid (Below w.heap.size w w2) := HB1.out.trans ⟨ho2, ht2, hp2, by omega, fun b hb => hk2 b (by omega)⟩; clear hr2 hs2 hk2 ho2 ht2 hp2 HV1 HB1 HC1))
  go_frame
  go_loopw [9] (fun _ wr => ∃ (D : ByteArray → Bool) (left : Nat), VMap wr w.heap.size (FnV D) ∧ (∀ x, D x = true → 0 < argsN x) ∧ VRng wr w1.heap.size (w.heap.size + 1) callsV (Told D) left ∧ Below w.heap.size w wr) (fun _ wr => leftM wr (w.heap.size + 1) w1.heap.size)
  case atStart => exact ⟨_, _, HV2.out, (fun x h => by cases h), HR2.out, HB2.out⟩
  case round =>
    clear HV2 HR2 HB2
    obtain ⟨D, left, hvm, hD, hrg, hbr⟩ := hrel
    have HV : Hid (VMap wr w.heap.size (FnV D)) := hvm
    have HD : Hid (∀ x, D x = true → 0 < argsN x) := hD
    have HR : Hid (VRng wr w1.heap.size (w.heap.size + 1) callsV (Told D) left) := hrg
    have HB : Hid (Below w.heap.size w wr) := hbr
    have hzr : w1.heap.size < wr.heap.size := hrg.lt.2.1
    clear hvm hD hrg hbr
    go_wp2_with (refine wpList_vnext rfl (.tmp 8) rfl w1.heap.size (w.heap.size + 1) callsV (Told D) left (by simp [Act.eval]) HR.out ?_ ?_)
    rotate_left
    · intro x v w3 left3 hx hen hlt3 hr3 ht3
      obtain ⟨y, rfl, hy⟩ := calls_fn x v hx
      have HR3 : Hid (VRng w3 w1.heap.size (w.heap.size + 1) callsV (fun u => Told D u ∨ u = fV y (argsN y)) left3) := hr3
      have HV3 : Hid (VMap w3 w.heap.size (FnV D)) := HV.out.keep (ht3.2.1 _ (by omega))
      have HB3 : Hid (Below w.heap.size w w3) := HB.out.trans (ht3.below (by omega))
      have hz3 : wr.heap.size ≤ w3.heap.size := Nat.le_of_eq ht3.1.symm
      have HP : Hid (putLL (FnV D) (argsN y) [y] = FnV (fun x => D x || hasB [y] x)) := fnV_put D [y] (argsN y) (fun z hz => by rw [List.mem_singleton.1 hz])
      have HD3 : Hid (∀ x, (D x || hasB [y] x) = true → 0 < argsN x) := fun x hx => by
        rcases Bool.or_eq_true _ _ ▸ hx with h | h
        · exact HD.out x h
        · rw [List.mem_singleton.1 (hasB_iff.1 h)]; exact hy
      have hys := fn_small hy
      have HM : Hid (leftM wr (w.heap.size + 1) w1.heap.size = left) := HR.out.left
      have HTO : Hid (∀ u, (Told D u ∨ u = fV y (argsN y)) → Told (fun x => D x || hasB [y] x) u) := fun u hu => by
        rcases hu with hu | hu
        · exact hu.or
        · exact ⟨y, hu, by show (D y || hasB [y] y) = true; rw [has_self, Bool.or_true]⟩
      have hrl := HR3.out.lt
      have hrT : w1.heap.size ≠ w.heap.size := by omega
      unfold fV at hen
      clear hx hr3 ht3 HV HB HR hy
      generalize argsN y = ar at *
      go_wp2_with (first
        | (go_at_call 47; refine (HA.out _ (FnV D) [y] _ ar ((HV3.out.alloc _).alloc _) (txts_at (w3.alloc _) [y] (w3.heap.size + 1) (by simp) (by simp [maxLen])) (fun z hz => by rw [List.mem_singleton.1 hz]; exact hys)).mono ?_; rintro e w4 ⟨rfl, hv4, ht4⟩; have HV4 : Hid (VMap w4 w.heap.size (putLL (FnV D) ar [y])) := hv4; have HB4 : Hid (Below w.heap.size w w4) := (below_new (below_new HB3.out (Nat.le_refl _) _) (Nat.le_refl _) _).trans (ht4.below (Nat.le_refl _)); have HR4 : Hid (VRng w4 w1.heap.size (w.heap.size + 1) callsV (Told fun x => D x || hasB [y] x) left3) := HR3.out.keep ((ht4.2.1 _ (by omega)).trans ((Below.heap_alloc _ _ _ (by simp <;> omega)).trans (Below.heap_alloc _ _ _ hrl.1))) ((ht4.2.1 _ (by omega)).trans ((Below.heap_alloc _ _ _ (by simp <;> omega)).trans (Below.heap_alloc _ _ _ hrl.2.1))) HTO.out; clear hv4 ht4 HV3 HB3 HR3))
      go_roundw
      case rel => exact ⟨_, left3, by rw [← HP.out]; exact HV4.out, HD3.out, HR4.out, HB4.out⟩
      case measure => rw [HR4.out.left, HM.out]; exact hlt3
    intro hdone
    have HDN : Hid (∀ y x, callsV x = some (fV y (argsN y)) → D y = true) := fun y x hx => by
      obtain ⟨z, h1, h2⟩ := hdone x _ hx
      rw [(fV_inj h1).1]; exact h2
    obtain ⟨D1, hD1⟩ : ∃ D1, D1 = D := ⟨D, rfl⟩
    have HDD : Hid (∀ x, D1 x = true → D x = true) := fun x h => by rw [← hD1]; exact h
    rw [← hD1] at HDN
    clear hdone HR hD1
    go_wp2_with (first
      | (go_at_call 24; refine (operators_is _).mono ?_; rintro e w5 ⟨rfl, hv5, hb5⟩; have HV5 : Hid (VMap w5 w.heap.size (FnV D)) := HV.out.keep (hb5.block _ (by omega)); have HB5 : Hid (Below w.heap.size w w5) := HB.out.trans (hb5.mono (by omega)); have hz5 : wr.heap.size ≤ w5.heap.size := hb5.size; have HC5 : Hid (VMap w5 wr.heap.size opersV) := hv5; clear hb5 HV HB hv5)
      | (refine wpList_vrange rfl (.tmp 20) 73 98 rfl Tryz.underlying73 wr.heap.size opersV (by simp [Act.eval]) HC5.out (Told fun _ => false) ?_; intro w6 left6 hr6 hs6 hk6 ho6 ht6 hp6; have HR6 : Hid (VRng w6 w5.heap.size wr.heap.size opersV (Told D) left6) := hr6.keep rfl rfl (fun v hv => by obtain ⟨y, _, h⟩ := hv; cases h); have HV6 : Hid (VMap w6 w.heap.size (FnV D)) := HV5.out.keep (hk6 _ (by omega)); have HB6 : Hid (Below w.heap.size w w6) := HB5.out.trans ⟨ho6, ht6, hp6, by omega, fun b hb => hk6 b (by omega)⟩; clear hr6 hs6 hk6 ho6 ht6 hp6 HV5 HB5 HC5))
    obtain ⟨M2, hM2⟩ : ∃ M2, M2 = wr.heap.size := ⟨_, rfl⟩
    rw [← hM2] at HR6
    have hM2w : w.heap.size < M2 := by omega
    have hM5 : w.heap.size < w5.heap.size := by omega
    clear hz5 hzr
    go_frame
    go_loopw [22] (fun _ wr => ∃ (D : ByteArray → Bool) (left : Nat), VMap wr w.heap.size (FnV D) ∧ (∀ x, D x = true → 0 < argsN x) ∧ (∀ x, D1 x = true → D x = true) ∧ VRng wr w5.heap.size M2 opersV (Told D) left ∧ Below w.heap.size w wr) (fun _ wr => leftM wr M2 w5.heap.size)
    case atStart => exact ⟨D, _, HV6.out, HD.out, HDD.out, HR6.out, HB6.out⟩
    case round =>
      clear HV6 HR6 HB6 HD HDD hM2
      clear left D
      obtain ⟨D, left, hvm, hD, hDD, hrg, hbr⟩ := hrel
      have HV : Hid (VMap wr w.heap.size (FnV D)) := hvm
      have HD : Hid (∀ x, D x = true → 0 < argsN x) := hD
      have HDD : Hid (∀ x, D1 x = true → D x = true) := hDD
      have HR : Hid (VRng wr w5.heap.size M2 opersV (Told D) left) := hrg
      have HB : Hid (Below w.heap.size w wr) := hbr
      have hzr : w5.heap.size < wr.heap.size := hrg.lt.2.1
      clear hvm hD hrg hbr hDD
      go_wp2_with (refine wpList_vnext rfl (.tmp 21) rfl w5.heap.size M2 opersV (Told D) left (by simp [Act.eval]) HR.out ?_ ?_)
      rotate_left
      · intro x v w3 left3 hx hen hlt3 hr3 ht3
        obtain ⟨y, rfl, hy⟩ := opers_fn x v hx
        have HR3 : Hid (VRng w3 w5.heap.size M2 opersV (fun u => Told D u ∨ u = fV y (argsN y)) left3) := hr3
        have HV3 : Hid (VMap w3 w.heap.size (FnV D)) := HV.out.keep (ht3.2.1 _ (by omega))
        have HB3 : Hid (Below w.heap.size w w3) := HB.out.trans (ht3.below (by omega))
        have hz3 : wr.heap.size ≤ w3.heap.size := Nat.le_of_eq ht3.1.symm
        have HP : Hid (putLL (FnV D) (argsN y) [y] = FnV (fun x => D x || hasB [y] x)) := fnV_put D [y] (argsN y) (fun z hz => by rw [List.mem_singleton.1 hz])
        have HD3 : Hid (∀ x, (D x || hasB [y] x) = true → 0 < argsN x) := fun x hx => by
          rcases Bool.or_eq_true _ _ ▸ hx with h | h
          · exact HD.out x h
          · rw [List.mem_singleton.1 (hasB_iff.1 h)]; exact hy
        have hys := fn_small hy
        have HM : Hid (leftM wr M2 w5.heap.size = left) := HR.out.left
        have HTO : Hid (∀ u, (Told D u ∨ u = fV y (argsN y)) → Told (fun x => D x || hasB [y] x) u) := fun u hu => by
          rcases hu with hu | hu
          · exact hu.or
          · exact ⟨y, hu, by show (D y || hasB [y] y) = true; rw [has_self, Bool.or_true]⟩
        have hrl := HR3.out.lt
        have hrT : w5.heap.size ≠ w.heap.size := by omega
        unfold fV at hen
        clear hx hr3 ht3 HV HB HR hy
        generalize argsN y = ar at *
        go_wp2_with (first
          | (go_at_call 47; refine (HA.out _ (FnV D) [y] _ ar ((HV3.out.alloc _).alloc _) (txts_at (w3.alloc _) [y] (w3.heap.size + 1) (by simp) (by simp [maxLen])) (fun z hz => by rw [List.mem_singleton.1 hz]; exact hys)).mono ?_; rintro e w4 ⟨rfl, hv4, ht4⟩; have HV4 : Hid (VMap w4 w.heap.size (putLL (FnV D) ar [y])) := hv4; have HB4 : Hid (Below w.heap.size w w4) := (below_new (below_new HB3.out (Nat.le_refl _) _) (Nat.le_refl _) _).trans (ht4.below (Nat.le_refl _)); have HR4 : Hid (VRng w4 w5.heap.size M2 opersV (Told fun x => D x || hasB [y] x) left3) := HR3.out.keep ((ht4.2.1 _ (by omega)).trans ((Below.heap_alloc _ _ _ (by simp <;> omega)).trans (Below.heap_alloc _ _ _ hrl.1))) ((ht4.2.1 _ (by omega)).trans ((Below.heap_alloc _ _ _ (by simp <;> omega)).trans (Below.heap_alloc _ _ _ hrl.2.1))) HTO.out; clear hv4 ht4 HV3 HB3 HR3))
        go_roundw
        case rel => exact ⟨_, left3, by rw [← HP.out]; exact HV4.out, HD3.out, (fun x h => by show (D x || hasB [y] x) = true; rw [HDD.out x h]; rfl), HR4.out, HB4.out⟩
        case measure => rw [HR4.out.left, HM.out]; exact hlt3
      intro hdone
      have HAL : Hid (FnV (fun x => (D x || hasB fL1 x) || hasB fL2 x) = fnsV) := by
        have hf1 : ∀ x, x ∈ fL1 → 0 < argsN x := fun x hx => by
          simp only [fL1, List.mem_cons, List.not_mem_nil, or_false] at hx
          rcases hx with rfl | rfl <;> rw [argsN_one (by simp [fn1])] <;> decide
        have hf2 : ∀ x, x ∈ fL2 → 0 < argsN x := fun x hx => by
          simp only [fL2, List.mem_cons, List.not_mem_nil, or_false] at hx
          subst hx
          rw [argsN_two (by simp [fn2])]; decide
        have h : FnV (fun x => (D x || hasB fL1 x) || hasB fL2 x) = fnsV := by
          unfold fnsV
          congr 1
          funext y
          by_cases hy : 0 < argsN y
          · rw [decide_eq_true hy]
            rcases all_told hy with ⟨x, hx⟩ | ⟨x, hx⟩ | h | h
            · rw [HDD.out y (HDN.out y x hx)]; rfl
            · obtain ⟨z, h1, h2⟩ := hdone x _ hx
              rw [(fV_inj h1).1, h2]; rfl
            · rw [hasB_iff.2 h, Bool.or_true]; rfl
            · rw [hasB_iff.2 h, Bool.or_true]
          · rw [decide_eq_false hy]
            have g1 : D y = false := by
              cases e : D y
              · rfl
              · exact absurd (HD.out y e) hy
            have g2 : hasB fL1 y = false := by simpa using not_has (fun h => hy (hf1 y h))
            have g3 : hasB fL2 y = false := by simpa using not_has (fun h => hy (hf2 y h))
            rw [g1, g2, g3]; rfl
        exact h
      have HP1 : Hid (putLL (FnV D) 1 fL1 = FnV (fun x => D x || hasB fL1 x)) := fnV_put D fL1 1 (fun x hx => by
        simp only [fL1, List.mem_cons, List.not_mem_nil, or_false] at hx
        rcases hx with rfl | rfl <;> exact argsN_one (by simp [fn1]))
      have HP2 : Hid (putLL (FnV (fun x => D x || hasB fL1 x)) 2 fL2 = FnV (fun x => (D x || hasB fL1 x) || hasB fL2 x)) := fnV_put _ fL2 2 (fun x hx => by
        simp only [fL2, List.mem_cons, List.not_mem_nil, or_false] at hx
        subst hx
        exact argsN_two (by simp [fn2]))
      clear hdone HR HDD HDN HD
      go_wp2_with (first
        | (go_at_call 47; refine (HA.out _ _ fL1 _ _ (HV.out.alloc _) (txts_lit wr fL1 (by decide)) (lits_small (by decide))).mono ?_; rintro e w7 ⟨rfl, hv7, ht7⟩; have HV7 : Hid (VMap w7 w.heap.size (putLL (FnV D) 1 fL1)) := hv7; have HB7 : Hid (Below w.heap.size w w7) := (below_new HB.out (Nat.le_refl _) _).trans (ht7.below (Nat.le_refl _)); clear hv7 ht7 HV HB)
        | (go_at_call 47; refine (HA.out _ _ fL2 _ _ (HV7.out.alloc _) (txts_lit w7 fL2 (by decide)) (lits_small (by decide))).mono ?_; rintro e w8 ⟨rfl, hv8, ht8⟩; have HV8 : Hid (VMap w8 w.heap.size (putLL (putLL (FnV D) 1 fL1) 2 fL2)) := hv8; have HB8 : Hid (Below w.heap.size w w8) := (below_new HB7.out (Nat.le_refl _) _).trans (ht8.below (Nat.le_refl _)); clear hv8 ht8 HV7 HB7))
      go_ret
      exact ⟨rfl, by rw [← HAL.out, ← HP2.out, ← HP1.out]; exact HV8.out, HB8.out⟩
end Go.Proofs.YtcbpjgnbdpfiiaaGreatDoor
