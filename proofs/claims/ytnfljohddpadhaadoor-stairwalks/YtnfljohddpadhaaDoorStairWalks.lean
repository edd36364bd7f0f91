/-
  PROVED HERE: for every list of nodes l, every list of numbers ctx, every number axis and every test t, the Go law StairWalks of package pleacherlaw returns true: the program's Walk answers what the document's answer of P4.3 asks (the nodes, the error), and the arguments read behind the call as they read before. Conditions: the two tables of unicode/utf8 hold what the program's text lays (the card ties them); none of my own.
-/
import Derived.Test.YtnfljohddpadhaaDoorCards
import Derived.Test.YtnfljohddpadhaaDoorLaidS
import Derived.Test.YtnfljohddpadhaaDoorStOpen
import Derived.WalkKit
import Derived.ProofKit
import Derived.OpenShut
import Derived.Carry
import Derived.Deep.DeepHandedRow
import Derived.Deep.DeepWitnessRowRef
import Derived.SizedLaws
set_option linter.unusedVariables false
namespace Go.Proofs.YtnfljohddpadhaaDoor.stairWalks
open Go.ChangeShapes Go.WideShapes Go.ChangeAt Go.RowKit

theorem own : ownKnob Tryd.prog.godebug = none := by kernel_rfl
theorem laidOut : laidOutB Tryd.prog = true := by kernel_rfl

set_option maxHeartbeats 3200000 in
theorem walk (v kv : Value) (N n : Nat) (E : Nat → Nd) (Z : Nat → Int) (axis tk : Int) (tn : ByteArray) (w : World) (hv : NdsIs w v N E) (hk : NumsIs w kv n Z) (hf : NdsFine N E) (hT : Tabs w) (hreach : N * 64 ≤ 140737488351232) (hr8 : n * 8 ≤ 140737488351232) (hnil : ∀ c, v = .slice none 0 c → c = 0) (hknil : ∀ c, kv = .slice none 0 c → c = 0) (htn : tn.size ≤ maxLen) :
    Calls Tryd.prog 3 #[v, kv, .int .i64 axis, .agg #[.int .i64 tk, .string tn]] w fun e w' => e = .returned (.bool true) ∧ Below w.heap.size w w' := by
  have CI : Hid (Calls Tryd.prog 4 #[kv] (w.alloc (.cells #[.int .i64 tk, .string tn] 25)) fun e w' => ∃ v', e = .returned v' ∧ NumsIs w' v' n Z ∧ (n = 0 → v' = .slice none 0 0) ∧ Below w.heap.size w w' ∧ w'.heap[w.heap.size]? = some (.cells #[.int .i64 tk, .string tn] 25)) := (ints_is kv n Z _ (hk.below ((Below.refl _ _).alloc (Nat.le_refl _) _)) hr8 hknil).mono (by
    rintro e w' ⟨u, rfl, h1, h2, h3⟩
    refine ⟨u, rfl, h1, h2, ((Below.refl _ _).alloc (Nat.le_refl _) _).trans (h3.mono (by simp)), ?_⟩
    exact (h3.block w.heap.size (by simp)).trans (heap_alloc_new w (.cells #[.int .i64 tk, .string tn] 25)))
  have CN : Hid (∀ W, Below w.heap.size w W → Calls Tryd.prog 6 #[v] W fun e w' => ∃ v', e = .returned v' ∧ NdsIs w' v' N E ∧ Below W.heap.size W w') := fun W hW => nodes_is v N E W (hv.below hW) hreach hnil
  obtain ⟨P, hP⟩ : ∃ P : Nat → Prop, P = fun i => chF E N axis tk n Z = 0 ∧ (i < N ∧ ∃ j, j < n ∧ onA E (Z j).toNat axis i) ∧ tmB (E i) axis tk tn = true := ⟨_, rfl⟩
  obtain ⟨F, hF⟩ : ∃ F : Int, F = chF E N axis tk n Z := ⟨_, rfl⟩
  have CW : Hid (∀ W u ku, Below w.heap.size w W → NdsIs W u N E → NumsIs W ku n Z → (n = 0 → ku = .slice none 0 0) → Calls Tryd.prog 5 #[u, ku, .int .i64 axis, .agg #[.int .i64 tk, .string tn]] W fun e w' => (∃ v L, e = .returned (.tuple #[v, .int .i64 F]) ∧ NumsIs w' v L.length (zOf L) ∧ Rise L ∧ (∀ i : Nat, i ∈ L ↔ P i)) ∧ Below W.heap.size W w') := fun W u ku hb hu hku h0 =>
    (walk_is u ku N n E Z axis tk tn W hu hku (Utf8Tabs_below hT hb) hf (by omega) htn h0).mono (by
      rintro e w' ⟨v, L, rfl, h1, h2, h3, h4⟩
      exact ⟨⟨v, L, by rw [hF], nums_of_own h1, h2, by rw [hP]; exact h3⟩, h4⟩)
  have CD : Hid (∀ W, Below w.heap.size w W → Calls Tryd.prog 7 #[v, kv, .int .i64 axis, .agg #[.int .i64 tk, .string tn]] W fun e w' => (∃ v L, e = .returned (.tuple #[v, .int .i64 F]) ∧ NumsIs w' v L.length (zOf L) ∧ Rise L ∧ (∀ i : Nat, i ∈ L ↔ P i)) ∧ Below W.heap.size W w') := fun W hb =>
    (walkedOf_is v kv N n E Z axis tk tn W (hv.below hb) (hk.below hb) (Utf8Tabs_below hT hb) hf (by omega) htn).mono (by
      rintro e w' ⟨v, L, rfl, h1, h2, h3, h4⟩
      exact ⟨⟨v, L, by rw [hF], nums_of_own h1, h2, by rw [hP]; exact h3⟩, h4⟩)
  have CS : Hid (∀ W u v' m Z', NumsIs W u m Z' → NumsIs W v' m Z' → Calls Tryd.prog 8 #[u, v'] W fun e w' => e = .returned (.bool true) ∧ Below W.heap.size W w') := fun W u v' m Z' h1 h2 => sameInts_is u v' m Z' W h1 h2
  have HKV := hidS hk
  have HKB : Hid (∀ W, Below w.heap.size w W → NumsIs W kv n Z) := fun W hb => hk.below hb
  obtain ⟨va, vcap, rfl, _⟩ := hv
  obtain ⟨ka, kcap, rfl, _⟩ := hk
  clear hT hf hnil hknil hP hF hreach hr8 htn
  go_enter Tryd.func3, Tryd.ntmps3
  go_upto_region 2 with (go_at_call 4; refine CI.out.mono ?_; rintro e w1 ⟨ku, rfl, hku, hk0, hb1, ht1⟩; have HKU := hidS hku; have HK0 := hidS hk0; have HB1 := hidS hb1; have HT1 := hidS ht1; clear hku hk0 hb1 ht1 CI)
  have HS : Hid (∀ W, Below w1.heap.size w1 W → W.cell? ⟨w.heap.size, 0, none⟩ = some (.int .i64 tk) ∧ W.cell? ⟨w.heap.size, 1, none⟩ = some (.string tn) ∧ w.heap.size < W.heap.size) := fun W hb => by
    have hz := (Array.getElem?_eq_some_iff.1 HT1.out).1
    have ht := (hb.block w.heap.size hz).trans HT1.out
    exact ⟨by rw [Lib.cell_of_heap ht]; rfl, by rw [Lib.cell_of_heap ht]; rfl, Nat.lt_of_lt_of_le hz hb.size⟩
  have HBW : Hid (∀ W, Below w1.heap.size w1 W → Below w.heap.size w W) := fun W hb => HB1.out.trans (hb.mono HB1.out.size)
  obtain ⟨z0, z1, z2⟩ := HS.out w1 (Below.refl _ _)
  have HD0 : Hid (Below w1.heap.size w1 w1.drew) := (Below.refl _ _).drew
  have HKW : Hid (∀ W, Below w1.heap.size w1 W → NumsIs W ku n Z) := fun W hb => HKU.out.below hb
  clear HB1 HT1 HKU HKV
  go_region_held3 (fun W => W.cell? ⟨w.heap.size, 0, none⟩ = some (.int .i64 tk) ∧ W.cell? ⟨w.heap.size, 1, none⟩ = some (.string tn) ∧ w.heap.size < W.heap.size)
    ((refine HS.out _ ?_; (focus (repeat (first | exact Hid.out (by assumption) | exact Below.refl _ _ | refine Below.drew ?_)))))
    (first
      | (go_at_call 6; refine (CN.out _ (HBW.out _ ?_)).mono ?_; (focus (repeat (first | exact Hid.out (by assumption) | exact Below.refl _ _ | refine Below.drew ?_))); rintro e w2 ⟨u, rfl, hu, hb2⟩; have hn2 := Below.trans (B := w1.heap.size) (a := w1) (by (focus (repeat (first | exact Hid.out (by assumption) | exact Below.refl _ _ | refine Below.drew ?_)))) (hb2.mono (by first | exact (HD0.out).size | exact Nat.le_refl _)); have HU := hidS hu; have HB2 := hidS hn2; obtain ⟨z0, z1, z2⟩ := HS.out _ hn2; clear hu hb2 hn2 CN)
      | (go_at_call 5; refine (CW.out _ _ _ (HBW.out _ ?_) ?_ (HKW.out _ ?_) HK0.out).mono ?_; (focus (repeat (first | exact Hid.out (by assumption) | exact Below.refl _ _ | refine Below.drew ?_))); (focus (first | exact HU.out | exact HU.out.below (Below.refl _ _).drew)); (focus (repeat (first | exact Hid.out (by assumption) | exact Below.refl _ _ | refine Below.drew ?_))); rintro e w3 ⟨⟨v3, L, rfl, hl3, hr3, hm3⟩, hb3⟩; have hn3 := Below.trans (B := w1.heap.size) (a := w1) (by (focus (repeat (first | exact Hid.out (by assumption) | exact Below.refl _ _ | refine Below.drew ?_)))) (hb3.mono (by first | exact HB2.out.size | exact (HB2.out.drew).size)); have HL3 := hidS hl3; have HR3 := hidS hr3; have HM3 := hidS hm3; have HB3 := hidS hn3; obtain ⟨z0, z1, z2⟩ := HS.out _ hn3; clear hl3 hr3 hm3 hb3 hn3 CW))
  go_wp2_with (first
    | (go_at_call 7; refine (CD.out _ (HBW.out _ HB3.out)).mono ?_; rintro e w4 ⟨⟨v4, L4, rfl, hl4, hr4, hm4⟩, hb4⟩; obtain rfl := rise_eq HR3.out hr4 (fun i => (HM3.out i).trans (hm4 i).symm); have HL4 := hidS hl4; have HL5 := hidS (HL3.out.below hb4); have HB4 := hidS (Below.trans HB3.out (hb4.mono HB3.out.size)); clear hl4 hr4 hm4 hb4 CD HL3)
    | (go_at_call 8; refine (CS.out _ _ _ _ _ HL5.out HL4.out).mono ?_; rintro e w5 ⟨rfl, hb5⟩; have HB5 := hidS (Below.trans HB4.out (hb5.mono HB4.out.size)); clear hb5 HL5)
    | (go_at_call 8; refine (CS.out _ _ _ _ _ (HKW.out _ HB5.out) (HKB.out _ (HBW.out _ HB5.out))).mono ?_; rintro e w6 ⟨rfl, hb6⟩; have HB6 := hidS (Below.trans HB5.out (hb6.mono HB5.out.size)); clear hb6 HKW))
  go_ret
  exact ⟨ret_bool (by simp), HBW.out _ HB6.out⟩

theorem env_of {W : World} (hL : laidMetH Tryd.prog Rows.stairWalksRow.laid W) (hsh : W.ShapedOpen Tryd.prog) : Tabs W := by
  rw [MakeChecks.laidMetH_plain _ _ _ (by kernel_rfl)] at hL
  exact tabs_of hL (.tail _ (.head _)) (.head _)

theorem laid_met (os : Os) (args : Array Value) : laidMet Tryd.prog Rows.stairWalksRow.laid ((laidWorld os).forCall (fun _ _ => 0) ⟨#[], args, []⟩).memory :=
  (LaidIn.of_run (l := Rows.stairWalksRow.laid) [Tryd.laysValid_ren.g 4, Tryd.laysValid_ren.g 3] 8 (by kernel_rfl) (by kernel_rfl) (by kernel_rfl) (by kernel_rfl)).met
theorem witness_row (os : Os) {H : Type} (enc : TypeId × Value → H) :
    (OpenSpec.ofChange Rows.stairWalksSpec).preRow enc Tryd.prog Tryd.f3 Rows.stairWalksRow.domain false Rows.stairWalksRow.laid ((laidWorld os).forCall (fun _ _ => 0) ⟨#[], #[.slice none 0 0, .slice none 0 0, .int .i64 0, .agg #[.int .i64 0, .string ByteArray.empty]], []⟩).memory #[.slice none 0 0, .slice none 0 0, .int .i64 0, .agg #[.int .i64 0, .string ByteArray.empty]] := by
  have hw : (DataW.whole enc Tryd.prog ((laidWorld os).forCall (fun _ _ => 0) ⟨#[], #[.slice none 0 0, .slice none 0 0, .int .i64 0, .agg #[.int .i64 0, .string ByteArray.empty]], []⟩).memory Tryd.f3.params.toList (OpenSpec.ofChange Rows.stairWalksSpec).vars false (#[.slice none 0 0, .slice none 0 0, .int .i64 0, .agg #[.int .i64 0, .string ByteArray.empty]] : Array Value).toList 8).map (fun x => (x.1, x.2.1)) =
      some ([.nil, .nil, .lit (.int .i64 0), .agg [.lit (.int .i64 0), .lit (.string [])]], []) := by kernel_rfl
  obtain ⟨⟨x1, x2, x3⟩, hx, hx1⟩ := Option.map_eq_some_iff.1 hw
  simp only [Prod.mk.injEq] at hx1
  obtain ⟨rfl, rfl⟩ := hx1
  exact OpenSpec.preRow_of_cond 8 hx (by kernel_rfl) (fun k hk => by cases hk) (by kernel_rfl) (laid_met os _)

set_option maxRecDepth 100000 in
/-- WHAT THE WALKS GIVE, FOR EVERY ARGUMENT AND EVERY WORLD THAT HOLDS THE TABLES. -/
theorem contract (H : Type) (enc : TypeId × Value → H) (W : World) (base : Nat) (args : Array Value) (ds gs : List (DataW H)) (before : List MemPlace)
    (hval : ∀ (j : Nat) t v, Tryd.f3.params[j]? = some t → args[j]? = some v → Value.okWide Tryd.prog W .any base t v)
    (hW : DataW.Whole enc Tryd.prog Tryd.f3.params.toList Rows.stairWalksSpec.vars false W args.toList ds gs before)
    (hsz0 : (DataW.weightsEach Tryd.prog (Tryd.f3.params.toList ++ (OpenSpec.ofChange Rows.stairWalksSpec).bare.plain.varTypes Tryd.prog) (ds ++ gs)).all (· ≤ reachBytes) = true)
    (hL : laidMetH Tryd.prog Rows.stairWalksRow.laid W) (hsh : W.ShapedOpen Tryd.prog) :
    Calls Tryd.prog 3 args W fun e W' => ∃ v, e = .returned v ∧ Rows.stairWalksSpec.post enc Tryd.prog Tryd.f3 false true false false W args v W' := by
  have hT := env_of hL hsh
  have hW' := hW
  obtain ⟨p, q, hA0, hV, rfl, hfz, hnd⟩ := hW
  have hA : DataW.TrodAll enc Tryd.prog W 0 (fun _ => true) true Tryd.f3.params.toList args.toList ds p := hA0
  rw [Tryd.params3] at hA hval hsz0
  obtain ⟨v0, v1, v2, v3, d0, d1, d2, d3, p0, p1, p2, p3, rfl, rfl, rfl, h0, h1, h2, h3⟩ := trodAll_four hA
  obtain ⟨rfl, rfl⟩ := trodVars_none hV
  have hlt : ∀ x ∈ p0 ++ p1 ++ p2 ++ p3, x.block < W.heap.size := fun x hx => by
    have := hW'.lt x (by simpa using hx)
    simpa using this
  clear hA0
  have key : Calls Tryd.prog 3 #[v0, v1, v2, v3] W fun e w' => e = .returned (.bool true) ∧ Below W.heap.size W w' := by
    obtain ⟨a0, len, cap, rfl⟩ := okWide_slice Tryd.underlying22 (hval 0 22 v0 rfl rfl)
    obtain ⟨a1, len1, cap1, rfl⟩ := okWide_slice Tryd.underlying23 (hval 1 23 v1 rfl rfl)
    obtain ⟨axis, rfl⟩ := okWide_int Tryd.underlying3 (hval 2 3 v2 rfl rfl)
    obtain ⟨tk, tn, rfl, htn⟩ := open_testv (hval 3 25 v3 rfl rfl) h3
    obtain ⟨fuel, hf0⟩ := h0
    have hf : DataW.trod enc Tryd.prog W 0 (fun _ => true) true fuel 22 [.slice a0 len cap] = some (d0, p0) := by simpa [Value.cells] using hf0
    obtain ⟨fuel1, hf1⟩ := h1
    have hf1' : DataW.trod enc Tryd.prog W 0 (fun _ => true) true fuel1 23 [.slice a1 len1 cap1] = some (d1, p1) := by simpa [Value.cells] using hf1
    obtain ⟨N, E, k1, k2, k3, k4⟩ := open_nodes hf
    obtain ⟨n, Z, q1, q2, q3⟩ := open_nums hf1'
    have hr : N * 64 ≤ 140737488351232 := by
      rcases Nat.eq_zero_or_pos N with hz | hz
      · omega
      · obtain ⟨els, sp, h5, h6⟩ := k3 hz
        have hr := sized_slice hsz0 (j := 0) (t := 22) (e := 43) (elems := els) (spare := sp) rfl (by simpa using h5) Tryd.underlying22
        rw [bytes42] at hr
        unfold reachBytes at hr
        omega
    have hr8 : n * 8 ≤ 140737488351232 := by
      rcases Nat.eq_zero_or_pos n with hz | hz
      · omega
      · obtain ⟨els, sp, h5, h6⟩ := q2 hz
        have hr := sized_slice hsz0 (j := 1) (t := 23) (e := 3) (elems := els) (spare := sp) rfl (by simpa using h5) Tryd.underlying23
        rw [show Tryd.prog.bytesOf 3 = 8 by kernel_rfl] at hr
        unfold reachBytes at hr
        omega
    exact walk _ _ N n E Z axis tk tn W k1 q1 k2 hT hr hr8 k4 q3 htn
  refine key.mono ?_
  rintro e W' ⟨rfl, bel⟩
  refine ⟨_, rfl, _, _, _, [], p0 ++ (p1 ++ (p2 ++ p3)), [], hW', ?_, ?_, ?_, bel.frame _, fun h => by cases h⟩
  · exact trodAll_mk1 (shut_bool Tryd.underlying4 _)
  · exact trodAll_mk4 (Below.trod laidOut (by kernel_rfl) (of_decide_eq_true (by kernel_rfl)) h0 bel (fun x hx => hlt x (by simp [hx]))) (Below.trod laidOut (by kernel_rfl) (of_decide_eq_true (by kernel_rfl)) h1 bel (fun x hx => hlt x (by simp [hx]))) (Below.trod laidOut (by kernel_rfl) (of_decide_eq_true (by kernel_rfl)) h2 bel (fun x hx => hlt x (by simp [hx]))) (Below.trod laidOut (by kernel_rfl) (of_decide_eq_true (by kernel_rfl)) h3 bel (fun x hx => hlt x (by simp [hx])))
  · rfl

set_option maxRecDepth 100000 in
theorem lifted (os : Os) (started : os.Started) (H : Type) (enc : TypeId × Value → H) (F : Stop.Interp) :
    ReturnsInHanded {} Tryd.checked os 3 .any ((OpenSpec.ofChange Rows.stairWalksSpec).preRow enc Tryd.prog Tryd.f3 Rows.stairWalksRow.domain false Rows.stairWalksRow.laid) (((OpenSpec.ofChange Rows.stairWalksSpec).at F).post enc Tryd.prog Tryd.f3 false true false false) := by
  refine returnsInHanded_of_row (C := Tryd.checked) (s := OpenSpec.ofChange Rows.stairWalksSpec) own started (by kernel_rfl) Tryd.func3
    (witness_row_atRef (enc := enc) (C := Tryd.checked) false (laidWorld os) #[.slice none 0 0, .slice none 0 0, .int .i64 0, .agg #[.int .i64 0, .string ByteArray.empty]] rfl (by kernel_rfl) (by kernel_rfl) (by kernel_rfl) (witness_row os enc)) ?_
  intro W base args ds gs before hval hW _ _ hsz hL hsh _
  exact contract H enc W base args ds gs before hval hW hsz hL hsh

theorem and2 {a b : Bool} (h : a = true) (h' : b = true) : (a && b) = true := by rw [h, h']; rfl
set_option maxHeartbeats 8000000 in
/-- the row's closed facts, each apart -/
theorem closed : joinedFacts Tryd.pinned.checked.prog 3 Tryd.f3 (OpenSpec.ofChange Rows.stairWalksSpec).bare Rows.stairWalksRow = true := by
  unfold joinedFacts
  refine and2 (and2 (and2 (and2 (and2 (and2 (and2 (and2 (and2 (and2 (and2 (and2 (and2 (and2 (and2 (and2 (and2 (and2 (and2 (and2 (and2 (and2 (and2 (and2 (and2 (and2 (and2 (and2 (and2 (and2 (and2 ?_ ?_) ?_) ?_) ?_) ?_) ?_) ?_) ?_) ?_) ?_) ?_) ?_) ?_) ?_) ?_) ?_) ?_) ?_) ?_) ?_) ?_) ?_) ?_) ?_) ?_) ?_) ?_) ?_) ?_) ?_) ?_
  all_goals (as_aux_lemma => kernel_rfl)
set_option maxHeartbeats 8000000 in
theorem said : Rows.StairWalksSaid :=
  OpenClaim.holds_of_cond 3 Tryd.f3 rfl rfl rfl rfl rfl rfl rfl ⟨rfl, rfl, rfl, rfl, rfl⟩ rfl rfl rfl rfl rfl (by as_aux_lemma => kernel_rfl) Tryd.func3 closed
    (of_decide_eq_true (by as_aux_lemma => kernel_rfl)) (by unfold Func.isWrapper; first | (rw [if_pos (by decide +kernel)]; kernel_rfl) | (rw [if_neg (by decide +kernel)]; exact ⟨rfl, rfl⟩))
    (fun os started H enc _ F => by rw [OpenClaim.pre_eq_preRow]; exact lifted os started H enc F)

/-- No parameter wants a stand-in; the program's own looks are off: what the card asks. -/
theorem plain (f : FuncId) (fn : Func) (hf : Tryd.pinned.checked.prog.funcNamed "pleacher/pleacherlaw.StairWalks" = some f) (hfn : Tryd.pinned.checked.prog.funcs[f]? = some fn) :
    false = Tryd.pinned.checked.prog.looks [] ∧ ∀ (j : Nat) t, fn.params[j]? = some t → Tryd.pinned.checked.prog.wantsStandIn t = false := by
  obtain rfl : f = 3 := Option.some.inj ((show Tryd.prog.funcNamed "pleacher/pleacherlaw.StairWalks" = some 3 by kernel_rfl).symm.trans hf) |>.symm
  obtain rfl : fn = Tryd.f3 := (Option.some.inj (Tryd.func3.symm.trans hfn)).symm
  refine ⟨by kernel_rfl, fun j t ht => ?_⟩
  rw [Tryd.params3] at ht
  have ht' : t = 22 ∨ t = 23 ∨ t = 3 ∨ t = 25 := by
    have h := Array.mem_of_getElem? ht
    simp at h
    first | omega | exact h | (rcases h with h | h | h | h <;> first | exact .inl h | exact .inr (.inl h) | exact .inr (.inr h)) | (rcases h with h | h | h <;> first | exact .inl h | exact .inr (.inl h) | exact .inr (.inr h))
  rcases ht' with rfl | rfl | rfl | rfl
  · exact (show Tryd.prog.wantsStandIn 22 = false by kernel_rfl)
  · exact (show Tryd.prog.wantsStandIn 23 = false by kernel_rfl)
  · exact (show Tryd.prog.wantsStandIn 3 = false by kernel_rfl)
  · exact (show Tryd.prog.wantsStandIn 25 = false by kernel_rfl)
end Go.Proofs.YtnfljohddpadhaaDoor.stairWalks
namespace Go.Proofs.YtnfljohddpadhaaDoor
set_option maxHeartbeats 8000000 in
/-- StairWalks holds: the card. -/
theorem stairWalks_card : Rows.StairWalksCardSaid :=
  Claim7.holds_tied_plain_at .later [] _ _ _ _ stairWalks.said (fun _ h => by cases h) (by as_aux_lemma => kernel_rfl) (fun _ h => by cases h) stairWalks_row_tie rfl ⟨rfl, rfl⟩ (by as_aux_lemma => kernel_rfl) rfl stairWalks.plain (by as_aux_lemma => kernel_rfl)
#print axioms stairWalks_card
end Go.Proofs.YtnfljohddpadhaaDoor
