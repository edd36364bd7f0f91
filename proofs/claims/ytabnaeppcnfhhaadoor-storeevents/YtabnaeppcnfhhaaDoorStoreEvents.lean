/-
  PROVED HERE: for every list of nodes l and every number n, the Go law StoreEvents of package pleacherlaw returns true: the program's Events answers what the document's answer of P2.6 asks (the events, the error), and the arguments read behind the call as they read before. Conditions: the two tables of unicode/utf8 hold what the program's text lays (the card ties them); none of my own.
-/
import Derived.Test.YtabnaeppcnfhhaaDoorCards
import Derived.Test.YtabnaeppcnfhhaaDoorLaidS
import Derived.Test.YtabnaeppcnfhhaaDoorEtTop
import Derived.Test.YtabnaeppcnfhhaaDoorNdOpen
import Derived.WalkKit
import Derived.ProofKit
import Derived.OpenShut
import Derived.Carry
import Derived.Deep.DeepHandedRow
import Derived.Deep.DeepWitnessRowRef
import Derived.SizedLaws
set_option linter.unusedVariables false
namespace Go.Proofs.YtabnaeppcnfhhaaDoor.storeEvents
open Go.ChangeShapes Go.WideShapes Go.ChangeAt Go.RowKit

theorem own : ownKnob Tryd.prog.godebug = none := by kernel_rfl
theorem laidOut : laidOutB Tryd.prog = true := by kernel_rfl

set_option maxHeartbeats 800000 in
theorem walk (v : Value) (n : Nat) (i : Int) (E : Nat → Nd) (w : World) (hv : NdsIs w v n E) (hf : NdsFine n E) (hT : Tabs w) (hreach : n * 64 ≤ 140737488351232) (hnil : ∀ c, v = .slice none 0 c → c = 0) :
    Calls Tryd.prog 3 #[v, .int .i64 i] w fun e w' => e = .returned (.bool true) ∧ Below w.heap.size w w' := by
  have CN : Hid (Calls Tryd.prog 5 #[v] w fun e w' => ∃ v', e = .returned v' ∧ NdsIs w' v' n E ∧ Below w.heap.size w w') := nodes_is v n E w hv hreach hnil
  have CC : Hid (∀ W u, Below w.heap.size w W → NdsIs W u n E → Calls Tryd.prog 4 #[u, .int .i64 i] W fun e w' => ∃ u, e = .returned (.tuple #[u, .int .i64 (atF E n i)]) ∧ EvRow w' W.heap.size u (evT E n i) ∧ Below W.heap.size W w') :=
    fun W u hb hu => events_is u n i E W hu (Utf8Tabs_below hT hb) hf
  have CF : Hid (∀ W, Below w.heap.size w W → Calls Tryd.prog 6 #[v, .int .i64 i] W fun e w' => ∃ u, e = .returned (.tuple #[u, .int .i64 (atF E n i)]) ∧ EvRow w' W.heap.size u (evT E n i) ∧ Below W.heap.size W w') :=
    fun W hb => eventsOf_is v n i E W (hv.below hb) (Utf8Tabs_below hT hb) hf
  have CS : Hid (∀ W u v b b', EvRow W b u (evT E n i) → EvRow W b' v (evT E n i) → Calls Tryd.prog 7 #[u, v] W fun e w' => e = .returned (.bool true) ∧ Below W.heap.size W w') := fun W u v b b' h1 h2 => sameEvents_is u v b b' _ W h1 h2
  obtain ⟨a, cap, rfl, _⟩ := hv
  clear hT hf hnil
  generalize atF E n i = R at *
  generalize evT E n i = L at *
  go_enter Tryd.func3, Tryd.ntmps3
  go_wp2_with (first
    | (go_at_call 5; refine CN.out.mono ?_; rintro e w1 ⟨u, rfl, hu0, hb0⟩; have HU : Hid (NdsIs w1 u n E) := hu0; have HB0 : Hid (Below w.heap.size w w1) := hb0; obtain ⟨ua, uc, rfl, _⟩ := hu0; clear hb0)
    | (go_at_call 4; refine (CC.out _ _ HB0.out HU.out).mono ?_; rintro e w2 ⟨v2, rfl, hr2, hb2⟩; have HR2 : Hid (EvRow w2 w1.heap.size v2 L) := hr2; have HB2 : Hid (Below w.heap.size w w2) := HB0.out.trans (hb2.mono HB0.out.size); clear hr2 hb2)
    | (go_at_call 6; refine (CF.out _ HB2.out).mono ?_; rintro e w3 ⟨v3, rfl, hr3, hb3⟩; have HR3 : Hid (EvRow w3 w2.heap.size v3 L) := hr3; have HR4 : Hid (EvRow w3 w1.heap.size v2 L) := HR2.out.below hb3; have HB3 : Hid (Below w.heap.size w w3) := HB2.out.trans (hb3.mono HB2.out.size); clear hr3 hb3)
    | (go_at_call 7; refine (CS.out _ _ _ _ _ HR4.out HR3.out).mono ?_; rintro e w4 ⟨rfl, hb4⟩; have HB4 : Hid (Below w.heap.size w w4) := HB3.out.trans (hb4.mono HB3.out.size); clear hb4))
  go_ret
  exact ⟨rfl, HB4.out⟩

theorem env_of {W : World} (hL : laidMetH Tryd.prog Rows.storeEventsRow.laid W) (hsh : W.ShapedOpen Tryd.prog) : Tabs W := by
  rw [MakeChecks.laidMetH_plain _ _ _ (by kernel_rfl)] at hL
  exact tabs_of hL (.tail _ (.head _)) (.head _)

theorem laid_met (os : Os) (args : Array Value) : laidMet Tryd.prog Rows.storeEventsRow.laid ((laidWorld os).forCall (fun _ _ => 0) ⟨#[], args, []⟩).memory :=
  (LaidIn.of_run (l := Rows.storeEventsRow.laid) [Tryd.laysValid_ren.g 4, Tryd.laysValid_ren.g 3] 8 (by kernel_rfl) (by kernel_rfl) (by kernel_rfl) (by kernel_rfl)).met
theorem witness_row (os : Os) {H : Type} (enc : TypeId × Value → H) :
    (OpenSpec.ofChange Rows.storeEventsSpec).preRow enc Tryd.prog Tryd.f3 Rows.storeEventsRow.domain false Rows.storeEventsRow.laid ((laidWorld os).forCall (fun _ _ => 0) ⟨#[], #[.slice none 0 0, .int .i64 0], []⟩).memory #[.slice none 0 0, .int .i64 0] := by
  have hw : (DataW.whole enc Tryd.prog ((laidWorld os).forCall (fun _ _ => 0) ⟨#[], #[.slice none 0 0, .int .i64 0], []⟩).memory Tryd.f3.params.toList (OpenSpec.ofChange Rows.storeEventsSpec).vars false (#[.slice none 0 0, .int .i64 0] : Array Value).toList 8).map (fun x => (x.1, x.2.1)) =
      some ([.nil, .lit (.int .i64 0)], []) := by kernel_rfl
  obtain ⟨⟨x1, x2, x3⟩, hx, hx1⟩ := Option.map_eq_some_iff.1 hw
  simp only [Prod.mk.injEq] at hx1
  obtain ⟨rfl, rfl⟩ := hx1
  exact OpenSpec.preRow_of_cond 8 hx (by kernel_rfl) (fun k hk => by cases hk) (by kernel_rfl) (laid_met os _)

set_option maxRecDepth 100000 in
/-- WHAT THE WALKS GIVE, FOR EVERY ARGUMENT AND EVERY WORLD THAT HOLDS THE TABLES. -/
theorem contract (H : Type) (enc : TypeId × Value → H) (W : World) (base : Nat) (args : Array Value) (ds gs : List (DataW H)) (before : List MemPlace)
    (hval : ∀ (j : Nat) t v, Tryd.f3.params[j]? = some t → args[j]? = some v → Value.okWide Tryd.prog W .any base t v)
    (hW : DataW.Whole enc Tryd.prog Tryd.f3.params.toList Rows.storeEventsSpec.vars false W args.toList ds gs before)
    (hsz0 : (DataW.weightsEach Tryd.prog (Tryd.f3.params.toList ++ (OpenSpec.ofChange Rows.storeEventsSpec).bare.plain.varTypes Tryd.prog) (ds ++ gs)).all (· ≤ reachBytes) = true)
    (hL : laidMetH Tryd.prog Rows.storeEventsRow.laid W) (hsh : W.ShapedOpen Tryd.prog) :
    Calls Tryd.prog 3 args W fun e W' => ∃ v, e = .returned v ∧ Rows.storeEventsSpec.post enc Tryd.prog Tryd.f3 false true false false W args v W' := by
  have hT := env_of hL hsh
  have hW' := hW
  obtain ⟨p, q, hA0, hV, rfl, hfz, hnd⟩ := hW
  have hA : DataW.TrodAll enc Tryd.prog W 0 (fun _ => true) true Tryd.f3.params.toList args.toList ds p := hA0
  rw [Tryd.params3] at hA hval hsz0
  obtain ⟨v0, v1, d0, d1, p0, p1, rfl, rfl, rfl, h0, h1⟩ := trodAll_two hA
  obtain ⟨rfl, rfl⟩ := trodVars_none hV
  have hlt : ∀ x ∈ p0 ++ p1, x.block < W.heap.size := fun x hx => by
    have := hW'.lt x (by simpa using hx)
    simpa using this
  clear hA0
  have key : Calls Tryd.prog 3 #[v0, v1] W fun e w' => e = .returned (.bool true) ∧ Below W.heap.size W w' := by
    obtain ⟨a0, len, cap, rfl⟩ := okWide_slice Tryd.underlying22 (hval 0 22 v0 rfl rfl)
    obtain ⟨i, rfl⟩ := okWide_int Tryd.underlying3 (hval 1 3 v1 rfl rfl)
    obtain ⟨fuel, hf0⟩ := h0
    have hf : DataW.trod enc Tryd.prog W 0 (fun _ => true) true fuel 22 [.slice a0 len cap] = some (d0, p0) := by simpa [Value.cells] using hf0
    obtain ⟨n, E, k1, k2, k3, k4⟩ := open_nodes hf
    refine walk _ n i E W k1 k2 hT ?_ k4
    rcases Nat.eq_zero_or_pos n with hz | hz
    · omega
    · obtain ⟨els, sp, h5, h6⟩ := k3 hz
      have hr := sized_slice hsz0 (j := 0) (t := 22) (e := 32) (elems := els) (spare := sp) rfl (by simpa using h5) Tryd.underlying22
      rw [bytes42] at hr
      unfold reachBytes at hr
      omega
  refine key.mono ?_
  rintro e W' ⟨rfl, bel⟩
  refine ⟨_, rfl, _, _, _, [], p0 ++ p1, [], hW', ?_, ?_, ?_, bel.frame _, fun h => by cases h⟩
  · exact trodAll_mk1 (shut_bool Tryd.underlying4 _)
  · exact trodAll_mk2 (Below.trod laidOut (by kernel_rfl) (of_decide_eq_true (by kernel_rfl)) h0 bel (fun x hx => hlt x (by simp [hx]))) (Below.trod laidOut (by kernel_rfl) (of_decide_eq_true (by kernel_rfl)) h1 bel (fun x hx => hlt x (by simp [hx])))
  · rfl

set_option maxRecDepth 100000 in
theorem lifted (os : Os) (started : os.Started) (H : Type) (enc : TypeId × Value → H) (F : Stop.Interp) :
    ReturnsInHanded {} Tryd.checked os 3 .any ((OpenSpec.ofChange Rows.storeEventsSpec).preRow enc Tryd.prog Tryd.f3 Rows.storeEventsRow.domain false Rows.storeEventsRow.laid) (((OpenSpec.ofChange Rows.storeEventsSpec).at F).post enc Tryd.prog Tryd.f3 false true false false) := by
  refine returnsInHanded_of_row (C := Tryd.checked) (s := OpenSpec.ofChange Rows.storeEventsSpec) own started (by kernel_rfl) Tryd.func3
    (witness_row_atRef (enc := enc) (C := Tryd.checked) false (laidWorld os) #[.slice none 0 0, .int .i64 0] rfl (by kernel_rfl) (by kernel_rfl) (by kernel_rfl) (witness_row os enc)) ?_
  intro W base args ds gs before hval hW _ _ hsz hL hsh _
  exact contract H enc W base args ds gs before hval hW hsz hL hsh

theorem and2 {a b : Bool} (h : a = true) (h' : b = true) : (a && b) = true := by rw [h, h']; rfl
set_option maxHeartbeats 8000000 in
/-- the row's closed facts, each apart -/
theorem closed : joinedFacts Tryd.pinned.checked.prog 3 Tryd.f3 (OpenSpec.ofChange Rows.storeEventsSpec).bare Rows.storeEventsRow = true := by
  unfold joinedFacts
  refine and2 (and2 (and2 (and2 (and2 (and2 (and2 (and2 (and2 (and2 (and2 (and2 (and2 (and2 (and2 (and2 (and2 (and2 (and2 (and2 (and2 (and2 (and2 (and2 (and2 (and2 (and2 (and2 (and2 (and2 (and2 ?_ ?_) ?_) ?_) ?_) ?_) ?_) ?_) ?_) ?_) ?_) ?_) ?_) ?_) ?_) ?_) ?_) ?_) ?_) ?_) ?_) ?_) ?_) ?_) ?_) ?_) ?_) ?_) ?_) ?_) ?_) ?_
  all_goals (as_aux_lemma => kernel_rfl)
set_option maxHeartbeats 8000000 in
theorem said : Rows.StoreEventsSaid :=
  OpenClaim.holds_of_cond 3 Tryd.f3 rfl rfl rfl rfl rfl rfl rfl ⟨rfl, rfl, rfl, rfl, rfl⟩ rfl rfl rfl rfl rfl (by as_aux_lemma => kernel_rfl) Tryd.func3 closed
    (of_decide_eq_true (by as_aux_lemma => kernel_rfl)) (by unfold Func.isWrapper; first | (rw [if_pos (by decide +kernel)]; kernel_rfl) | (rw [if_neg (by decide +kernel)]; exact ⟨rfl, rfl⟩))
    (fun os started H enc _ F => by rw [OpenClaim.pre_eq_preRow]; exact lifted os started H enc F)

/-- No parameter wants a stand-in; the program's own looks are off: what the card asks. -/
theorem plain (f : FuncId) (fn : Func) (hf : Tryd.pinned.checked.prog.funcNamed "pleacher/pleacherlaw.StoreEvents" = some f) (hfn : Tryd.pinned.checked.prog.funcs[f]? = some fn) :
    false = Tryd.pinned.checked.prog.looks [] ∧ ∀ (j : Nat) t, fn.params[j]? = some t → Tryd.pinned.checked.prog.wantsStandIn t = false := by
  obtain rfl : f = 3 := Option.some.inj ((show Tryd.prog.funcNamed "pleacher/pleacherlaw.StoreEvents" = some 3 by kernel_rfl).symm.trans hf) |>.symm
  obtain rfl : fn = Tryd.f3 := (Option.some.inj (Tryd.func3.symm.trans hfn)).symm
  refine ⟨by kernel_rfl, fun j t ht => ?_⟩
  rw [Tryd.params3] at ht
  have ht' : t = 22 ∨ t = 3 := by
    have h := Array.mem_of_getElem? ht
    simp at h
    omega
  rcases ht' with rfl | rfl
  · exact (show Tryd.prog.wantsStandIn 22 = false by kernel_rfl)
  · exact (show Tryd.prog.wantsStandIn 3 = false by kernel_rfl)
end Go.Proofs.YtabnaeppcnfhhaaDoor.storeEvents
namespace Go.Proofs.YtabnaeppcnfhhaaDoor
set_option maxHeartbeats 8000000 in
/-- StoreEvents holds: the card. -/
theorem storeEvents_card : Rows.StoreEventsCardSaid :=
  Claim7.holds_tied_plain_at .later [] _ _ _ _ storeEvents.said (fun _ h => by cases h) (by as_aux_lemma => kernel_rfl) (fun _ h => by cases h) storeEvents_row_tie rfl ⟨rfl, rfl⟩ (by as_aux_lemma => kernel_rfl) rfl storeEvents.plain (by as_aux_lemma => kernel_rfl)
#print axioms storeEvents_card
end Go.Proofs.YtabnaeppcnfhhaaDoor
