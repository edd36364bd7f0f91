/-
  PROVED HERE: for every relation r, the Go law RelChecks of package pleacherlaw returns true: the program's Check answers what the document's answer of P3.2 asks, and the argument reads behind the call as it read before. Conditions: the two tables of unicode/utf8 hold what the program's text lays (the card ties them); none of my own.
-/
import Derived.Test.YtmmkodmhgegknaaDoorCards
import Derived.Test.YtmmkodmhgegknaaDoorLaidS
import Derived.Test.YtmmkodmhgegknaaDoorRlFault
import Derived.Test.YtmmkodmhgegknaaDoorRlRels
import Derived.WalkKit
import Derived.ProofKit
import Derived.OpenShut
import Derived.Carry
import Derived.Deep.DeepHandedRow
import Derived.Deep.DeepWitnessRowRef
import Derived.SizedLaws
set_option linter.unusedVariables false
namespace Go.Proofs.YtmmkodmhgegknaaDoor.relChecks
open Go.ChangeShapes Go.WideShapes Go.ChangeAt Go.RowKit

theorem own : ownKnob Tryd.prog.godebug = none := by kernel_rfl
theorem laidOut : laidOutB Tryd.prog = true := by kernel_rfl

set_option maxHeartbeats 800000 in
theorem walk (c q : Value) (n m : Nat) (C : Nat → ByteArray) (R : Nat → Row) (w : World) (hc : StrsIs w c n C) (hq : RowsIs w q m R) (hf : StrsFine n C) (hg : RowsFine m R) (hT : Tabs w) :
    Calls Tryd.prog 4 #[.agg #[c, q]] w fun e w' => e = .returned (.bool true) ∧ Below w.heap.size w w' := by
  have HB : Hid (∀ o, Below w.heap.size w (w.alloc o)) := fun o => (Below.refl _ _).alloc (Nat.le_refl _) _
  have C1 : Hid (∀ W, Below w.heap.size w W → Calls Tryd.prog 8 #[.agg #[c, q]] W fun e w' => ∃ c' q', e = .returned (.agg #[c', q']) ∧ StrsIs w' c' n C ∧ RowsIs w' q' m R ∧ Below W.heap.size W w') := fun W hW => rels_is c q n m C R W (hc.below hW) (hq.below hW) hf hg
  have C2 : Hid (∀ W c' q', Below w.heap.size w W → StrsIs W c' n C → RowsIs W q' m R → Calls Tryd.prog 7 #[.agg #[c', q']] W fun e w' => e = .returned (.int .i64 (relF C n R m)) ∧ Below W.heap.size W w') := fun W c' q' hW h1 h2 => relCheck_is c' q' n m C R W h1 h2 hf hg (Utf8Tabs_below hT hW)
  have C3 : Hid (∀ W, Below w.heap.size w W → Calls Tryd.prog 9 #[.agg #[c, q]] W fun e w' => e = .returned (.int .i64 (relF C n R m)) ∧ Below W.heap.size W w') := fun W hW => relFault_is c q n m C R W (hc.below hW) (hq.below hW) hf hg (Utf8Tabs_below hT hW)
  obtain ⟨ca, ccap, rfl, _⟩ := hc
  obtain ⟨qa, qcap, rfl, _⟩ := hq
  clear hT hf hg
  generalize relF C n R m = F at *
  go_enter Tryd.func4, Tryd.ntmps4
  go_wp2_with (first | (go_at_call 8; refine (C1.out _ (HB.out _)).mono ?_; rintro e w1 ⟨c', q', rfl, hs1, hr1, hb1⟩; have HS1 : Hid (StrsIs w1 c' n C) := hs1; have HR1 : Hid (RowsIs w1 q' m R) := hr1; have HB1 : Hid (Below w.heap.size w w1) := (HB.out _).trans (hb1.mono (by simp)); obtain ⟨x0, x1, x2⟩ := box2 hb1; clear hs1 hr1 hb1) |
    (go_at_call 7; refine (C2.out _ _ _ HB1.out HS1.out HR1.out).mono ?_; rintro e w2 ⟨rfl, hb2⟩; have HB2 : Hid (Below w.heap.size w w2) := HB1.out.trans (hb2.mono HB1.out.size); obtain ⟨k3, k4⟩ := bcell hb2; clear hb2) |
    (go_at_call 9; refine (C3.out _ HB2.out).mono ?_; rintro e w3 ⟨rfl, hb3⟩))
  go_ret
  exact ⟨ret_bool (by simp), HB2.out.trans (hb3.mono HB2.out.size)⟩

theorem env_of {W : World} (hL : laidMetH Tryd.prog Rows.relChecksRow.laid W) (hsh : W.ShapedOpen Tryd.prog) : Tabs W := by
  rw [MakeChecks.laidMetH_plain _ _ _ (by kernel_rfl)] at hL
  exact tabs_of hL (.tail _ (.head _)) (.head _)

theorem laid_met (os : Os) (args : Array Value) : laidMet Tryd.prog Rows.relChecksRow.laid ((laidWorld os).forCall (fun _ _ => 0) ⟨#[], args, []⟩).memory :=
  (LaidIn.of_run (l := Rows.relChecksRow.laid) [Tryd.laysValid_ren.g 4, Tryd.laysValid_ren.g 3] 8 (by kernel_rfl) (by kernel_rfl) (by kernel_rfl) (by kernel_rfl)).met
theorem witness_row (os : Os) {H : Type} (enc : TypeId × Value → H) :
    (OpenSpec.ofChange Rows.relChecksSpec).preRow enc Tryd.prog Tryd.f4 Rows.relChecksRow.domain false Rows.relChecksRow.laid ((laidWorld os).forCall (fun _ _ => 0) ⟨#[], #[.agg #[.slice none 0 0, .slice none 0 0]], []⟩).memory #[.agg #[.slice none 0 0, .slice none 0 0]] := by
  have hw : (DataW.whole enc Tryd.prog ((laidWorld os).forCall (fun _ _ => 0) ⟨#[], #[.agg #[.slice none 0 0, .slice none 0 0]], []⟩).memory Tryd.f4.params.toList (OpenSpec.ofChange Rows.relChecksSpec).vars false (#[.agg #[.slice none 0 0, .slice none 0 0]] : Array Value).toList 8).map (fun x => (x.1, x.2.1)) =
      some ([.agg [.nil, .nil]], []) := by kernel_rfl
  obtain ⟨⟨x1, x2, x3⟩, hx, hx1⟩ := Option.map_eq_some_iff.1 hw
  simp only [Prod.mk.injEq] at hx1
  obtain ⟨rfl, rfl⟩ := hx1
  exact OpenSpec.preRow_of_cond 8 hx (by kernel_rfl) (fun k hk => by cases hk) (by kernel_rfl) (laid_met os _)

set_option maxRecDepth 100000 in
/-- WHAT THE WALKS GIVE, FOR EVERY ARGUMENT AND EVERY WORLD THAT HOLDS THE TABLES. -/
theorem contract (H : Type) (enc : TypeId × Value → H) (W : World) (base : Nat) (args : Array Value) (ds gs : List (DataW H)) (before : List MemPlace)
    (hval : ∀ (j : Nat) t v, Tryd.f4.params[j]? = some t → args[j]? = some v → Value.okWide Tryd.prog W .any base t v)
    (hW : DataW.Whole enc Tryd.prog Tryd.f4.params.toList Rows.relChecksSpec.vars false W args.toList ds gs before)
    (hsz0 : (DataW.weightsEach Tryd.prog (Tryd.f4.params.toList ++ (OpenSpec.ofChange Rows.relChecksSpec).bare.plain.varTypes Tryd.prog) (ds ++ gs)).all (· ≤ reachBytes) = true)
    (hL : laidMetH Tryd.prog Rows.relChecksRow.laid W) (hsh : W.ShapedOpen Tryd.prog) :
    Calls Tryd.prog 4 args W fun e W' => ∃ v, e = .returned v ∧ Rows.relChecksSpec.post enc Tryd.prog Tryd.f4 false true false false W args v W' := by
  have hT := env_of hL hsh
  have hW' := hW
  obtain ⟨p, q, hA0, hV, rfl, hfz, hnd⟩ := hW
  have hA : DataW.TrodAll enc Tryd.prog W 0 (fun _ => true) true Tryd.f4.params.toList args.toList ds p := hA0
  rw [Tryd.params4] at hA hval hsz0
  obtain ⟨v0, d0, rfl, rfl, h0⟩ := trodAll_one hA
  obtain ⟨rfl, rfl⟩ := trodVars_none hV
  have hlt : ∀ x ∈ p, x.block < W.heap.size := fun x hx => by
    have := hW'.lt x (by simpa using hx)
    simpa using this
  clear hA0
  have key : Calls Tryd.prog 4 #[v0] W fun e w' => e = .returned (.bool true) ∧ Below W.heap.size W w' := by
    obtain ⟨c, q, n, m, C, R, rfl, k1, k2, k3, k4⟩ := open_rel (hval 0 30 v0 rfl rfl) h0 (weights_at hsz0 (j := 0) rfl rfl)
    exact walk c q n m C R W k1 k2 k3 k4 hT
  refine key.mono ?_
  rintro e W' ⟨rfl, bel⟩
  refine ⟨_, rfl, _, _, _, [], p, [], hW', ?_, ?_, ?_, bel.frame _, fun h => by cases h⟩
  · exact trodAll_mk1 (shut_bool Tryd.underlying4 _)
  · exact trodAll_mk1 (Below.trod laidOut (by kernel_rfl) (of_decide_eq_true (by kernel_rfl)) h0 bel (fun x hx => hlt x (by simp [hx])))
  · rfl

set_option maxRecDepth 100000 in
theorem lifted (os : Os) (started : os.Started) (H : Type) (enc : TypeId × Value → H) (F : Stop.Interp) :
    ReturnsInHanded {} Tryd.checked os 4 .any ((OpenSpec.ofChange Rows.relChecksSpec).preRow enc Tryd.prog Tryd.f4 Rows.relChecksRow.domain false Rows.relChecksRow.laid) (((OpenSpec.ofChange Rows.relChecksSpec).at F).post enc Tryd.prog Tryd.f4 false true false false) := by
  refine returnsInHanded_of_row (C := Tryd.checked) (s := OpenSpec.ofChange Rows.relChecksSpec) own started (by kernel_rfl) Tryd.func4
    (witness_row_atRef (enc := enc) (C := Tryd.checked) false (laidWorld os) #[.agg #[.slice none 0 0, .slice none 0 0]] rfl (by kernel_rfl) (by kernel_rfl) (by kernel_rfl) (witness_row os enc)) ?_
  intro W base args ds gs before hval hW _ _ hsz hL hsh _
  exact contract H enc W base args ds gs before hval hW hsz hL hsh

theorem and2 {a b : Bool} (h : a = true) (h' : b = true) : (a && b) = true := by rw [h, h']; rfl
set_option maxHeartbeats 8000000 in
/-- the row's closed facts, each apart -/
theorem closed : joinedFacts Tryd.pinned.checked.prog 4 Tryd.f4 (OpenSpec.ofChange Rows.relChecksSpec).bare Rows.relChecksRow = true := by
  unfold joinedFacts
  refine and2 (and2 (and2 (and2 (and2 (and2 (and2 (and2 (and2 (and2 (and2 (and2 (and2 (and2 (and2 (and2 (and2 (and2 (and2 (and2 (and2 (and2 (and2 (and2 (and2 (and2 (and2 (and2 (and2 (and2 (and2 ?_ ?_) ?_) ?_) ?_) ?_) ?_) ?_) ?_) ?_) ?_) ?_) ?_) ?_) ?_) ?_) ?_) ?_) ?_) ?_) ?_) ?_) ?_) ?_) ?_) ?_) ?_) ?_) ?_) ?_) ?_) ?_
  all_goals (as_aux_lemma => kernel_rfl)
set_option maxHeartbeats 8000000 in
theorem said : Rows.RelChecksSaid :=
  OpenClaim.holds_of_cond 4 Tryd.f4 rfl rfl rfl rfl rfl rfl rfl ⟨rfl, rfl, rfl, rfl, rfl⟩ rfl rfl rfl rfl rfl (by as_aux_lemma => kernel_rfl) Tryd.func4 closed
    (of_decide_eq_true (by as_aux_lemma => kernel_rfl)) (by unfold Func.isWrapper; first | (rw [if_pos (by decide +kernel)]; kernel_rfl) | (rw [if_neg (by decide +kernel)]; exact ⟨rfl, rfl⟩))
    (fun os started H enc _ F => by rw [OpenClaim.pre_eq_preRow]; exact lifted os started H enc F)

/-- No parameter wants a stand-in; the program's own looks are off: what the card asks. -/
theorem plain (f : FuncId) (fn : Func) (hf : Tryd.pinned.checked.prog.funcNamed "pleacher/pleacherlaw.RelChecks" = some f) (hfn : Tryd.pinned.checked.prog.funcs[f]? = some fn) :
    false = Tryd.pinned.checked.prog.looks [] ∧ ∀ (j : Nat) t, fn.params[j]? = some t → Tryd.pinned.checked.prog.wantsStandIn t = false := by
  obtain rfl : f = 4 := Option.some.inj ((show Tryd.prog.funcNamed "pleacher/pleacherlaw.RelChecks" = some 4 by kernel_rfl).symm.trans hf) |>.symm
  obtain rfl : fn = Tryd.f4 := (Option.some.inj (Tryd.func4.symm.trans hfn)).symm
  refine ⟨by kernel_rfl, fun j t ht => ?_⟩
  rw [Tryd.params4] at ht
  obtain rfl : t = 30 := by simpa using Array.mem_of_getElem? ht
  exact (show Tryd.prog.wantsStandIn 30 = false by kernel_rfl)
end Go.Proofs.YtmmkodmhgegknaaDoor.relChecks
namespace Go.Proofs.YtmmkodmhgegknaaDoor
set_option maxHeartbeats 8000000 in
/-- RelChecks holds: the card. -/
theorem relChecks_card : Rows.RelChecksCardSaid :=
  Claim7.holds_tied_plain_at .later [] _ _ _ _ relChecks.said (fun _ h => by cases h) (by as_aux_lemma => kernel_rfl) (fun _ h => by cases h) relChecks_row_tie rfl ⟨rfl, rfl⟩ (by as_aux_lemma => kernel_rfl) rfl relChecks.plain (by as_aux_lemma => kernel_rfl)
#print axioms relChecks_card
end Go.Proofs.YtmmkodmhgegknaaDoor
