/-
  PROVED HERE: for every list of nodes l, the Go law StoreChecks of package pleacherlaw returns true: the program's Check answers what the document's answer of P2.2 asks, and the argument reads behind the call as it read before. Conditions: the two tables of unicode/utf8 hold what the program's text lays (the card ties them); none of my own.
-/
import Derived.Test.YtpccfjoklinaiaaDoorCards
import Derived.Test.YtpccfjoklinaiaaDoorLaidS
import Derived.Test.YtpccfjoklinaiaaDoorNdOpen
import Derived.WalkKit
import Derived.ProofKit
import Derived.OpenShut
import Derived.Deep.DeepHandedRow
import Derived.Deep.DeepWitnessRowRef
import Derived.SizedLaws
set_option linter.unusedVariables false
namespace Go.Proofs.YtpccfjoklinaiaaDoor.storeChecks
open Go.ChangeShapes Go.WideShapes Go.ChangeAt Go.RowKit

theorem own : ownKnob Tryd.prog.godebug = none := by kernel_rfl
theorem laidOut : laidOutB Tryd.prog = true := by kernel_rfl

set_option maxHeartbeats 400000 in
theorem walk (v : Value) (n : Nat) (E : Nat → Nd) (w : World) (hv : NdsIs w v n E) (hf : NdsFine n E) (hT : Tabs w) (hreach : n * 64 ≤ 140737488351232) (hnil : ∀ c, v = .slice none 0 c → c = 0) :
    Calls Tryd.prog 4 #[v] w fun e w' => e = .returned (.bool true) ∧ Below w.heap.size w w' := by
  have CN : Hid (Calls Tryd.prog 12 #[v] w fun e w' => ∃ v', e = .returned v' ∧ NdsIs w' v' n E ∧ Below w.heap.size w w') := nodes_is v n E w hv hreach hnil
  have CC : Hid (∀ W u, Below w.heap.size w W → NdsIs W u n E → Calls Tryd.prog 11 #[u] W fun e w' => e = .returned (.int .i64 (nodesF E n)) ∧ Below W.heap.size W w') :=
    fun W u hb hu => storeCheck_is u n E W hu (Utf8Tabs_below hT hb) hf
  have CF : Hid (∀ W, Below w.heap.size w W → Calls Tryd.prog 13 #[v] W fun e w' => e = .returned (.int .i64 (nodesF E n)) ∧ Below W.heap.size W w') :=
    fun W hb => nodesFault_is v n E W (hv.below hb) (Utf8Tabs_below hT hb) hf
  have HI : Hid (NdsIs w v n E) := hv
  obtain ⟨a, cap, rfl, _⟩ := hv
  clear hT hf hnil
  generalize nodesF E n = R at *
  go_enter Tryd.func4, Tryd.ntmps4
  go_wp2_with (first | (go_at_call 12; refine CN.out.mono ?_; rintro e w1 ⟨u, rfl, hu0, hb0⟩; have HU : Hid (NdsIs w1 u n E) := hu0; have HB0 : Hid (Below w.heap.size w w1) := hb0; obtain ⟨ua, uc, rfl, _⟩ := hu0; clear hb0))
  go_wp2_with (first | (go_at_call 11; refine (CC.out _ _ HB0.out HU.out).mono ?_; rintro e w2 ⟨rfl, hb1⟩))
  have HB1 : Hid (Below w.heap.size w w2) := HB0.out.trans (hb1.mono HB0.out.size)
  clear hb1
  go_wp2_with (first | (go_at_call 13; refine (CF.out _ HB1.out).mono ?_; rintro e w3 ⟨rfl, hb2⟩))
  go_ret
  exact ⟨ret_bool (by simp), HB1.out.trans (hb2.mono HB1.out.size)⟩

theorem env_of {W : World} (hL : laidMetH Tryd.prog Rows.storeChecksRow.laid W) : Tabs W := by
  rw [MakeChecks.laidMetH_plain _ _ _ (by kernel_rfl)] at hL
  exact tabs_of hL (.tail _ (.head _)) (.head _)

theorem laid_met (os : Os) (args : Array Value) : laidMet Tryd.prog Rows.storeChecksRow.laid ((laidWorld os).forCall (fun _ _ => 0) ⟨#[], args, []⟩).memory :=
  (LaidIn.of_run (l := Rows.storeChecksRow.laid) [1, 0] 8 (by kernel_rfl) (by kernel_rfl) (by kernel_rfl) (by kernel_rfl)).met
theorem witness_row (os : Os) {H : Type} (enc : TypeId × Value → H) :
    (OpenSpec.ofChange Rows.storeChecksSpec).preRow enc Tryd.prog Tryd.f4 Rows.storeChecksRow.domain false Rows.storeChecksRow.laid ((laidWorld os).forCall (fun _ _ => 0) ⟨#[], #[.slice none 0 0], []⟩).memory #[.slice none 0 0] := by
  have hw : (DataW.whole enc Tryd.prog ((laidWorld os).forCall (fun _ _ => 0) ⟨#[], #[.slice none 0 0], []⟩).memory Tryd.f4.params.toList (OpenSpec.ofChange Rows.storeChecksSpec).vars false #[Value.slice none 0 0].toList 8).map (fun x => (x.1, x.2.1)) =
      some ([.nil], []) := by kernel_rfl
  obtain ⟨⟨x1, x2, x3⟩, hx, hx1⟩ := Option.map_eq_some_iff.1 hw
  simp only [Prod.mk.injEq] at hx1
  obtain ⟨rfl, rfl⟩ := hx1
  exact OpenSpec.preRow_of_cond 8 hx (by kernel_rfl) (fun k hk => by cases hk) (by kernel_rfl) (laid_met os _)

/-- WHAT THE WALKS GIVE, FOR EVERY ARGUMENT AND EVERY WORLD THAT HOLDS THE TABLES. -/
theorem contract (H : Type) (enc : TypeId × Value → H) (W : World) (base : Nat) (args : Array Value) (ds gs : List (DataW H)) (before : List MemPlace)
    (hval : ∀ (j : Nat) t v, Tryd.f4.params[j]? = some t → args[j]? = some v → Value.okWide Tryd.prog W .any base t v)
    (hW : DataW.Whole enc Tryd.prog Tryd.f4.params.toList Rows.storeChecksSpec.vars false W args.toList ds gs before)
    (hsz0 : (DataW.weightsEach Tryd.prog (Tryd.f4.params.toList ++ (OpenSpec.ofChange Rows.storeChecksSpec).bare.plain.varTypes Tryd.prog) (ds ++ gs)).all (· ≤ reachBytes) = true)
    (hL : laidMetH Tryd.prog Rows.storeChecksRow.laid W) :
    Calls Tryd.prog 4 args W fun e W' => ∃ v, e = .returned v ∧ Rows.storeChecksSpec.post enc Tryd.prog Tryd.f4 false true false false W args v W' := by
  have hT := env_of hL
  have hW' := hW
  obtain ⟨p, q, hA0, hV, rfl, hfz, hnd⟩ := hW
  have hA : DataW.TrodAll enc Tryd.prog W 0 (fun _ => true) true Tryd.f4.params.toList args.toList ds p := hA0
  rw [Tryd.params4] at hA hval hsz0
  obtain ⟨v0, d0, rfl, rfl, h0⟩ := trodAll_one hA
  obtain ⟨rfl, rfl⟩ := trodVars_none hV
  have h0k := h0
  have hlt : ∀ x ∈ p, x.block < W.heap.size := fun x hx => by
    have := hW'.lt x (by simpa using hx)
    simpa using this
  obtain ⟨a0, len, cap, rfl⟩ := okWide_slice Tryd.underlying23 (hval 0 23 v0 rfl rfl)
  obtain ⟨fuel, hf0⟩ := h0
  have hf : DataW.trod enc Tryd.prog W 0 (fun _ => true) true fuel 23 [.slice a0 len cap] = some (d0, p) := by simpa [Value.cells] using hf0
  clear hA0
  have key : Calls Tryd.prog 4 #[.slice a0 len cap] W fun e w' => e = .returned (.bool true) ∧ Below W.heap.size W w' := by
    obtain ⟨n, E, h1, h2, h3, h4⟩ := open_nodes hf
    refine walk _ n E W h1 h2 hT ?_ h4
    rcases Nat.eq_zero_or_pos n with hz | hz
    · omega
    · obtain ⟨els, sp, h5, h6⟩ := h3 hz
      have hr := sized_slice hsz0 (j := 0) (t := 23) (e := 42) (elems := els) (spare := sp) rfl (by simpa using h5) Tryd.underlying23
      rw [bytes42] at hr
      unfold reachBytes at hr
      omega
  refine key.mono ?_
  rintro e W' ⟨rfl, bel⟩
  refine ⟨_, rfl, _, _, _, [], p, [], hW', ?_, ?_, ?_, bel.frame _, fun h => by cases h⟩
  · exact trodAll_mk1 (shut_bool Tryd.underlying4 _)
  · exact trodAll_mk1 (Below.trod laidOut (by kernel_rfl) (of_decide_eq_true (by kernel_rfl)) h0k bel hlt)
  · rfl

set_option maxRecDepth 100000 in
theorem lifted (os : Os) (started : os.Started) (H : Type) (enc : TypeId × Value → H) (F : Stop.Interp) :
    ReturnsInHanded {} Tryd.checked os 4 .any ((OpenSpec.ofChange Rows.storeChecksSpec).preRow enc Tryd.prog Tryd.f4 Rows.storeChecksRow.domain false Rows.storeChecksRow.laid) (((OpenSpec.ofChange Rows.storeChecksSpec).at F).post enc Tryd.prog Tryd.f4 false true false false) := by
  refine returnsInHanded_of_row (C := Tryd.checked) (s := OpenSpec.ofChange Rows.storeChecksSpec) own started (by kernel_rfl) Tryd.func4
    (witness_row_atRef (enc := enc) (C := Tryd.checked) false (laidWorld os) #[.slice none 0 0] rfl (by kernel_rfl) (by kernel_rfl) (by kernel_rfl) (witness_row os enc)) ?_
  intro W base args ds gs before hval hW _ _ hsz hL hsh _
  exact contract H enc W base args ds gs before hval hW hsz hL

theorem said : Rows.StoreChecksSaid :=
  OpenClaim.holds_of_cond 4 Tryd.f4 rfl rfl rfl rfl rfl rfl rfl ⟨rfl, rfl, rfl, rfl, rfl⟩ rfl rfl rfl rfl rfl (by kernel_rfl) Tryd.func4 (by kernel_rfl)
    (of_decide_eq_true (by kernel_rfl)) (by unfold Func.isWrapper; first | (rw [if_pos (by decide +kernel)]; kernel_rfl) | (rw [if_neg (by decide +kernel)]; exact ⟨rfl, rfl⟩))
    (fun os started H enc _ F => by rw [OpenClaim.pre_eq_preRow]; exact lifted os started H enc F)

/-- No parameter wants a stand-in; the program's own looks are off: what the card asks. -/
theorem plain (f : FuncId) (fn : Func) (hf : Tryd.pinned.checked.prog.funcNamed "pleacher/pleacherlaw.StoreChecks" = some f) (hfn : Tryd.pinned.checked.prog.funcs[f]? = some fn) :
    false = Tryd.pinned.checked.prog.looks [] ∧ ∀ (j : Nat) t, fn.params[j]? = some t → Tryd.pinned.checked.prog.wantsStandIn t = false := by
  obtain rfl : f = 4 := Option.some.inj ((show Tryd.prog.funcNamed "pleacher/pleacherlaw.StoreChecks" = some 4 by kernel_rfl).symm.trans hf) |>.symm
  obtain rfl : fn = Tryd.f4 := (Option.some.inj (Tryd.func4.symm.trans hfn)).symm
  refine ⟨by kernel_rfl, fun j t ht => ?_⟩
  rw [Tryd.params4] at ht
  obtain rfl : t = 23 := by simpa using Array.mem_of_getElem? ht
  exact (show Tryd.prog.wantsStandIn 23 = false by kernel_rfl)
end Go.Proofs.YtpccfjoklinaiaaDoor.storeChecks
namespace Go.Proofs.YtpccfjoklinaiaaDoor
/-- StoreChecks holds: the card. -/
theorem storeChecks_card : Rows.StoreChecksCardSaid :=
  Claim7.holds_tied_plain_at .later [] _ _ _ _ storeChecks.said (fun _ h => by cases h) (by kernel_rfl) (fun _ h => by cases h) storeChecks_row_tie rfl ⟨rfl, rfl⟩ (by kernel_rfl) rfl storeChecks.plain (by kernel_rfl)
#print axioms storeChecks_card
end Go.Proofs.YtpccfjoklinaiaaDoor
