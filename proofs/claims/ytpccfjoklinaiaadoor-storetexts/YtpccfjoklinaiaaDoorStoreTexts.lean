/-
  PROVED HERE: for every list of nodes l and every place n, the Go law StoreTexts of package pleacherlaw returns true: the program's Text answers what the document's answer of P2.4 asks, and the arguments read behind the call as they read before. Conditions: the two tables of unicode/utf8 hold what the program's text lays (the card ties them); none of my own.
-/
import Derived.Test.YtpccfjoklinaiaaDoorCards
import Derived.Test.YtpccfjoklinaiaaDoorLaidS
import Derived.Test.YtpccfjoklinaiaaDoorNdTextOf
import Derived.WalkKit
import Derived.ProofKit
import Derived.OpenShut
import Derived.Deep.DeepHandedRow
import Derived.Deep.DeepWitnessRowRef
import Derived.SizedLaws
set_option linter.unusedVariables false
namespace Go.Proofs.YtpccfjoklinaiaaDoor.storeTexts
open Go.ChangeShapes Go.WideShapes Go.ChangeAt Go.RowKit

theorem own : ownKnob Tryd.prog.godebug = none := by kernel_rfl
theorem laidOut : laidOutB Tryd.prog = true := by kernel_rfl

set_option maxHeartbeats 400000 in
theorem walk (v : Value) (n : Nat) (i : Int) (E : Nat → Nd) (w : World) (hv : NdsIs w v n E) (hf : NdsFine n E) (hT : Tabs w) (hreach : n * 64 ≤ 140737488351232) (hnil : ∀ c, v = .slice none 0 c → c = 0) :
    Calls Tryd.prog 5 #[v, .int .i64 i] w fun e w' => e = .returned (.bool true) ∧ Below w.heap.size w w' := by
  have CN : Hid (Calls Tryd.prog 12 #[v] w fun e w' => ∃ v', e = .returned v' ∧ NdsIs w' v' n E ∧ Below w.heap.size w w') := nodes_is v n E w hv hreach hnil
  have CC : Hid (∀ W u, Below w.heap.size w W → NdsIs W u n E → Calls Tryd.prog 14 #[u, .int .i64 i] W fun e w' => ∃ s : ByteArray, e = .returned (.tuple #[.string s, .int .i64 (atF E n i)]) ∧ Hid (s.data.toList = textS E n i) ∧ Below W.heap.size W w') :=
    fun W u hb hu => text_is u n i E W hu (Utf8Tabs_below hT hb) hf
  have CF : Hid (∀ W, Below w.heap.size w W → Calls Tryd.prog 15 #[v, .int .i64 i] W fun e w' => ∃ s : ByteArray, e = .returned (.tuple #[.string s, .int .i64 (atF E n i)]) ∧ Hid (s.data.toList = textS E n i) ∧ Below W.heap.size W w') :=
    fun W hb => textOf_is v n i E W (hv.below hb) (Utf8Tabs_below hT hb) hf
  obtain ⟨a, cap, rfl, _⟩ := hv
  clear hT hf hnil
  generalize atF E n i = R at *
  generalize textS E n i = T at *
  go_enter Tryd.func5, Tryd.ntmps5
  go_wp2_with (first | (go_at_call 12; refine CN.out.mono ?_; rintro e w1 ⟨u, rfl, hu0, hb0⟩; have HU : Hid (NdsIs w1 u n E) := hu0; have HB0 : Hid (Below w.heap.size w w1) := hb0; obtain ⟨ua, uc, rfl, _⟩ := hu0; clear hb0))
  go_wp2_with (first | (go_at_call 14; refine (CC.out _ _ HB0.out HU.out).mono ?_; rintro e w2 ⟨s, rfl, hs, hb1⟩))
  have HB1 : Hid (Below w.heap.size w w2) := HB0.out.trans (hb1.mono HB0.out.size)
  clear hb1
  go_wp2_with (first | (go_at_call 15; refine (CF.out _ HB1.out).mono ?_; rintro e w3 ⟨t, rfl, ht, hb2⟩; have hst : (s.toList == t.toList) = true := by (rw [ByteArray.toList_eq, ByteArray.toList_eq, hs.out, ht.out]; exact beq_self_eq_true _)))
  go_ret
  exact ⟨ret_bool (by simp), HB1.out.trans (hb2.mono HB1.out.size)⟩

theorem env_of {W : World} (hL : laidMetH Tryd.prog Rows.storeTextsRow.laid W) : Tabs W := by
  rw [MakeChecks.laidMetH_plain _ _ _ (by kernel_rfl)] at hL
  exact tabs_of hL (.tail _ (.head _)) (.head _)

theorem laid_met (os : Os) (args : Array Value) : laidMet Tryd.prog Rows.storeTextsRow.laid ((laidWorld os).forCall (fun _ _ => 0) ⟨#[], args, []⟩).memory :=
  (LaidIn.of_run (l := Rows.storeTextsRow.laid) [1, 0] 8 (by kernel_rfl) (by kernel_rfl) (by kernel_rfl) (by kernel_rfl)).met
theorem witness_row (os : Os) {H : Type} (enc : TypeId × Value → H) :
    (OpenSpec.ofChange Rows.storeTextsSpec).preRow enc Tryd.prog Tryd.f5 Rows.storeTextsRow.domain false Rows.storeTextsRow.laid ((laidWorld os).forCall (fun _ _ => 0) ⟨#[], #[.slice none 0 0, .int .i64 0], []⟩).memory #[.slice none 0 0, .int .i64 0] := by
  have hw : (DataW.whole enc Tryd.prog ((laidWorld os).forCall (fun _ _ => 0) ⟨#[], #[.slice none 0 0, .int .i64 0], []⟩).memory Tryd.f5.params.toList (OpenSpec.ofChange Rows.storeTextsSpec).vars false #[Value.slice none 0 0, .int .i64 0].toList 8).map (fun x => (x.1, x.2.1)) =
      some ([.nil, .lit (.int .i64 0)], []) := by kernel_rfl
  obtain ⟨⟨x1, x2, x3⟩, hx, hx1⟩ := Option.map_eq_some_iff.1 hw
  simp only [Prod.mk.injEq] at hx1
  obtain ⟨rfl, rfl⟩ := hx1
  exact OpenSpec.preRow_of_cond 8 hx (by kernel_rfl) (fun k hk => by cases hk) (by kernel_rfl) (laid_met os _)

/-- WHAT THE WALKS GIVE, FOR EVERY ARGUMENT AND EVERY WORLD THAT HOLDS THE TABLES. -/
theorem contract (H : Type) (enc : TypeId × Value → H) (W : World) (base : Nat) (args : Array Value) (ds gs : List (DataW H)) (before : List MemPlace)
    (hval : ∀ (j : Nat) t v, Tryd.f5.params[j]? = some t → args[j]? = some v → Value.okWide Tryd.prog W .any base t v)
    (hW : DataW.Whole enc Tryd.prog Tryd.f5.params.toList Rows.storeTextsSpec.vars false W args.toList ds gs before)
    (hsz0 : (DataW.weightsEach Tryd.prog (Tryd.f5.params.toList ++ (OpenSpec.ofChange Rows.storeTextsSpec).bare.plain.varTypes Tryd.prog) (ds ++ gs)).all (· ≤ reachBytes) = true)
    (hL : laidMetH Tryd.prog Rows.storeTextsRow.laid W) :
    Calls Tryd.prog 5 args W fun e W' => ∃ v, e = .returned v ∧ Rows.storeTextsSpec.post enc Tryd.prog Tryd.f5 false true false false W args v W' := by
  have hT := env_of hL
  have hW' := hW
  obtain ⟨p, q, hA0, hV, rfl, hfz, hnd⟩ := hW
  have hA : DataW.TrodAll enc Tryd.prog W 0 (fun _ => true) true Tryd.f5.params.toList args.toList ds p := hA0
  rw [Tryd.params5] at hA hval hsz0
  obtain ⟨v0, v1, d0, d1, p0, p1, rfl, rfl, rfl, h0, h1⟩ := trodAll_two hA
  obtain ⟨rfl, rfl⟩ := trodVars_none hV
  have h0k := h0
  have hlt : ∀ x ∈ p0 ++ p1, x.block < W.heap.size := fun x hx => by
    have := hW'.lt x (by simpa using hx)
    simpa using this
  obtain ⟨a0, len, cap, rfl⟩ := okWide_slice Tryd.underlying23 (hval 0 23 v0 rfl rfl)
  obtain ⟨i, rfl⟩ := okWide_int Tryd.underlying3 (hval 1 3 v1 rfl rfl)
  obtain ⟨fuel, hf0⟩ := h0
  have hf : DataW.trod enc Tryd.prog W 0 (fun _ => true) true fuel 23 [.slice a0 len cap] = some (d0, p0) := by simpa [Value.cells] using hf0
  clear hA0
  have key : Calls Tryd.prog 5 #[.slice a0 len cap, .int .i64 i] W fun e w' => e = .returned (.bool true) ∧ Below W.heap.size W w' := by
    obtain ⟨n, E, h1, h2, h3, h4⟩ := open_nodes hf
    refine walk _ n i E W h1 h2 hT ?_ h4
    rcases Nat.eq_zero_or_pos n with hz | hz
    · omega
    · obtain ⟨els, sp, h5, h6⟩ := h3 hz
      have hr := sized_slice hsz0 (j := 0) (t := 23) (e := 42) (elems := els) (spare := sp) rfl (by simpa using h5) Tryd.underlying23
      rw [bytes42] at hr
      unfold reachBytes at hr
      omega
  refine key.mono ?_
  rintro e W' ⟨rfl, bel⟩
  refine ⟨_, rfl, _, _, _, [], p0 ++ p1, [], hW', ?_, ?_, ?_, bel.frame _, fun h => by cases h⟩
  · exact trodAll_mk1 (shut_bool Tryd.underlying4 _)
  · exact trodAll_mk2 (Below.trod laidOut (by kernel_rfl) (of_decide_eq_true (by kernel_rfl)) h0k bel (fun x hx => hlt x (List.mem_append_left _ hx))) (Below.trod laidOut (by kernel_rfl) (of_decide_eq_true (by kernel_rfl)) h1 bel (fun x hx => hlt x (List.mem_append_right _ hx)))
  · rfl

set_option maxRecDepth 100000 in
theorem lifted (os : Os) (started : os.Started) (H : Type) (enc : TypeId × Value → H) (F : Stop.Interp) :
    ReturnsInHanded {} Tryd.checked os 5 .any ((OpenSpec.ofChange Rows.storeTextsSpec).preRow enc Tryd.prog Tryd.f5 Rows.storeTextsRow.domain false Rows.storeTextsRow.laid) (((OpenSpec.ofChange Rows.storeTextsSpec).at F).post enc Tryd.prog Tryd.f5 false true false false) := by
  refine returnsInHanded_of_row (C := Tryd.checked) (s := OpenSpec.ofChange Rows.storeTextsSpec) own started (by kernel_rfl) Tryd.func5
    (witness_row_atRef (enc := enc) (C := Tryd.checked) false (laidWorld os) #[.slice none 0 0, .int .i64 0] rfl (by kernel_rfl) (by kernel_rfl) (by kernel_rfl) (witness_row os enc)) ?_
  intro W base args ds gs before hval hW _ _ hsz hL hsh _
  exact contract H enc W base args ds gs before hval hW hsz hL

theorem said : Rows.StoreTextsSaid :=
  OpenClaim.holds_of_cond 5 Tryd.f5 rfl rfl rfl rfl rfl rfl rfl ⟨rfl, rfl, rfl, rfl, rfl⟩ rfl rfl rfl rfl rfl (by kernel_rfl) Tryd.func5 (by kernel_rfl)
    (of_decide_eq_true (by kernel_rfl)) (by unfold Func.isWrapper; first | (rw [if_pos (by decide +kernel)]; kernel_rfl) | (rw [if_neg (by decide +kernel)]; exact ⟨rfl, rfl⟩))
    (fun os started H enc _ F => by rw [OpenClaim.pre_eq_preRow]; exact lifted os started H enc F)

/-- No parameter wants a stand-in; the program's own looks are off: what the card asks. -/
theorem plain (f : FuncId) (fn : Func) (hf : Tryd.pinned.checked.prog.funcNamed "pleacher/pleacherlaw.StoreTexts" = some f) (hfn : Tryd.pinned.checked.prog.funcs[f]? = some fn) :
    false = Tryd.pinned.checked.prog.looks [] ∧ ∀ (j : Nat) t, fn.params[j]? = some t → Tryd.pinned.checked.prog.wantsStandIn t = false := by
  obtain rfl : f = 5 := Option.some.inj ((show Tryd.prog.funcNamed "pleacher/pleacherlaw.StoreTexts" = some 5 by kernel_rfl).symm.trans hf) |>.symm
  obtain rfl : fn = Tryd.f5 := (Option.some.inj (Tryd.func5.symm.trans hfn)).symm
  refine ⟨by kernel_rfl, fun j t ht => ?_⟩
  rw [Tryd.params5] at ht
  have ht' : t = 23 ∨ t = 3 := by simpa using Array.mem_of_getElem? ht
  rcases ht' with rfl | rfl
  · exact (show Tryd.prog.wantsStandIn 23 = false by kernel_rfl)
  · exact (show Tryd.prog.wantsStandIn 3 = false by kernel_rfl)
end Go.Proofs.YtpccfjoklinaiaaDoor.storeTexts
namespace Go.Proofs.YtpccfjoklinaiaaDoor
/-- StoreTexts holds: the card. -/
theorem storeTexts_card : Rows.StoreTextsCardSaid :=
  Claim7.holds_tied_plain_at .later [] _ _ _ _ storeTexts.said (fun _ h => by cases h) (by kernel_rfl) (fun _ h => by cases h) storeTexts_row_tie rfl ⟨rfl, rfl⟩ (by kernel_rfl) rfl storeTexts.plain (by kernel_rfl)
#print axioms storeTexts_card
end Go.Proofs.YtpccfjoklinaiaaDoor
