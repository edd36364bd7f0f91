/-
  PROVED HERE: for every list of nodes l, place n, list of nodes to and place parent, the Go law StoreCopies of package pleacherlaw returns true: the program's Copy answers what the document's answer of P2.5 asks, changing neither list, and the arguments read behind the call as they read before. Conditions: the two tables of unicode/utf8 hold what the program's text lays (the card ties them); none of my own.
-/
import Derived.Test.YtpccfjoklinaiaaDoorCards
import Derived.Test.YtpccfjoklinaiaaDoorLaidS
import Derived.Test.YtpccfjoklinaiaaDoorNdCopyIs
import Derived.WalkKit
import Derived.ProofKit
import Derived.OpenShut
import Derived.Deep.DeepHandedRow
import Derived.Deep.DeepWitnessRowRef
import Derived.SizedLaws
set_option linter.unusedVariables false
namespace Go.Proofs.YtpccfjoklinaiaaDoor.storeCopies
open Go.ChangeShapes Go.WideShapes Go.ChangeAt Go.RowKit

theorem own : ownKnob Tryd.prog.godebug = none := by kernel_rfl
theorem laidOut : laidOutB Tryd.prog = true := by kernel_rfl

set_option maxHeartbeats 800000 in
theorem walk (v1 v2 : Value) (n m : Nat) (i par : Int) (E F : Nat → Nd) (w : World) (hv1 : NdsIs w v1 n E) (hf : NdsFine n E) (hv2 : NdsIs w v2 m F) (hT : Tabs w) (hr1 : n * 64 ≤ 140737488351232) (hr2 : m * 64 ≤ 140737488351232) (hn1 : ∀ c, v1 = .slice none 0 c → c = 0) (hn2 : ∀ c, v2 = .slice none 0 c → c = 0) :
    Calls Tryd.prog 6 #[v1, .int .i64 i, v2, .int .i64 par] w fun e w' => e = .returned (.bool true) ∧ Below w.heap.size w w' := by
  have CN1 : Hid (Calls Tryd.prog 12 #[v1] w fun e w' => ∃ v', e = .returned v' ∧ NdsIs w' v' n E ∧ (∀ k c, v' = .slice none k c → c = 0) ∧ Below w.heap.size w w') := nodes_is2 v1 n E w hv1 hr1 hn1
  have CN2 : Hid (∀ W, Below w.heap.size w W → Calls Tryd.prog 12 #[v2] W fun e w' => ∃ v', e = .returned v' ∧ NdsIs w' v' m F ∧ (∀ k c, v' = .slice none k c → c = 0) ∧ Below W.heap.size W w') := fun W hW => nodes_is2 v2 m F W (hv2.below hW) hr2 hn2
  have CC : Hid (∀ W u1 u2, Below w.heap.size w W → NdsIs W u1 n E → NdsIs W u2 m F → (∀ k c, u2 = .slice none k c → c = 0) → Calls Tryd.prog 16 #[u1, .int .i64 i, u2, .int .i64 par] W fun e w' => ∃ v, e = .returned (.tuple #[v, .int .i64 (copyF E n i m par)]) ∧ NdsIs w' v (copyL E n i m par) (madeN E F i.toNat m par) ∧ Below W.heap.size W w') :=
    fun W u1 u2 hb h1 h2 h3 => copy_is u1 u2 n m i par E F W h1 h2 (Utf8Tabs_below hT hb) hf (by omega) h3
  have CF : Hid (∀ W, Below w.heap.size w W → Calls Tryd.prog 17 #[v1, .int .i64 i, v2, .int .i64 par] W fun e w' => ∃ v, e = .returned (.tuple #[v, .int .i64 (copyF E n i m par)]) ∧ NdsIs w' v (copyL E n i m par) (madeN E F i.toNat m par) ∧ Below W.heap.size W w') :=
    fun W hb => copiedOf_is v1 v2 n m i par E F W (hv1.below hb) (hv2.below hb) (Utf8Tabs_below hT hb) hf (by omega)
  have HV1 : Hid (NdsIs w v1 n E) := hv1
  have HV2 : Hid (NdsIs w v2 m F) := hv2
  obtain ⟨a1, cap1, rfl, _⟩ := hv1
  obtain ⟨a2, cap2, rfl, _⟩ := hv2
  clear hT hf hn1 hn2
  generalize copyF E n i m par = R at *
  generalize copyL E n i m par = L at *
  generalize madeN E F i.toNat m par = D at *
  go_enter Tryd.func6, Tryd.ntmps6
  go_wp2_with (first | (go_at_call 12; refine CN1.out.mono ?_; rintro e w1 ⟨u1, rfl, hu1, _, hb1⟩; have HU1 : Hid (NdsIs w1 u1 n E) := hu1; have HB1 : Hid (Below w.heap.size w w1) := hb1; obtain ⟨ua1, uc1, rfl, _⟩ := hu1; clear hb1 CN1) |
    (go_at_call 12; refine (CN2.out _ HB1.out).mono ?_; rintro e w2 ⟨u2, rfl, hu2, hn2, hb2⟩; have HU2 : Hid (NdsIs w2 u2 m F) := hu2; have HN2 : Hid (∀ k c, u2 = .slice none k c → c = 0) := hn2; have HB2 : Hid (Below w.heap.size w w2) := HB1.out.trans (hb2.mono HB1.out.size); have HU1' : Hid (NdsIs w2 (.slice ua1 n uc1) n E) := HU1.out.below hb2; obtain ⟨ua2, uc2, rfl, _⟩ := hu2; clear hb2 hn2) |
    (go_at_call 16; refine (CC.out _ _ _ HB2.out HU1'.out HU2.out HN2.out).mono ?_; rintro e w3 ⟨v3, rfl, hv3, hb3⟩; have HV3 : Hid (NdsIs w3 v3 L D) := hv3; have HB3 : Hid (Below w.heap.size w w3) := HB2.out.trans (hb3.mono HB2.out.size); have HK1 : Hid (NdsIs w3 (.slice ua1 n uc1) n E) := HU1'.out.below hb3; have HK2 : Hid (NdsIs w3 (.slice ua2 m uc2) m F) := HU2.out.below hb3; obtain ⟨va3, vc3, rfl, _⟩ := hv3; clear hb3) |
    (go_at_call 17; refine (CF.out _ HB3.out).mono ?_; rintro e w4 ⟨v4, rfl, hv4, hb4⟩; have HV4 : Hid (NdsIs w4 v4 L D) := hv4; have HB4 : Hid (Below w.heap.size w w4) := HB3.out.trans (hb4.mono HB3.out.size); have HL1 : Hid (NdsIs w4 (.slice ua1 n uc1) n E) := HK1.out.below hb4; have HL2 : Hid (NdsIs w4 (.slice ua2 m uc2) m F) := HK2.out.below hb4; have HL3 : Hid (NdsIs w4 (.slice va3 L vc3) L D) := HV3.out.below hb4; obtain ⟨va4, vc4, rfl, _⟩ := hv4; clear hb4) |
    (go_at_call 10; refine (same_is _ _ L D _ HL3.out HV4.out).mono ?_; rintro e w5 ⟨rfl, hb5⟩; have HB5 : Hid (Below w.heap.size w w5) := HB4.out.trans (hb5.mono HB4.out.size); have HM1 : Hid (NdsIs w5 (.slice ua1 n uc1) n E) := HL1.out.below hb5; have HM2 : Hid (NdsIs w5 (.slice ua2 m uc2) m F) := HL2.out.below hb5; clear hb5 HL3) |
    (go_at_call 10; refine (same_is _ _ n E _ HM1.out (HV1.out.below HB5.out)).mono ?_; rintro e w6 ⟨rfl, hb6⟩; have HB6 : Hid (Below w.heap.size w w6) := HB5.out.trans (hb6.mono HB5.out.size); have HN2' : Hid (NdsIs w6 (.slice ua2 m uc2) m F) := HM2.out.below hb6; clear hb6 HM1) |
    (go_at_call 10; refine (same_is _ _ m F _ HN2'.out (HV2.out.below HB6.out)).mono ?_; rintro e w7 ⟨rfl, hb7⟩))
  go_ret
  exact ⟨ret_bool (by simp), HB6.out.trans (hb7.mono HB6.out.size)⟩

theorem env_of {W : World} (hL : laidMetH Tryd.prog Rows.storeCopiesRow.laid W) : Tabs W := by
  rw [MakeChecks.laidMetH_plain _ _ _ (by kernel_rfl)] at hL
  exact tabs_of hL (.tail _ (.head _)) (.head _)

theorem laid_met (os : Os) (args : Array Value) : laidMet Tryd.prog Rows.storeCopiesRow.laid ((laidWorld os).forCall (fun _ _ => 0) ⟨#[], args, []⟩).memory :=
  (LaidIn.of_run (l := Rows.storeCopiesRow.laid) [1, 0] 8 (by kernel_rfl) (by kernel_rfl) (by kernel_rfl) (by kernel_rfl)).met
theorem witness_row (os : Os) {H : Type} (enc : TypeId × Value → H) :
    (OpenSpec.ofChange Rows.storeCopiesSpec).preRow enc Tryd.prog Tryd.f6 Rows.storeCopiesRow.domain false Rows.storeCopiesRow.laid ((laidWorld os).forCall (fun _ _ => 0) ⟨#[], #[.slice none 0 0, .int .i64 0, .slice none 0 0, .int .i64 0], []⟩).memory #[.slice none 0 0, .int .i64 0, .slice none 0 0, .int .i64 0] := by
  have hw : (DataW.whole enc Tryd.prog ((laidWorld os).forCall (fun _ _ => 0) ⟨#[], #[.slice none 0 0, .int .i64 0, .slice none 0 0, .int .i64 0], []⟩).memory Tryd.f6.params.toList (OpenSpec.ofChange Rows.storeCopiesSpec).vars false #[Value.slice none 0 0, .int .i64 0, .slice none 0 0, .int .i64 0].toList 8).map (fun x => (x.1, x.2.1)) =
      some ([.nil, .lit (.int .i64 0), .nil, .lit (.int .i64 0)], []) := by kernel_rfl
  obtain ⟨⟨x1, x2, x3⟩, hx, hx1⟩ := Option.map_eq_some_iff.1 hw
  simp only [Prod.mk.injEq] at hx1
  obtain ⟨rfl, rfl⟩ := hx1
  exact OpenSpec.preRow_of_cond 8 hx (by kernel_rfl) (fun k hk => by cases hk) (by kernel_rfl) (laid_met os _)

/-- WHAT THE WALKS GIVE, FOR EVERY ARGUMENT AND EVERY WORLD THAT HOLDS THE TABLES. -/
theorem contract (H : Type) (enc : TypeId × Value → H) (W : World) (base : Nat) (args : Array Value) (ds gs : List (DataW H)) (before : List MemPlace)
    (hval : ∀ (j : Nat) t v, Tryd.f6.params[j]? = some t → args[j]? = some v → Value.okWide Tryd.prog W .any base t v)
    (hW : DataW.Whole enc Tryd.prog Tryd.f6.params.toList Rows.storeCopiesSpec.vars false W args.toList ds gs before)
    (hsz0 : (DataW.weightsEach Tryd.prog (Tryd.f6.params.toList ++ (OpenSpec.ofChange Rows.storeCopiesSpec).bare.plain.varTypes Tryd.prog) (ds ++ gs)).all (· ≤ reachBytes) = true)
    (hL : laidMetH Tryd.prog Rows.storeCopiesRow.laid W) :
    Calls Tryd.prog 6 args W fun e W' => ∃ v, e = .returned v ∧ Rows.storeCopiesSpec.post enc Tryd.prog Tryd.f6 false true false false W args v W' := by
  have hT := env_of hL
  have hW' := hW
  obtain ⟨p, q, hA0, hV, rfl, hfz, hnd⟩ := hW
  have hA : DataW.TrodAll enc Tryd.prog W 0 (fun _ => true) true Tryd.f6.params.toList args.toList ds p := hA0
  rw [Tryd.params6] at hA hval hsz0
  obtain ⟨v0, v1, v2, v3, d0, d1, d2, d3, p0, p1, p2, p3, rfl, rfl, rfl, h0, h1, h2, h3⟩ := trodAll_four hA
  obtain ⟨rfl, rfl⟩ := trodVars_none hV
  have h0k := h0
  have h2k := h2
  have hlt : ∀ x ∈ p0 ++ p1 ++ p2 ++ p3, x.block < W.heap.size := fun x hx => by
    have := hW'.lt x (by rw [List.append_nil]; exact hx)
    simpa using this
  obtain ⟨a0, len, cap, rfl⟩ := okWide_slice Tryd.underlying23 (hval 0 23 v0 rfl rfl)
  obtain ⟨i, rfl⟩ := okWide_int Tryd.underlying3 (hval 1 3 v1 rfl rfl)
  obtain ⟨a2, len2, cap2, rfl⟩ := okWide_slice Tryd.underlying23 (hval 2 23 v2 rfl rfl)
  obtain ⟨par, rfl⟩ := okWide_int Tryd.underlying3 (hval 3 3 v3 rfl rfl)
  obtain ⟨fuel, hf0⟩ := h0
  obtain ⟨fuel2, hf2⟩ := h2
  have hf : DataW.trod enc Tryd.prog W 0 (fun _ => true) true fuel 23 [.slice a0 len cap] = some (d0, p0) := by simpa [Value.cells] using hf0
  have hg : DataW.trod enc Tryd.prog W 0 (fun _ => true) true fuel2 23 [.slice a2 len2 cap2] = some (d2, p2) := by simpa [Value.cells] using hf2
  clear hA0
  have key : Calls Tryd.prog 6 #[.slice a0 len cap, .int .i64 i, .slice a2 len2 cap2, .int .i64 par] W fun e w' => e = .returned (.bool true) ∧ Below W.heap.size W w' := by
    obtain ⟨n, E, h1, h2, h3, h4⟩ := open_nodes hf
    obtain ⟨m, F, g1, g2, g3, g4⟩ := open_nodes hg
    refine walk _ _ n m i par E F W h1 h2 g1 hT ?_ ?_ h4 g4
    · rcases Nat.eq_zero_or_pos n with hz | hz
      · omega
      · obtain ⟨els, sp, h5, h6⟩ := h3 hz
        have hr := sized_slice hsz0 (j := 0) (t := 23) (e := 42) (elems := els) (spare := sp) rfl (by simpa using h5) Tryd.underlying23
        rw [bytes42] at hr
        unfold reachBytes at hr
        omega
    · rcases Nat.eq_zero_or_pos m with hz | hz
      · omega
      · obtain ⟨els, sp, h5, h6⟩ := g3 hz
        have hr := sized_slice hsz0 (j := 2) (t := 23) (e := 42) (elems := els) (spare := sp) rfl (by simpa using h5) Tryd.underlying23
        rw [bytes42] at hr
        unfold reachBytes at hr
        omega
  refine key.mono ?_
  rintro e W' ⟨rfl, bel⟩
  refine ⟨_, rfl, _, _, _, [], p0 ++ (p1 ++ (p2 ++ p3)), [], hW', ?_, ?_, ?_, bel.frame _, fun h => by cases h⟩
  · exact trodAll_mk1 (shut_bool Tryd.underlying4 _)
  · exact trodAll_mk4 (Below.trod laidOut (by kernel_rfl) (of_decide_eq_true (by kernel_rfl)) h0k bel (fun x hx => hlt x (by simp [hx]))) (Below.trod laidOut (by kernel_rfl) (of_decide_eq_true (by kernel_rfl)) h1 bel (fun x hx => hlt x (by simp [hx])))
      (Below.trod laidOut (by kernel_rfl) (of_decide_eq_true (by kernel_rfl)) h2k bel (fun x hx => hlt x (by simp [hx]))) (Below.trod laidOut (by kernel_rfl) (of_decide_eq_true (by kernel_rfl)) h3 bel (fun x hx => hlt x (by simp [hx])))
  · rfl

set_option maxRecDepth 100000 in
theorem lifted (os : Os) (started : os.Started) (H : Type) (enc : TypeId × Value → H) (F : Stop.Interp) :
    ReturnsInHanded {} Tryd.checked os 6 .any ((OpenSpec.ofChange Rows.storeCopiesSpec).preRow enc Tryd.prog Tryd.f6 Rows.storeCopiesRow.domain false Rows.storeCopiesRow.laid) (((OpenSpec.ofChange Rows.storeCopiesSpec).at F).post enc Tryd.prog Tryd.f6 false true false false) := by
  refine returnsInHanded_of_row (C := Tryd.checked) (s := OpenSpec.ofChange Rows.storeCopiesSpec) own started (by kernel_rfl) Tryd.func6
    (witness_row_atRef (enc := enc) (C := Tryd.checked) false (laidWorld os) #[.slice none 0 0, .int .i64 0, .slice none 0 0, .int .i64 0] rfl (by kernel_rfl) (by kernel_rfl) (by kernel_rfl) (witness_row os enc)) ?_
  intro W base args ds gs before hval hW _ _ hsz hL hsh _
  exact contract H enc W base args ds gs before hval hW hsz hL

theorem said : Rows.StoreCopiesSaid :=
  OpenClaim.holds_of_cond 6 Tryd.f6 rfl rfl rfl rfl rfl rfl rfl ⟨rfl, rfl, rfl, rfl, rfl⟩ rfl rfl rfl rfl rfl (by kernel_rfl) Tryd.func6 (by kernel_rfl)
    (of_decide_eq_true (by kernel_rfl)) (by unfold Func.isWrapper; first | (rw [if_pos (by decide +kernel)]; kernel_rfl) | (rw [if_neg (by decide +kernel)]; exact ⟨rfl, rfl⟩))
    (fun os started H enc _ F => by rw [OpenClaim.pre_eq_preRow]; exact lifted os started H enc F)

/-- No parameter wants a stand-in; the program's own looks are off: what the card asks. -/
theorem plain (f : FuncId) (fn : Func) (hf : Tryd.pinned.checked.prog.funcNamed "pleacher/pleacherlaw.StoreCopies" = some f) (hfn : Tryd.pinned.checked.prog.funcs[f]? = some fn) :
    false = Tryd.pinned.checked.prog.looks [] ∧ ∀ (j : Nat) t, fn.params[j]? = some t → Tryd.pinned.checked.prog.wantsStandIn t = false := by
  obtain rfl : f = 6 := Option.some.inj ((show Tryd.prog.funcNamed "pleacher/pleacherlaw.StoreCopies" = some 6 by kernel_rfl).symm.trans hf) |>.symm
  obtain rfl : fn = Tryd.f6 := (Option.some.inj (Tryd.func6.symm.trans hfn)).symm
  refine ⟨by kernel_rfl, fun j t ht => ?_⟩
  rw [Tryd.params6] at ht
  have ht' : t = 23 ∨ t = 3 := by
    have h := Array.mem_of_getElem? ht
    simp at h
    rcases h with h | h | h | h
    · exact .inl h
    · exact .inr h
    · exact .inl h
    · exact .inr h
  rcases ht' with rfl | rfl
  · exact (show Tryd.prog.wantsStandIn 23 = false by kernel_rfl)
  · exact (show Tryd.prog.wantsStandIn 3 = false by kernel_rfl)
end Go.Proofs.YtpccfjoklinaiaaDoor.storeCopies
namespace Go.Proofs.YtpccfjoklinaiaaDoor
/-- StoreCopies holds: the card. -/
theorem storeCopies_card : Rows.StoreCopiesCardSaid :=
  Claim7.holds_tied_plain_at .later [] _ _ _ _ storeCopies.said (fun _ h => by cases h) (by kernel_rfl) (fun _ h => by cases h) storeCopies_row_tie rfl ⟨rfl, rfl⟩ (by kernel_rfl) rfl storeCopies.plain (by kernel_rfl)
#print axioms storeCopies_card
end Go.Proofs.YtpccfjoklinaiaaDoor
