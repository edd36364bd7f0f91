/-
  PROVED HERE: for every list of events l, the Go law XmlChecks of package pleacherlaw returns true: the program's Check answers what the document's answer of P1.2 asks, and the argument reads behind the call as it read before. Conditions: the two tables of unicode/utf8 hold what the program's text lays (the card ties them); none of my own.
-/
import Derived.Test.YtjhmkffihindlaaDoorCards
import Derived.Test.YtjhmkffihindlaaDoorLaid
import Derived.Test.YtjhmkffihindlaaDoorEvOpen
import Derived.WalkKit
import Derived.ProofKit
import Derived.OpenShut
import Derived.Laws.AppendOwnNone
import Derived.Deep.DeepHandedRow
import Derived.Deep.DeepWitnessRowRef
import Derived.SizedLaws
set_option linter.unusedVariables false
namespace Go.Proofs.YtjhmkffihindlaaDoor.xmlChecks
open Go.ChangeShapes Go.WideShapes Go.ChangeAt Go.RowKit

theorem own : ownKnob Tryd.prog.godebug = none := by kernel_rfl
theorem laidOut : laidOutB Tryd.prog = true := by kernel_rfl
theorem info35 : (Tryd.prog.info? 35).map (fun i => (i.zero, i.size, i.bytes)) = some (some (.agg #[.int .i64 0, .string ByteArray.empty, .string ByteArray.empty]), 3, 40) := by kernel_rfl
theorem bytes35 : Tryd.prog.bytesOf 35 = 40 := by kernel_rfl

/-- the cells of events, one behind the other -/
def cellOf (E : Nat → Ev) (j : Nat) : Value := if j % 3 = 0 then .int .i64 (E (j / 3)).kind else if j % 3 = 1 then .string (E (j / 3)).name else .string (E (j / 3)).value
def cellsOf (E : Nat → Ev) (n : Nat) : List Value := (List.range (n * 3)).map (cellOf E)
theorem cells_len (E : Nat → Ev) (n : Nat) : (cellsOf E n).length = n * 3 := by simp [cellsOf]
theorem cells_at (E : Nat → Ev) (n j : Nat) (h : j < n * 3) : (cellsOf E n)[j]? = some (cellOf E j) := by simp [cellsOf, h]
theorem cells_in {w : World} {b off n : Nat} {E : Nat → Ev} (hE : EvsAt w b off n E) : ∀ j u, (cellsOf E n)[j]? = some u → w.cell? ((⟨b, off, none⟩ : Addr).add j) = some u := by
  intro j u hj
  have hjl : j < n * 3 := by
    have := (List.getElem?_eq_some_iff.1 hj).1
    rwa [cells_len] at this
  rw [cells_at E n j hjl, Option.some.injEq] at hj
  subst hj
  obtain ⟨h0, h1, h2⟩ := hE (j / 3) (by omega)
  rw [add_plain]
  unfold cellOf
  by_cases c0 : j % 3 = 0
  · rw [if_pos c0, ← h0, show off + j = off + j / 3 * 3 by omega]
  · by_cases c1 : j % 3 = 1
    · rw [if_neg c0, if_pos c1, ← h1, show off + j = off + j / 3 * 3 + 1 by omega]
    · rw [if_neg c0, if_neg c1, ← h2, show off + j = off + j / 3 * 3 + 2 by omega]
theorem cells_one (E : Nat → Ev) (n : Nat) : ∀ u ∈ cellsOf E n, u.oneCell' = true := by
  intro u hu
  obtain ⟨j, _, rfl⟩ := List.mem_map.1 hu
  unfold cellOf
  split
  · rfl
  · split <;> rfl
theorem evs_of_own {w : World} {base g cap n : Nat} {E : Nat → Ev} (h : w.ownsRow base 35 3 (.slice (some ⟨g, 0, none⟩) n cap) n (cellsOf E n)) : EvsAt w g 0 n E := by
  intro i hi
  have c : ∀ r, r < 3 → w.cell? ⟨g, i * 3 + r, none⟩ = some (cellOf E (i * 3 + r)) := fun r hr => by
    rw [h.cellAt _ (by omega), cells_at E n _ (by omega)]
  have c0 := c 0 (by omega)
  have c1 := c 1 (by omega)
  have c2 := c 2 (by omega)
  simp only [cellOf, show (i * 3 + 0) % 3 = 0 by omega, show (i * 3 + 1) % 3 = 1 by omega, show (i * 3 + 2) % 3 = 2 by omega, show (i * 3 + 0) / 3 = i by omega, show (i * 3 + 1) / 3 = i by omega, show (i * 3 + 2) / 3 = i by omega] at c0 c1 c2
  simp only [Nat.zero_add]
  exact ⟨c0, c1, c2⟩

set_option maxHeartbeats 400000 in
theorem walk_nil (w : World) :
    Calls Tryd.prog 4 #[.slice none 0 0] w fun e w' => e = .returned (.bool true) ∧ Below w.heap.size w w' := by
  obtain ⟨i0, hi0, hz0, hz1, hz2⟩ := info_parts info35
  go_enter Tryd.func4, Tryd.ntmps4
  go_wp2_with (first | (at_builtin; refine wpList_append_own_none rfl _ _ 25 rfl w.heap.size 35 i0 3 Tryd.underlying25 hi0 _ _ _ rfl (World.ownsRow_nil _ _ _ _) rfl ?_) | (go_at_call 10; refine (check_zero _ _ _).mono ?_; rintro e w1 ⟨rfl, hb1⟩) | (go_at_call 11; refine (fault_zero _ _ _).mono ?_; rintro e w2 ⟨rfl, hb2⟩))
  go_ret
  exact ⟨rfl, hb1.trans (hb2.mono hb1.size)⟩

set_option maxHeartbeats 400000 in
theorem walk_zero (a : Addr) (cap : Nat) (w : World) :
    Calls Tryd.prog 4 #[.slice (some a) 0 cap] w fun e w' => e = .returned (.bool true) ∧ Below w.heap.size w w' := by
  obtain ⟨i0, hi0, hz0, hz1, hz2⟩ := info_parts info35
  go_enter Tryd.func4, Tryd.ntmps4
  go_wp2_with (first | (at_builtin; refine wpList_append_own _ rfl _ _ 25 rfl w.heap.size 35 i0 _ 3 40 Tryd.underlying25 hi0 hz0 hz1 hz2 rfl (by decide) _ _ _ rfl (World.ownsRow_nil _ _ _ _) a 0 cap [] rfl rfl (fun j u hj => by simp at hj) (fun u hu => by cases hu) (by decide) (by decide) (Nat.le_refl _) ?_; intro v' w1 hown hgrow hnil))
  have hv : v' = .slice none 0 0 := hnil.2 ⟨rfl, trivial⟩
  subst hv
  have HG : Hid (Below w.heap.size w w1) := (Below.refl _ _).grown hgrow (Nat.le_refl _) (fun k hk => by cases hk)
  clear hown hgrow hnil
  go_wp2_with (first | (go_at_call 10; refine (check_zero _ _ _).mono ?_; rintro e w2 ⟨rfl, hb1⟩) | (go_at_call 11; refine (fault_zero _ _ _).mono ?_; rintro e w3 ⟨rfl, hb2⟩))
  go_ret
  exact ⟨rfl, (HG.out.trans (hb1.mono HG.out.size)).trans (hb2.mono (Nat.le_trans HG.out.size hb1.size))⟩

set_option maxHeartbeats 800000 in
theorem walk_some (b off n cap : Nat) (E : Nat → Ev) (w : World) (h0 : 0 < n) (hcap : n ≤ cap) (hm : cap ≤ maxLen) (hreach : n * 40 ≤ 140737488351232) (henv : Env w) (hb0 : b < w.heap.size) (hE : EvsAt w b off n E)
    (hsz : ∀ i, i < n → (E i).name.size ≤ maxLen ∧ (E i).value.size ≤ maxLen) :
    Calls Tryd.prog 4 #[.slice (some ⟨b, off, none⟩) n cap] w fun e w' => e = .returned (.bool true) ∧ Below w.heap.size w w' := by
  obtain ⟨i0, hi0, hz0, hz1, hz2⟩ := info_parts info35
  have HE : Hid (EvsAt w b off n E) := hE
  have CC : Hid (∀ W g c, Below w.heap.size w W → n ≤ c → c ≤ maxLen → g < W.heap.size → EvsAt W g 0 n E → Calls Tryd.prog 10 #[.slice (some ⟨g, 0, none⟩) n c] W fun e w' => e = .returned (.int .i64 (checkN E n)) ∧ Below W.heap.size W w') :=
    fun W g c hb h1 h2 h3 h4 => check_any g 0 n c E W h1 h2 (henv.below hb) h3 h4 hsz
  have CF : Hid (∀ W, Below w.heap.size w W → Calls Tryd.prog 11 #[.slice (some ⟨b, off, none⟩) n cap] W fun e w' => e = .returned (.int .i64 (checkN E n)) ∧ Below W.heap.size W w') :=
    fun W hb => fault_any b off n cap E W hcap hm (henv.below hb) (Nat.lt_of_lt_of_le hb0 hb.size) (hE.below hb hb0) hsz
  clear hE hsz henv
  go_enter Tryd.func4, Tryd.ntmps4
  go_wp2_with (first | (at_builtin; refine wpList_append_own _ rfl _ _ 25 rfl w.heap.size 35 i0 _ 3 40 Tryd.underlying25 hi0 hz0 hz1 hz2 rfl (by decide) _ _ _ rfl (World.ownsRow_nil _ _ _ _) ⟨b, off, none⟩ n cap (cellsOf E n) rfl (cells_len E n) (cells_in HE.out) (cells_one E n) (by omega) (by omega) (Nat.le_refl _) ?_; intro v' w1 hown hgrow hnil))
  have HG : Hid (Below w.heap.size w w1) := (Below.refl _ _).grown hgrow (Nat.le_refl _) (fun k hk => by cases hk)
  rw [Nat.zero_add, List.nil_append] at hown
  obtain ⟨g, c, rfl, hg1, hg2, hg3⟩ : ∃ g c, v' = .slice (some ⟨g, 0, none⟩) n c ∧ g < w1.heap.size ∧ n ≤ c ∧ c ≤ maxLen := by
    obtain ⟨_, ⟨rfl, h⟩ | ⟨g, c, cur, rfl, q1, q2, q3, q4, _⟩⟩ := hown
    · omega
    · exact ⟨g, c, rfl, (Array.getElem?_eq_some_iff.1 q2).1, q3, q4⟩
  have HX : Hid (EvsAt w1 g 0 n E) := evs_of_own hown
  clear hown hgrow hnil
  go_wp2_with (first | (go_at_call 10; refine (CC.out w1 g c HG.out hg2 hg3 hg1 HX.out).mono ?_; rintro e w2 ⟨rfl, hb1⟩))
  have HG2 : Hid (Below w.heap.size w w2) := HG.out.trans (hb1.mono HG.out.size)
  go_wp2_with (first | (go_at_call 11; refine (CF.out w2 HG2.out).mono ?_; rintro e w3 ⟨rfl, hb2⟩))
  go_ret
  exact ⟨ret_bool (by simp), HG2.out.trans (hb2.mono HG2.out.size)⟩

theorem env_of {W : World} (hL : laidMetH Tryd.prog Rows.xmlChecksRow.laid W) (hsh : W.ShapedOpen Tryd.prog) : Env W := by
  rw [MakeChecks.laidMetH_plain _ _ _ (by kernel_rfl)] at hL
  obtain ⟨m, hm⟩ := Tryd.laysM144.s1_3 W hsh
  exact ⟨tabs_of hL (.tail _ (.head _)) (.head _), block_lt (a := ⟨3, 0, none⟩) hm, m, hm⟩

theorem laid_met (os : Os) (args : Array Value) : laidMet Tryd.prog Rows.xmlChecksRow.laid ((laidWorld os).forCall (fun _ _ => 0) ⟨#[], args, []⟩).memory :=
  (LaidIn.of_run (l := Rows.xmlChecksRow.laid) [1, 0] 8 (by kernel_rfl) (by kernel_rfl) (by kernel_rfl) (by kernel_rfl)).met
theorem witness_row (os : Os) {H : Type} (enc : TypeId × Value → H) :
    (OpenSpec.ofChange Rows.xmlChecksSpec).preRow enc Tryd.prog Tryd.f4 Rows.xmlChecksRow.domain false Rows.xmlChecksRow.laid ((laidWorld os).forCall (fun _ _ => 0) ⟨#[], #[.slice none 0 0], []⟩).memory #[.slice none 0 0] := by
  have hw : (DataW.whole enc Tryd.prog ((laidWorld os).forCall (fun _ _ => 0) ⟨#[], #[.slice none 0 0], []⟩).memory Tryd.f4.params.toList (OpenSpec.ofChange Rows.xmlChecksSpec).vars false #[Value.slice none 0 0].toList 8).map (fun x => (x.1, x.2.1)) =
      some ([.nil], []) := by kernel_rfl
  obtain ⟨⟨x1, x2, x3⟩, hx, hx1⟩ := Option.map_eq_some_iff.1 hw
  simp only [Prod.mk.injEq] at hx1
  obtain ⟨rfl, rfl⟩ := hx1
  exact OpenSpec.preRow_of_cond 8 hx (by kernel_rfl) (fun k hk => by cases hk) (by kernel_rfl) (laid_met os _)

/-- WHAT THE WALKS GIVE, FOR EVERY ARGUMENT AND EVERY WORLD THAT HOLDS THE TABLES. -/
theorem contract (H : Type) (enc : TypeId × Value → H) (W : World) (base : Nat) (args : Array Value) (ds gs : List (DataW H)) (before : List MemPlace)
    (hval : ∀ (j : Nat) t v, Tryd.f4.params[j]? = some t → args[j]? = some v → Value.okWide Tryd.prog W .any base t v)
    (hW : DataW.Whole enc Tryd.prog Tryd.f4.params.toList Rows.xmlChecksSpec.vars false W args.toList ds gs before)
    (hsz0 : (DataW.weightsEach Tryd.prog (Tryd.f4.params.toList ++ (OpenSpec.ofChange Rows.xmlChecksSpec).bare.plain.varTypes Tryd.prog) (ds ++ gs)).all (· ≤ reachBytes) = true)
    (hL : laidMetH Tryd.prog Rows.xmlChecksRow.laid W) (hsh : W.ShapedOpen Tryd.prog) :
    Calls Tryd.prog 4 args W fun e W' => ∃ v, e = .returned v ∧ Rows.xmlChecksSpec.post enc Tryd.prog Tryd.f4 false true false false W args v W' := by
  have henv := env_of hL hsh
  have hW' := hW
  obtain ⟨p, q, hA0, hV, rfl, hfz, hnd⟩ := hW
  have hA : DataW.TrodAll enc Tryd.prog W 0 (fun _ => true) true Tryd.f4.params.toList args.toList ds p := hA0
  rw [Tryd.params4] at hA hval hsz0
  obtain ⟨v0, d0, rfl, rfl, h0⟩ := trodAll_one hA
  obtain ⟨rfl, rfl⟩ := trodVars_none hV
  have h0k := h0
  have hlt : ∀ x ∈ p, x.block < W.heap.size := fun x hx => by
    have := hW'.lt x (by simpa using hx)
    simpa using this
  obtain ⟨a0, len, cap, rfl⟩ := okWide_slice Tryd.underlying25 (hval 0 25 v0 rfl rfl)
  obtain ⟨fuel, hf0⟩ := h0
  have hf : DataW.trod enc Tryd.prog W 0 (fun _ => true) true fuel 25 [.slice a0 len cap] = some (d0, p) := by simpa [Value.cells] using hf0
  clear hA0
  have key : Calls Tryd.prog 4 #[.slice a0 len cap] W fun e w' => e = .returned (.bool true) ∧ Below W.heap.size W w' := by
    rcases open_events hf with h1 | ⟨a, len', cap', E, els, sp, h1, h2, h3, h4, h5, h6, h7, h8⟩
    · simp only [List.cons.injEq, Value.slice.injEq, and_true] at h1
      obtain ⟨rfl, rfl, rfl⟩ := h1
      exact walk_nil W
    · simp only [List.cons.injEq, Value.slice.injEq, and_true] at h1
      obtain ⟨rfl, rfl, rfl⟩ := h1
      rcases Nat.eq_zero_or_pos len with hz | hz
      · subst hz
        exact walk_zero a cap W
      · obtain ⟨b, off, rfl, hE, hb⟩ := h7 hz
        have hr := sized_slice hsz0 (j := 0) (t := 25) (e := 35) (elems := els) (spare := sp) rfl (by simpa using h4) Tryd.underlying25
        rw [bytes35, h5, h6] at hr
        unfold reachBytes at hr
        exact walk_some b off len cap E W hz h2 h3 (by omega) henv hb hE h8
  refine key.mono ?_
  rintro e W' ⟨rfl, bel⟩
  refine ⟨_, rfl, _, _, _, [], p, [], hW', ?_, ?_, ?_, bel.frame _, fun h => by cases h⟩
  · exact trodAll_mk1 (shut_bool Tryd.underlying4 _)
  · exact trodAll_mk1 (Below.trod laidOut (by kernel_rfl) (of_decide_eq_true (by kernel_rfl)) h0k bel hlt)
  · rfl

set_option maxRecDepth 100000 in
theorem lifted (os : Os) (started : os.Started) (H : Type) (enc : TypeId × Value → H) (F : Stop.Interp) :
    ReturnsInHanded {} Tryd.checked os 4 .any ((OpenSpec.ofChange Rows.xmlChecksSpec).preRow enc Tryd.prog Tryd.f4 Rows.xmlChecksRow.domain false Rows.xmlChecksRow.laid) (((OpenSpec.ofChange Rows.xmlChecksSpec).at F).post enc Tryd.prog Tryd.f4 false true false false) := by
  refine returnsInHanded_of_row (C := Tryd.checked) (s := OpenSpec.ofChange Rows.xmlChecksSpec) own started (by kernel_rfl) Tryd.func4
    (witness_row_atRef (enc := enc) (C := Tryd.checked) false (laidWorld os) #[.slice none 0 0] rfl (by kernel_rfl) (by kernel_rfl) (by kernel_rfl) (witness_row os enc)) ?_
  intro W base args ds gs before hval hW _ _ hsz hL hsh _
  exact contract H enc W base args ds gs before hval hW hsz hL hsh

theorem said : Rows.XmlChecksSaid :=
  OpenClaim.holds_of_cond 4 Tryd.f4 rfl rfl rfl rfl rfl rfl rfl ⟨rfl, rfl, rfl, rfl, rfl⟩ rfl rfl rfl rfl rfl (by kernel_rfl) Tryd.func4 (by kernel_rfl)
    (of_decide_eq_true (by kernel_rfl)) (by unfold Func.isWrapper; first | (rw [if_pos (by decide +kernel)]; kernel_rfl) | (rw [if_neg (by decide +kernel)]; exact ⟨rfl, rfl⟩))
    (fun os started H enc _ F => by rw [OpenClaim.pre_eq_preRow]; exact lifted os started H enc F)

/-- No parameter wants a stand-in; the program's own looks are off: what the card asks. -/
theorem plain (f : FuncId) (fn : Func) (hf : Tryd.pinned.checked.prog.funcNamed "pleacher/pleacherlaw.XmlChecks" = some f) (hfn : Tryd.pinned.checked.prog.funcs[f]? = some fn) :
    false = Tryd.pinned.checked.prog.looks [] ∧ ∀ (j : Nat) t, fn.params[j]? = some t → Tryd.pinned.checked.prog.wantsStandIn t = false := by
  obtain rfl : f = 4 := Option.some.inj ((show Tryd.prog.funcNamed "pleacher/pleacherlaw.XmlChecks" = some 4 by kernel_rfl).symm.trans hf) |>.symm
  obtain rfl : fn = Tryd.f4 := (Option.some.inj (Tryd.func4.symm.trans hfn)).symm
  refine ⟨by kernel_rfl, fun j t ht => ?_⟩
  rw [Tryd.params4] at ht
  obtain rfl : t = 25 := by simpa using Array.mem_of_getElem? ht
  exact (show Tryd.prog.wantsStandIn 25 = false by kernel_rfl)
end Go.Proofs.YtjhmkffihindlaaDoor.xmlChecks
namespace Go.Proofs.YtjhmkffihindlaaDoor
/-- XmlChecks holds: the card. -/
theorem xmlChecks_card : Rows.XmlChecksCardSaid :=
  Claim7.holds_tied_plain_at .later [] _ _ _ _ xmlChecks.said (fun _ h => by cases h) (by kernel_rfl) (fun _ h => by cases h) xmlChecks_row_tie rfl ⟨rfl, rfl⟩ (by kernel_rfl) rfl xmlChecks.plain (by kernel_rfl)
#print axioms xmlChecks_card
end Go.Proofs.YtjhmkffihindlaaDoor
