/-
  PROVED HERE: for every list of events l, the Go law XmlShows of package pleacherlaw returns true: the program's Show answers what the document's answer of P1.3 asks, and the argument reads behind the call as it read before. Conditions: the tables of unicode/utf8 and of package xml hold what the program's text lays (the card ties them); none of my own.
-/
import Derived.Test.YtjhmkffihindlaaDoorXmlChecks
import Derived.Test.YtjhmkffihindlaaDoorXmlEscapes
import Derived.Test.YtjhmkffihindlaaDoorText
set_option linter.unusedVariables false
namespace Go.Proofs.YtjhmkffihindlaaDoor.xmlShows
open Go.ChangeShapes Go.WideShapes Go.ChangeAt Go.RowKit
open xmlChecks (cellsOf cells_len cells_in cells_one evs_of_own info35)

theorem own : ownKnob Tryd.prog.godebug = none := by kernel_rfl
/-- what a document's events are -/
theorem check_ok {E : Nat → Ev} {n : Nat} (h : checkN E n = 0) : n ≤ 400 ∧ okTo E n ∧ (stAt E n).d = 0 := by
  by_cases h4 : 400 < n
  · rw [checkN_size h4] at h; exact absurd h (by decide)
  · have hok : okTo E n := by
      intro j hj
      by_cases he : errAt E j = 0
      · exact he
      · exfalso
        unfold checkN at h
        rw [if_neg h4] at h
        cases hf : (List.range n).find? (fun j => decide (errAt E j ≠ 0)) with
        | none =>
          have := List.find?_eq_none.1 hf j (List.mem_range.2 hj)
          simp at this
          exact he this
        | some q =>
          rw [hf] at h
          have := List.find?_some hf
          simp at this
          exact this h
    rw [checkN_end h4 hok] at h
    by_cases hc : n = 0 ∨ 0 < (stAt E n).d
    · rw [if_pos hc] at h; exact absurd h (by decide)
    · exact ⟨by omega, hok, by omega⟩

set_option maxHeartbeats 400000 in
theorem show_zero (a : Option Addr) (cap : Nat) (w : World) :
    Calls Tryd.prog 14 #[.slice a 0 cap] w fun e w' => e = .returned (.tuple #[.string ⟨#[]⟩, .int .i64 5]) ∧ Below w.heap.size w w' := by
  go_enter Tryd.func14, Tryd.ntmps14
  go_wp2_with (first | (go_at_call 10; refine (check_zero _ _ _).mono ?_; rintro e w1 ⟨rfl, hb⟩))
  go_ret2
  exact ⟨rfl, hb⟩
set_option maxHeartbeats 400000 in
set_option maxRecDepth 100000 in
theorem text_zero (a : Option Addr) (cap : Nat) (w : World) :
    Calls Tryd.prog 15 #[.slice a 0 cap] w fun e w' => e = .returned (.tuple #[.string ⟨#[]⟩, .int .i64 5]) ∧ Below w.heap.size w w' := by
  go_enter Tryd.func15, Tryd.ntmps15
  go_wp2_with (first | (go_at_call 11; refine (fault_zero _ _ _).mono ?_; rintro e w1 ⟨rfl, hb⟩))
  go_ret2
  exact ⟨rfl, hb⟩

/-- what is shown of n events -/
def showS (E : Nat → Ev) (n : Nat) : ByteArray := if checkN E n = 0 then ⟨(showR E n).toArray⟩ else ⟨#[]⟩
theorem show_any (b off n cap : Nat) (E : Nat → Ev) (w : World) (hn0 : 0 < n) (hcap : n ≤ cap) (hm : cap ≤ maxLen) (henv : Env w) (htab : EscTab w) (hb0 : b < w.heap.size) (hE : EvsAt w b off n E)
    (hsz : ∀ i, i < n → (E i).name.size ≤ maxLen ∧ (E i).value.size ≤ maxLen) :
    Calls Tryd.prog 14 #[.slice (some ⟨b, off, none⟩) n cap] w fun e w' => e = .returned (.tuple #[.string (showS E n), .int .i64 (checkN E n)]) ∧ Below w.heap.size w w' := by
  by_cases hc : checkN E n = 0
  · obtain ⟨h1, h2, h3⟩ := check_ok hc
    unfold showS
    rw [if_pos hc, hc]
    exact show_some b off n cap E w h1 hcap hm henv htab hb0 hE hsz hc h2 h3 hn0
  · unfold showS
    rw [if_neg hc]
    exact show_refused b off n cap E w hcap hm henv hb0 hE hsz hc
theorem text_any (b off n cap : Nat) (E : Nat → Ev) (w : World) (hcap : n ≤ cap) (hm : cap ≤ maxLen) (henv : Env w) (hb0 : b < w.heap.size) (hE : EvsAt w b off n E)
    (hsz : ∀ i, i < n → (E i).name.size ≤ maxLen ∧ (E i).value.size ≤ maxLen) :
    Calls Tryd.prog 15 #[.slice (some ⟨b, off, none⟩) n cap] w fun e w' => e = .returned (.tuple #[.string (showS E n), .int .i64 (checkN E n)]) ∧ Below w.heap.size w w' := by
  by_cases hc : checkN E n = 0
  · obtain ⟨h1, h2, h3⟩ := check_ok hc
    unfold showS
    rw [if_pos hc, hc]
    exact text_some b off n cap E w h1 hcap hm henv hb0 hE hsz hc h2
  · unfold showS
    rw [if_neg hc]
    exact text_refused b off n cap E w hcap hm henv hb0 hE hsz hc

set_option maxHeartbeats 400000 in
theorem walk_nil (w : World) :
    Calls Tryd.prog 6 #[.slice none 0 0] w fun e w' => e = .returned (.bool true) ∧ Below w.heap.size w w' := by
  obtain ⟨i0, hi0, hz0, hz1, hz2⟩ := info_parts info35
  go_enter Tryd.func6, Tryd.ntmps6
  go_wp2_with (first | (at_builtin; refine wpList_append_own_none rfl _ _ 25 rfl w.heap.size 35 i0 3 Tryd.underlying25 hi0 _ _ _ rfl (World.ownsRow_nil _ _ _ _) rfl ?_) | (go_at_call 14; refine (show_zero _ _ _).mono ?_; rintro e w1 ⟨rfl, hb1⟩) | (go_at_call 15; refine (text_zero _ _ _).mono ?_; rintro e w2 ⟨rfl, hb2⟩))
  go_ret
  exact ⟨rfl, hb1.trans (hb2.mono hb1.size)⟩

set_option maxHeartbeats 400000 in
theorem walk_zero (a : Addr) (cap : Nat) (w : World) :
    Calls Tryd.prog 6 #[.slice (some a) 0 cap] w fun e w' => e = .returned (.bool true) ∧ Below w.heap.size w w' := by
  obtain ⟨i0, hi0, hz0, hz1, hz2⟩ := info_parts info35
  go_enter Tryd.func6, Tryd.ntmps6
  go_wp2_with (first | (at_builtin; refine wpList_append_own _ rfl _ _ 25 rfl w.heap.size 35 i0 _ 3 40 Tryd.underlying25 hi0 hz0 hz1 hz2 rfl (by decide) _ _ _ rfl (World.ownsRow_nil _ _ _ _) a 0 cap [] rfl rfl (fun j u hj => by simp at hj) (fun u hu => by cases hu) (by decide) (by decide) (Nat.le_refl _) ?_; intro v' w1 hown hgrow hnil))
  have hv : v' = .slice none 0 0 := hnil.2 ⟨rfl, trivial⟩
  subst hv
  have HG : Hid (Below w.heap.size w w1) := (Below.refl _ _).grown hgrow (Nat.le_refl _) (fun k hk => by cases hk)
  clear hown hgrow hnil
  go_wp2_with (first | (go_at_call 14; refine (show_zero _ _ _).mono ?_; rintro e w2 ⟨rfl, hb1⟩) | (go_at_call 15; refine (text_zero _ _ _).mono ?_; rintro e w3 ⟨rfl, hb2⟩))
  go_ret
  exact ⟨rfl, (HG.out.trans (hb1.mono HG.out.size)).trans (hb2.mono (Nat.le_trans HG.out.size hb1.size))⟩

set_option maxHeartbeats 800000 in
theorem walk_some (b off n cap : Nat) (E : Nat → Ev) (w : World) (h0 : 0 < n) (hcap : n ≤ cap) (hm : cap ≤ maxLen) (hreach : n * 40 ≤ 140737488351232) (henv : Env w) (htab : EscTab w) (hb0 : b < w.heap.size) (hE : EvsAt w b off n E)
    (hsz : ∀ i, i < n → (E i).name.size ≤ maxLen ∧ (E i).value.size ≤ maxLen) :
    Calls Tryd.prog 6 #[.slice (some ⟨b, off, none⟩) n cap] w fun e w' => e = .returned (.bool true) ∧ Below w.heap.size w w' := by
  obtain ⟨i0, hi0, hz0, hz1, hz2⟩ := info_parts info35
  have HE : Hid (EvsAt w b off n E) := hE
  have h2 : 2 < w.heap.size := by have := henv.big; omega
  have CC : Hid (∀ W g c, Below w.heap.size w W → n ≤ c → c ≤ maxLen → g < W.heap.size → EvsAt W g 0 n E → Calls Tryd.prog 14 #[.slice (some ⟨g, 0, none⟩) n c] W fun e w' => e = .returned (.tuple #[.string (showS E n), .int .i64 (checkN E n)]) ∧ Below W.heap.size W w') :=
    fun W g c hb h1 h3 h4 h5 => show_any g 0 n c E W h0 h1 h3 (henv.below hb) (htab.below hb h2) h4 h5 hsz
  have CF : Hid (∀ W, Below w.heap.size w W → Calls Tryd.prog 15 #[.slice (some ⟨b, off, none⟩) n cap] W fun e w' => e = .returned (.tuple #[.string (showS E n), .int .i64 (checkN E n)]) ∧ Below W.heap.size W w') :=
    fun W hb => text_any b off n cap E W hcap hm (henv.below hb) (Nat.lt_of_lt_of_le hb0 hb.size) (hE.below hb hb0) hsz
  clear hE hsz henv htab
  go_enter Tryd.func6, Tryd.ntmps6
  go_wp2_with (first | (at_builtin; refine wpList_append_own _ rfl _ _ 25 rfl w.heap.size 35 i0 _ 3 40 Tryd.underlying25 hi0 hz0 hz1 hz2 rfl (by decide) _ _ _ rfl (World.ownsRow_nil _ _ _ _) ⟨b, off, none⟩ n cap (cellsOf E n) rfl (cells_len E n) (cells_in HE.out) (cells_one E n) (by omega) (by omega) (Nat.le_refl _) ?_; intro v' w1 hown hgrow hnil))
  have HG : Hid (Below w.heap.size w w1) := (Below.refl _ _).grown hgrow (Nat.le_refl _) (fun k hk => by cases hk)
  rw [Nat.zero_add, List.nil_append] at hown
  obtain ⟨g, c, rfl, hg1, hg2, hg3⟩ : ∃ g c, v' = .slice (some ⟨g, 0, none⟩) n c ∧ g < w1.heap.size ∧ n ≤ c ∧ c ≤ maxLen := by
    obtain ⟨_, ⟨rfl, h⟩ | ⟨g, c, cur, rfl, q1, q2, q3, q4, _⟩⟩ := hown
    · omega
    · exact ⟨g, c, rfl, (Array.getElem?_eq_some_iff.1 q2).1, q3, q4⟩
  have HX : Hid (EvsAt w1 g 0 n E) := evs_of_own hown
  clear hown hgrow hnil
  go_wp2_with (first | (go_at_call 14; refine (CC.out w1 g c HG.out hg2 hg3 hg1 HX.out).mono ?_; rintro e w2 ⟨rfl, hb1⟩))
  have HG2 : Hid (Below w.heap.size w w2) := HG.out.trans (hb1.mono HG.out.size)
  go_wp2_with (first | (go_at_call 15; refine (CF.out w2 HG2.out).mono ?_; rintro e w3 ⟨rfl, hb2⟩))
  go_ret
  exact ⟨ret_bool (by simp), HG2.out.trans (hb2.mono HG2.out.size)⟩

theorem env_of {W : World} (hL : laidMetH Tryd.prog Rows.xmlShowsRow.laid W) (hsh : W.ShapedOpen Tryd.prog) : Env W ∧ EscTab W := by
  rw [MakeChecks.laidMetH_plain _ _ _ (by kernel_rfl)] at hL
  obtain ⟨m, hm⟩ := Tryd.laysM144.s1_3 W hsh
  exact ⟨⟨tabs_of hL (.tail _ (.tail _ (.head _))) (.head _), block_lt (a := ⟨3, 0, none⟩) hm, m, hm⟩, esc_of hL (.tail _ (.head _))⟩

theorem laid_met (os : Os) (args : Array Value) : laidMet Tryd.prog Rows.xmlShowsRow.laid ((laidWorld os).forCall (fun _ _ => 0) ⟨#[], args, []⟩).memory :=
  (LaidIn.of_run (l := Rows.xmlShowsRow.laid) [1, 2, 0] 8 (by kernel_rfl) (by kernel_rfl) (by kernel_rfl) (by kernel_rfl)).met
theorem witness_row (os : Os) {H : Type} (enc : TypeId × Value → H) :
    (OpenSpec.ofChange Rows.xmlShowsSpec).preRow enc Tryd.prog Tryd.f6 Rows.xmlShowsRow.domain false Rows.xmlShowsRow.laid ((laidWorld os).forCall (fun _ _ => 0) ⟨#[], #[.slice none 0 0], []⟩).memory #[.slice none 0 0] := by
  have hw : (DataW.whole enc Tryd.prog ((laidWorld os).forCall (fun _ _ => 0) ⟨#[], #[.slice none 0 0], []⟩).memory Tryd.f6.params.toList (OpenSpec.ofChange Rows.xmlShowsSpec).vars false #[Value.slice none 0 0].toList 8).map (fun x => (x.1, x.2.1)) =
      some ([.nil], []) := by kernel_rfl
  obtain ⟨⟨x1, x2, x3⟩, hx, hx1⟩ := Option.map_eq_some_iff.1 hw
  simp only [Prod.mk.injEq] at hx1
  obtain ⟨rfl, rfl⟩ := hx1
  exact OpenSpec.preRow_of_cond 8 hx (by kernel_rfl) (fun k hk => by cases hk) (by kernel_rfl) (laid_met os _)

/-- WHAT THE WALKS GIVE, FOR EVERY ARGUMENT AND EVERY WORLD THAT HOLDS THE TABLES. -/
theorem contract (H : Type) (enc : TypeId × Value → H) (W : World) (base : Nat) (args : Array Value) (ds gs : List (DataW H)) (before : List MemPlace)
    (hval : ∀ (j : Nat) t v, Tryd.f6.params[j]? = some t → args[j]? = some v → Value.okWide Tryd.prog W .any base t v)
    (hW : DataW.Whole enc Tryd.prog Tryd.f6.params.toList Rows.xmlShowsSpec.vars false W args.toList ds gs before)
    (hsz0 : (DataW.weightsEach Tryd.prog (Tryd.f6.params.toList ++ (OpenSpec.ofChange Rows.xmlShowsSpec).bare.plain.varTypes Tryd.prog) (ds ++ gs)).all (· ≤ reachBytes) = true)
    (hL : laidMetH Tryd.prog Rows.xmlShowsRow.laid W) (hsh : W.ShapedOpen Tryd.prog) :
    Calls Tryd.prog 6 args W fun e W' => ∃ v, e = .returned v ∧ Rows.xmlShowsSpec.post enc Tryd.prog Tryd.f6 false true false false W args v W' := by
  obtain ⟨henv, htab⟩ := env_of hL hsh
  have hW' := hW
  obtain ⟨p, q, hA0, hV, rfl, hfz, hnd⟩ := hW
  have hA : DataW.TrodAll enc Tryd.prog W 0 (fun _ => true) true Tryd.f6.params.toList args.toList ds p := hA0
  rw [Tryd.params6] at hA hval hsz0
  obtain ⟨v0, d0, rfl, rfl, h0⟩ := trodAll_one hA
  obtain ⟨rfl, rfl⟩ := trodVars_none hV
  have h0k := h0
  have hlt : ∀ x ∈ p, x.block < W.heap.size := fun x hx => by
    have := hW'.lt x (by simpa using hx)
    simpa using this
  obtain ⟨a0, len, cap, rfl⟩ := okWide_slice Tryd.underlying25 (hval 0 25 v0 rfl rfl)
  obtain ⟨fuel, hf0⟩ := h0
  have hf : DataW.trod enc Tryd.prog W 0 (fun _ => true) true fuel 25 [.slice a0 len cap] = some (d0, p) := by simpa [Value.cells] using hf0
  clear hA0
  have key : Calls Tryd.prog 6 #[.slice a0 len cap] W fun e w' => e = .returned (.bool true) ∧ Below W.heap.size W w' := by
    rcases open_events hf with h1 | ⟨a, len', cap', E, els, sp, h1, h2, h3, h4, h5, h6, h7, h8⟩
    · simp only [List.cons.injEq, Value.slice.injEq, and_true] at h1
      obtain ⟨rfl, rfl, rfl⟩ := h1
      exact walk_nil W
    · simp only [List.cons.injEq, Value.slice.injEq, and_true] at h1
      obtain ⟨rfl, rfl, rfl⟩ := h1
      rcases Nat.eq_zero_or_pos len with hz | hz
      · subst hz
        exact walk_zero a cap W
      · obtain ⟨b, off, rfl, hE, hb⟩ := h7 hz
        have hr := sized_slice hsz0 (j := 0) (t := 25) (e := 35) (elems := els) (spare := sp) rfl (by simpa using h4) Tryd.underlying25
        rw [xmlChecks.bytes35, h5, h6] at hr
        unfold reachBytes at hr
        exact walk_some b off len cap E W hz h2 h3 (by omega) henv htab hb hE h8
  refine key.mono ?_
  rintro e W' ⟨rfl, bel⟩
  refine ⟨_, rfl, _, _, _, [], p, [], hW', ?_, ?_, ?_, bel.frame _, fun h => by cases h⟩
  · exact trodAll_mk1 (shut_bool Tryd.underlying4 _)
  · exact trodAll_mk1 (Below.trod xmlChecks.laidOut (by kernel_rfl) (of_decide_eq_true (by kernel_rfl)) h0k bel hlt)
  · rfl

set_option maxRecDepth 100000 in
theorem lifted (os : Os) (started : os.Started) (H : Type) (enc : TypeId × Value → H) (F : Stop.Interp) :
    ReturnsInHanded {} Tryd.checked os 6 .any ((OpenSpec.ofChange Rows.xmlShowsSpec).preRow enc Tryd.prog Tryd.f6 Rows.xmlShowsRow.domain false Rows.xmlShowsRow.laid) (((OpenSpec.ofChange Rows.xmlShowsSpec).at F).post enc Tryd.prog Tryd.f6 false true false false) := by
  refine returnsInHanded_of_row (C := Tryd.checked) (s := OpenSpec.ofChange Rows.xmlShowsSpec) own started (by kernel_rfl) Tryd.func6
    (witness_row_atRef (enc := enc) (C := Tryd.checked) false (laidWorld os) #[.slice none 0 0] rfl (by kernel_rfl) (by kernel_rfl) (by kernel_rfl) (witness_row os enc)) ?_
  intro W base args ds gs before hval hW _ _ hsz hL hsh _
  exact contract H enc W base args ds gs before hval hW hsz hL hsh

theorem said : Rows.XmlShowsSaid :=
  OpenClaim.holds_of_cond 6 Tryd.f6 rfl rfl rfl rfl rfl rfl rfl ⟨rfl, rfl, rfl, rfl, rfl⟩ rfl rfl rfl rfl rfl (by kernel_rfl) Tryd.func6 (by kernel_rfl)
    (of_decide_eq_true (by kernel_rfl)) (by unfold Func.isWrapper; first | (rw [if_pos (by decide +kernel)]; kernel_rfl) | (rw [if_neg (by decide +kernel)]; exact ⟨rfl, rfl⟩))
    (fun os started H enc _ F => by rw [OpenClaim.pre_eq_preRow]; exact lifted os started H enc F)

/-- No parameter wants a stand-in; the program's own looks are off: what the card asks. -/
theorem plain (f : FuncId) (fn : Func) (hf : Tryd.pinned.checked.prog.funcNamed "pleacher/pleacherlaw.XmlShows" = some f) (hfn : Tryd.pinned.checked.prog.funcs[f]? = some fn) :
    false = Tryd.pinned.checked.prog.looks [] ∧ ∀ (j : Nat) t, fn.params[j]? = some t → Tryd.pinned.checked.prog.wantsStandIn t = false := by
  obtain rfl : f = 6 := Option.some.inj ((show Tryd.prog.funcNamed "pleacher/pleacherlaw.XmlShows" = some 6 by kernel_rfl).symm.trans hf) |>.symm
  obtain rfl : fn = Tryd.f6 := (Option.some.inj (Tryd.func6.symm.trans hfn)).symm
  refine ⟨by kernel_rfl, fun j t ht => ?_⟩
  rw [Tryd.params6] at ht
  obtain rfl : t = 25 := by simpa using Array.mem_of_getElem? ht
  exact (show Tryd.prog.wantsStandIn 25 = false by kernel_rfl)
end Go.Proofs.YtjhmkffihindlaaDoor.xmlShows
namespace Go.Proofs.YtjhmkffihindlaaDoor
/-- XmlShows holds: the card. -/
theorem xmlShows_card : Rows.XmlShowsCardSaid :=
  Claim7.holds_tied_plain_at .later [] _ _ _ _ xmlShows.said (fun _ h => by cases h) (by kernel_rfl) (fun _ h => by cases h) xmlShows_row_tie rfl ⟨rfl, rfl⟩ (by kernel_rfl) rfl xmlShows.plain (by kernel_rfl)
#print axioms xmlShows_card
end Go.Proofs.YtjhmkffihindlaaDoor
