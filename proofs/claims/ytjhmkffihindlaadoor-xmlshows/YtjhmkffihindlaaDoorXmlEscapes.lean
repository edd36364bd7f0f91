/-
  PROVED HERE: for every string s that together with its end counts at most 1048576 letters (the second form of the statement: the first one is false by size), the Go law XmlEscapes of package pleacherlaw returns true: the program's Escape answers what the document's answer of P1.3 asks, and the argument reads behind the call as it read before. Conditions: that bound; the table of package xml holds what the program's text lays (the card ties it).
-/
import Derived.Test.YtjhmkffihindlaaDoorCards
import Derived.Test.YtjhmkffihindlaaDoorLaid
import Derived.Test.YtjhmkffihindlaaDoorEscape
import Derived.WalkKit
import Derived.ProofKit
import Derived.OpenShut
import Derived.ShutString
import Derived.Deep.DeepHandedRow
import Derived.Deep.DeepWitnessRowRef
set_option linter.unusedVariables false
namespace Go.Proofs.YtjhmkffihindlaaDoor
open Go.ChangeShapes Go.WideShapes Go.ChangeAt Go.RowKit

theorem cells74 : Tryd.prog.cellsOf 74 = 2 := by kernel_rfl
theorem cells75 : Tryd.prog.cellsOf 75 = 8 := by kernel_rfl
theorem cells5 : Tryd.prog.cellsOf 5 = 1 := by kernel_rfl
theorem cells9' : Tryd.prog.cellsOf 9 = 1 := by kernel_rfl
theorem gEsc : Tryd.prog.globalNamed "pleacher/xml.escapes" = some 2 := by kernel_rfl
theorem gEscType : (Tryd.prog.globals[2]?).map (·.type) = some 75 := by kernel_rfl
/-- one row of the table -/
theorem open_esc {w : World} {fuel : Nat} {cs : List Value} {n : Int} {l : List UInt8} {q : List MemPlace} (h : DataW.trod (fun _ => ()) Tryd.prog w 0 (fun _ => true) false fuel 74 cs = some (.agg [.lit (.int .u8 n), .lit (.string l)], q)) :
    cs = [.int .u8 n, .string ⟨l.toArray⟩] := by
  obtain ⟨y0, y1, m, hx, hl, h0, h1⟩ := trod_struct2 Tryd.underlying74 h
  rw [cells74] at hl
  match cs, hl with
  | [c0, c1], _ =>
    simp only [cells5, cells9', List.drop_zero, List.drop_succ_cons, List.take_succ_cons, List.take_zero] at h0 h1
    obtain ⟨k, e0, f0, _⟩ := DataW.trod_int Tryd.underlying5 h0
    obtain ⟨s, e1, f1, _⟩ := DataW.trod_string Tryd.underlying9 h1
    simp only [List.cons.injEq, and_true] at e0 e1
    subst e0 e1
    rw [f0, f1] at hx
    simp only [Prod.mk.injEq, DataW.agg.injEq, List.cons.injEq, DataW.lit.injEq, Lit.int.injEq, Lit.string.injEq, true_and, and_true] at hx
    obtain ⟨⟨rfl, rfl⟩, _⟩ := hx
    rfl
/-- what a row lists gives the table -/
theorem esc_of {W : World} {l : List (String × DataW Unit)} (hL : laidMet Tryd.prog l W) (he : ("pleacher/xml.escapes", Rows.laid_pleacher_xml_escapes) ∈ l) : EscTab W := by
  obtain ⟨g, t, cs, fuel, p, hg, hty, hvar, hd⟩ := Lib.laidMet.reads hL he
  obtain rfl := Option.some.inj (gEsc.symm.trans hg)
  obtain rfl := Option.some.inj (gEscType.symm.trans hty)
  have hlen : cs.toList.length = 8 := by
    obtain ⟨xs, m, _, _, h, _⟩ := DataW.trod_array Tryd.underlying75 hd
    rw [h, cells75]
  have e0 := Lib.array_elem Tryd.underlying75 hd 0 (by omega)
  have e1 := Lib.array_elem Tryd.underlying75 hd 1 (by omega)
  have e2 := Lib.array_elem Tryd.underlying75 hd 2 (by omega)
  have e3 := Lib.array_elem Tryd.underlying75 hd 3 (by omega)
  obtain ⟨f0, d0, q0, hd0, h0⟩ := e0
  obtain ⟨f1, d1, q1, hd1, h1⟩ := e1
  obtain ⟨f2, d2, q2, hd2, h2⟩ := e2
  obtain ⟨f3, d3, q3, hd3, h3⟩ := e3
  simp only [List.getElem?_cons_zero, List.getElem?_cons_succ, Option.some.injEq] at hd0 hd1 hd2 hd3
  subst hd0 hd1 hd2 hd3
  rw [cells74] at h0 h1 h2 h3
  have g0 := open_esc h0
  have g1 := open_esc h1
  have g2 := open_esc h2
  have g3 := open_esc h3
  have hcs : cs = escCells := by
    obtain ⟨cl⟩ := cs
    simp only at hlen g0 g1 g2 g3
    match cl, hlen with
    | [a0, a1, a2, a3, a4, a5, a6, a7], _ =>
      simp at g0 g1 g2 g3
      obtain ⟨rfl, rfl⟩ := g0
      obtain ⟨rfl, rfl⟩ := g1
      obtain ⟨rfl, rfl⟩ := g2
      obtain ⟨rfl, rfl⟩ := g3
      rfl
  subst hcs
  unfold World.var? at hvar
  rw [gEsc] at hvar
  simp only [Option.bind_some] at hvar
  unfold EscTab
  cases hh : W.heap[2]? with
  | none => rw [hh] at hvar; cases hvar
  | some o =>
    rw [hh] at hvar
    cases o with
    | cells c t fr => simp only [Option.some.injEq] at hvar; subst hvar; exact ⟨t, fr, rfl⟩
    | _ => cases hvar
end Go.Proofs.YtjhmkffihindlaaDoor
namespace Go.Proofs.YtjhmkffihindlaaDoor.xmlEscapes
open Go.ChangeShapes Go.WideShapes Go.ChangeAt Go.RowKit
open Go.ChangeMaps (open_string shut_string)

theorem own : ownKnob Tryd.prog.godebug = none := by kernel_rfl

set_option maxHeartbeats 400000 in
theorem walk (s : ByteArray) (hs : s.size ≤ 1099511627776) (w : World) (hT : EscTab w) (h2 : 2 < w.heap.size) :
    Calls Tryd.prog 5 #[.string s] w fun e w' => e = .returned (.bool true) ∧ Below w.heap.size w w' := by
  have C1 : Hid (Calls Tryd.prog 12 #[.string s] w fun e w' => e = .returned (.string ⟨(escL s.data.toList).toArray⟩) ∧ Below w.heap.size w w') := escape_any s w hs hT h2
  have C2 : Hid (∀ w1, Calls Tryd.prog 13 #[.string s] w1 fun e w' => e = .returned (.string ⟨(escL s.data.toList).toArray⟩) ∧ Below w1.heap.size w1 w') :=
    fun w1 => escaped_any s w1 hs
  clear hT
  go_enter Tryd.func5, Tryd.ntmps5
  go_wp2_with (go_at_call 12; refine C1.out.mono ?_; rintro e w1 ⟨rfl, hb⟩)
  go_wp2_with (go_at_call 13; refine (C2.out w1).mono ?_; rintro e w2 ⟨rfl, hb2⟩)
  go_ret
  exact ⟨ret_bool (by simp), hb.trans (hb2.mono hb.size)⟩

theorem tab_of {W : World} (hL : laidMetH Tryd.prog Rows.xmlEscapesUptoRow.laid W) : EscTab W := by
  rw [MakeChecks.laidMetH_plain _ _ _ (by kernel_rfl)] at hL
  exact esc_of hL (.head _)
theorem big_of {W : World} (h : EscTab W) : 2 < W.heap.size := by
  obtain ⟨t, fr, h⟩ := h
  exact (Array.getElem?_eq_some_iff.1 h).1

theorem laid_met (os : Os) (args : Array Value) : laidMet Tryd.prog Rows.xmlEscapesUptoRow.laid ((laidWorld os).forCall (fun _ _ => 0) ⟨#[], args, []⟩).memory :=
  (LaidIn.of_run (l := Rows.xmlEscapesUptoRow.laid) [2] 8 (by kernel_rfl) (by kernel_rfl) (by kernel_rfl) (by kernel_rfl)).met
theorem witness_row (os : Os) {H : Type} (enc : TypeId × Value → H) :
    (Rows.OpenSpec.upto Rows.xmlEscapesSpec).preRow enc Tryd.prog Tryd.f5 Rows.xmlEscapesUptoRow.domain false Rows.xmlEscapesUptoRow.laid ((laidWorld os).forCall (fun _ _ => 0) ⟨#[], #[.string ⟨#[]⟩], []⟩).memory #[.string ⟨#[]⟩] := by
  have hw : (DataW.whole enc Tryd.prog ((laidWorld os).forCall (fun _ _ => 0) ⟨#[], #[.string ⟨#[]⟩], []⟩).memory Tryd.f5.params.toList (Rows.OpenSpec.upto Rows.xmlEscapesSpec).vars false #[Value.string ⟨#[]⟩].toList 8).map (fun x => (x.1, x.2.1)) =
      some ([.lit (.string [])], []) := by kernel_rfl
  obtain ⟨⟨x1, x2, x3⟩, hx, hx1⟩ := Option.map_eq_some_iff.1 hw
  simp only [Prod.mk.injEq] at hx1
  obtain ⟨rfl, rfl⟩ := hx1
  exact OpenSpec.preRow_of_cond 8 hx (by kernel_rfl) (fun k hk => by cases hk; kernel_rfl) (by kernel_rfl) (laid_met os _)

/-- WHAT THE WALK GIVES, FOR EVERY ARGUMENT OF THAT BULK AND EVERY WORLD THAT HOLDS THE TABLE. -/
theorem contract (H : Type) (enc : TypeId × Value → H) (W : World) (base : Nat) (args : Array Value) (ds gs : List (DataW H)) (before : List MemPlace)
    (hval : ∀ (j : Nat) t v, Tryd.f5.params[j]? = some t → args[j]? = some v → Value.okWide Tryd.prog W .any base t v)
    (hW : DataW.Whole enc Tryd.prog Tryd.f5.params.toList Rows.xmlEscapesSpec.vars false W args.toList ds gs before)
    (hcond : Rows.uptoSmall H (ds ++ gs) = true) (hL : laidMetH Tryd.prog Rows.xmlEscapesUptoRow.laid W) :
    Calls Tryd.prog 5 args W fun e W' => ∃ v, e = .returned v ∧ Rows.xmlEscapesSpec.post enc Tryd.prog Tryd.f5 false true false false W args v W' := by
  have hW' := hW
  obtain ⟨p, q, hA0, hV, rfl, hfz, hnd⟩ := hW
  have hA : DataW.TrodAll enc Tryd.prog W 0 (fun _ => true) true Tryd.f5.params.toList args.toList ds p := hA0
  rw [Tryd.params5] at hA hval
  obtain ⟨v0, d0, rfl, rfl, h0⟩ := trodAll_one hA
  obtain ⟨rfl, rfl⟩ := trodVars_none hV
  obtain ⟨s, rfl, rfl, rfl, ws⟩ := open_string Tryd.underlying9 (hval 0 9 v0 rfl rfl) h0
  clear hA0
  have hs : s.size ≤ 1099511627776 := by
    have h1 := of_decide_eq_true hcond
    simp only [List.append_nil, Rows.uptoBulkAll, Rows.uptoBulk] at h1
    have h2 : s.data.toList.length = s.size := rfl
    omega
  refine (walk s hs W (tab_of hL) (big_of (tab_of hL))).mono ?_
  rintro e W' ⟨rfl, bel⟩
  refine ⟨_, rfl, _, _, _, [], [], [], hW', ?_, ?_, ?_, bel.frame _, fun h => by cases h⟩
  · exact trodAll_mk1 (shut_bool Tryd.underlying4 _)
  · exact trodAll_mk1 (shut_string Tryd.underlying9 ws)
  · rfl

set_option maxRecDepth 100000 in
theorem lifted (os : Os) (started : os.Started) (H : Type) (enc : TypeId × Value → H) (F : Stop.Interp) :
    ReturnsInHanded {} Tryd.checked os 5 .any ((Rows.OpenSpec.upto Rows.xmlEscapesSpec).preRow enc Tryd.prog Tryd.f5 Rows.xmlEscapesUptoRow.domain false Rows.xmlEscapesUptoRow.laid) (((Rows.OpenSpec.upto Rows.xmlEscapesSpec).at F).post enc Tryd.prog Tryd.f5 false true false false) := by
  refine returnsInHanded_of_row (C := Tryd.checked) (s := Rows.OpenSpec.upto Rows.xmlEscapesSpec) own started (by kernel_rfl) Tryd.func5
    (witness_row_atRef (enc := enc) (C := Tryd.checked) false (laidWorld os) #[.string ⟨#[]⟩] rfl (by kernel_rfl) (by kernel_rfl) (by kernel_rfl) (witness_row os enc)) ?_
  intro W base args ds gs before hval hW _ hcond _ hL _ _
  exact contract H enc W base args ds gs before hval hW (hcond _ rfl) hL

theorem said : Rows.XmlEscapesUptoSaid :=
  OpenClaim.holds_of_cond 5 Tryd.f5 rfl rfl rfl rfl rfl rfl rfl ⟨rfl, rfl, rfl, rfl, rfl⟩ rfl rfl rfl rfl rfl (by kernel_rfl) Tryd.func5 (by kernel_rfl)
    (of_decide_eq_true (by kernel_rfl)) (by unfold Func.isWrapper; first | (rw [if_pos (by decide +kernel)]; kernel_rfl) | (rw [if_neg (by decide +kernel)]; exact ⟨rfl, rfl⟩))
    (fun os started H enc _ F => by rw [OpenClaim.pre_eq_preRow]; exact lifted os started H enc F)

/-- No parameter wants a stand-in; the program's own looks are off: what the card asks. -/
theorem plain (f : FuncId) (fn : Func) (hf : Tryd.pinned.checked.prog.funcNamed "pleacher/pleacherlaw.XmlEscapes" = some f) (hfn : Tryd.pinned.checked.prog.funcs[f]? = some fn) :
    false = Tryd.pinned.checked.prog.looks [] ∧ ∀ (j : Nat) t, fn.params[j]? = some t → Tryd.pinned.checked.prog.wantsStandIn t = false := by
  obtain rfl : f = 5 := Option.some.inj ((show Tryd.prog.funcNamed "pleacher/pleacherlaw.XmlEscapes" = some 5 by kernel_rfl).symm.trans hf) |>.symm
  obtain rfl : fn = Tryd.f5 := (Option.some.inj (Tryd.func5.symm.trans hfn)).symm
  refine ⟨by kernel_rfl, fun j t ht => ?_⟩
  rw [Tryd.params5] at ht
  obtain rfl : t = 9 := by simpa using Array.mem_of_getElem? ht
  exact (show Tryd.prog.wantsStandIn 9 = false by kernel_rfl)
end Go.Proofs.YtjhmkffihindlaaDoor.xmlEscapes
namespace Go.Proofs.YtjhmkffihindlaaDoor
/-- XmlEscapes holds up to that bulk: the card. -/
theorem xmlEscapes_upto_card : Rows.XmlEscapesUptoCardSaid :=
  Claim7.holds_tied_plain_at .later [] _ _ _ _ xmlEscapes.said (fun _ h => by cases h) (by kernel_rfl) (fun _ h => by cases h) xmlEscapesUpto_row_tie rfl ⟨rfl, rfl⟩ (by kernel_rfl) rfl xmlEscapes.plain (by kernel_rfl)
#print axioms xmlEscapes_upto_card
end Go.Proofs.YtjhmkffihindlaaDoor
