/-
  THE TABLES: what the rows list gives what the walks ask; a world in which all that is listed lies, for the witnesses.
-/
import Derived.Test.YtoifdcipialciaaDoorTexts
import Derived.Test.YtoifdcipialciaaDoorEsc
import Derived.OpenShut
import Derived.Test.YtoifdcipialciaaDoorTie
import Derived.ProofKit
import Derived.Lib.LaidTab
import Derived.Lib.LaidIn
import Derived.Lib.LaidU8T
import Derived.PinnedBridge
namespace Go.Proofs.YtoifdcipialciaaDoor
open Go.ChangeShapes Go.WideShapes Go.ChangeAt Go.RowKit

theorem accept_eq : (Rows.laid_unicode_utf8_acceptRanges : DataW Unit) = Lib.acceptData := by kernel_rfl
theorem first_eq : Rows.laid_unicode_utf8_first = Lib.firstData := Pinned.utf8First_eq
/-- what a row lists gives the tables -/
theorem tabs_of {W : World} {l : List (String × DataW Unit)} (hL : laidMet Tryd.prog l W) (hf : ("unicode/utf8.first", Rows.laid_unicode_utf8_first) ∈ l) (ha : ("unicode/utf8.acceptRanges", Rows.laid_unicode_utf8_acceptRanges) ∈ l) : Tabs W := by
  have h1 : Lib.VarReads Tryd.prog W "unicode/utf8.first" Rows.laid_unicode_utf8_first := Lib.laidMet.reads hL hf
  have h2 : Lib.VarReads Tryd.prog W "unicode/utf8.acceptRanges" Rows.laid_unicode_utf8_acceptRanges := Lib.laidMet.reads hL ha
  rw [first_eq] at h1
  rw [accept_eq] at h2
  exact utf8Tabs_of_readsT (U8Types.of196 Tryd.laysValid) ⟨by kernel_rfl, by kernel_rfl, by kernel_rfl, by kernel_rfl, by kernel_rfl, by kernel_rfl, by kernel_rfl⟩ h1 h2

/-- A WORLD FOR THE WITNESSES: the settled one, the variables holding what their initialisers lay. -/
noncomputable def laidWorld (os : Os) : World :=
  let w0 := World.holding Tryd.prog os ⟨#[], #[], []⟩
  let put (h : Array Obj) (g : Nat) (cs : Array Value) : Array Obj := h.modify g fun
    | .cells _ t frozen => .cells cs t frozen
    | o => o
  let h1 := put w0.heap (Tryd.laysValid_ren.g 3) (Lib.firstTab.map fun z => Value.int .u8 z).toArray
  let h2 := put h1 (Tryd.laysValid_ren.g 4) ((List.range 16).flatMap fun i => [Value.int .u8 (Lib.accLo i), Value.int .u8 (Lib.accHi i)]).toArray
  let h3 := put h2 0 escCells
  { w0 with heap := h3 }
theorem cellsEsc : Tryd.prog.cellsOf 63 = 2 := by kernel_rfl
theorem cellsEscs : Tryd.prog.cellsOf 64 = 8 := by kernel_rfl
theorem cells5X : Tryd.prog.cellsOf 5 = 1 := by kernel_rfl
theorem cells9X : Tryd.prog.cellsOf 9 = 1 := by kernel_rfl
theorem gEsc : Tryd.prog.globalNamed "pleacher/xml.escapes" = some 0 := by kernel_rfl
theorem gEscType : (Tryd.prog.globals[0]?).map (·.type) = some 64 := by kernel_rfl
/-- one row of the table -/
theorem open_esc {w : World} {fuel : Nat} {cs : List Value} {n : Int} {l : List UInt8} {q : List MemPlace} (h : DataW.trod (fun _ => ()) Tryd.prog w 0 (fun _ => true) false fuel 63 cs = some (.agg [.lit (.int .u8 n), .lit (.string l)], q)) :
    cs = [.int .u8 n, .string ⟨l.toArray⟩] := by
  obtain ⟨y0, y1, m, hx, hl, h0, h1⟩ := trod_struct2 Tryd.underlying63 h
  rw [cellsEsc] at hl
  match cs, hl with
  | [c0, c1], _ =>
    simp only [cells5X, cells9X, List.drop_zero, List.drop_succ_cons, List.take_succ_cons, List.take_zero] at h0 h1
    obtain ⟨k, e0, f0, _⟩ := DataW.trod_int Tryd.underlying5 h0
    obtain ⟨s, e1, f1, _⟩ := DataW.trod_string Tryd.underlying9 h1
    simp only [List.cons.injEq, and_true] at e0 e1
    subst e0 e1
    rw [f0, f1] at hx
    simp only [Prod.mk.injEq, DataW.agg.injEq, List.cons.injEq, DataW.lit.injEq, Lit.int.injEq, Lit.string.injEq, true_and, and_true] at hx
    obtain ⟨⟨rfl, rfl⟩, _⟩ := hx
    rfl
/-- what a row lists gives the table -/
theorem esc_of {W : World} {l : List (String × DataW Unit)} (hL : laidMet Tryd.prog l W) (he : ("pleacher/xml.escapes", Rows.laid_pleacher_xml_escapes) ∈ l) : EscTab W := by
  obtain ⟨g, t, cs, fuel, p, hg, hty, hvar, hd⟩ := Lib.laidMet.reads hL he
  obtain rfl := Option.some.inj (gEsc.symm.trans hg)
  obtain rfl := Option.some.inj (gEscType.symm.trans hty)
  have hlen : cs.toList.length = 8 := by
    obtain ⟨xs, m, _, _, h, _⟩ := DataW.trod_array Tryd.underlying64 hd
    rw [h, cellsEscs]
  have e0 := Lib.array_elem Tryd.underlying64 hd 0 (by omega)
  have e1 := Lib.array_elem Tryd.underlying64 hd 1 (by omega)
  have e2 := Lib.array_elem Tryd.underlying64 hd 2 (by omega)
  have e3 := Lib.array_elem Tryd.underlying64 hd 3 (by omega)
  obtain ⟨f0, d0, q0, hd0, h0⟩ := e0
  obtain ⟨f1, d1, q1, hd1, h1⟩ := e1
  obtain ⟨f2, d2, q2, hd2, h2⟩ := e2
  obtain ⟨f3, d3, q3, hd3, h3⟩ := e3
  simp only [List.getElem?_cons_zero, List.getElem?_cons_succ, Option.some.injEq] at hd0 hd1 hd2 hd3
  subst hd0 hd1 hd2 hd3
  rw [cellsEsc] at h0 h1 h2 h3
  have g0 := open_esc h0
  have g1 := open_esc h1
  have g2 := open_esc h2
  have g3 := open_esc h3
  have hcs : cs = escCells := by
    obtain ⟨cl⟩ := cs
    simp only at hlen g0 g1 g2 g3
    match cl, hlen with
    | [a0, a1, a2, a3, a4, a5, a6, a7], _ =>
      simp at g0 g1 g2 g3
      obtain ⟨rfl, rfl⟩ := g0
      obtain ⟨rfl, rfl⟩ := g1
      obtain ⟨rfl, rfl⟩ := g2
      obtain ⟨rfl, rfl⟩ := g3
      rfl
  subst hcs
  unfold World.var? at hvar
  rw [gEsc] at hvar
  simp only [Option.bind_some] at hvar
  unfold EscTab
  cases hh : W.heap[0]? with
  | none => rw [hh] at hvar; cases hvar
  | some o =>
    rw [hh] at hvar
    cases o with
    | cells c t fr => simp only [Option.some.injEq] at hvar; subst hvar; exact ⟨t, fr, rfl⟩
    | _ => cases hvar
end Go.Proofs.YtoifdcipialciaaDoor
