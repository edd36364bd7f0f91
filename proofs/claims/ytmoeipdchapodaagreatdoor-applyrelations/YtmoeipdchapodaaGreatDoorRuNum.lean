/-
  CONTRACTS: what the functions + - div mod tell of two numbers (pleacherkeep.answered at the plan of two ops).
-/
import Derived.Test.YtmoeipdchapodaaGreatDoorRuEvM
set_option linter.unusedVariables false
namespace Go.Proofs.YtmoeipdchapodaaGreatDoor
set_option maxRecDepth 100000
open Go.RowKit Go.WideShapes

def numI (n : Int) : It := ⟨2, n, ⟨#[]⟩⟩
def ePlus : FnE := ⟨⟨#[43]⟩, 2, 96, [(.func (.func 42) #[] #[], 91)]⟩
def eMinus : FnE := ⟨⟨#[45]⟩, 2, 96, [(.func (.func 43) #[] #[], 91)]⟩
def eQuot : FnE := ⟨⟨#[100, 105, 118]⟩, 2, 96, [(.func (.func 45) #[] #[], 91)]⟩
def eRem : FnE := ⟨⟨#[109, 111, 100]⟩, 2, 96, [(.func (.func 46) #[] #[], 91)]⟩
theorem okPlus : FnOk ⟨#[43]⟩ ePlus := ⟨List.mem_of_getElem? (i := 24) (by kernel_rfl), rfl, rfl⟩
theorem okMinus : FnOk ⟨#[45]⟩ eMinus := ⟨List.mem_of_getElem? (i := 23) (by kernel_rfl), rfl, rfl⟩
theorem okQuot : FnOk ⟨#[100, 105, 118]⟩ eQuot := ⟨List.mem_of_getElem? (i := 21) (by kernel_rfl), rfl, rfl⟩
theorem okRem : FnOk ⟨#[109, 111, 100]⟩ eRem := ⟨List.mem_of_getElem? (i := 20) (by kernel_rfl), rfl, rfl⟩
theorem val_plus (w : World) (x y r : Int) (ok : Bool) (hg : NumOk 42 x y r ok) : ValOk w ePlus (numI x) (numI y) (numI r) ok := by
  intro ob W ib b _ hc hib
  obtain ⟨c0, c1, c2, c3, c4, c5, _, _, _, _, _, _, hz⟩ := blk6 hib
  exact of_plus _ x y r _ _ ok hg ib b 2 W (Nat.le_refl _) (by unfold maxLen; omega) hz (hc 0 (by decide)) c0 c1 c2 c3 c4 c5
theorem val_minus (w : World) (x y r : Int) (ok : Bool) (hg : NumOk 43 x y r ok) : ValOk w eMinus (numI x) (numI y) (numI r) ok := by
  intro ob W ib b _ hc hib
  obtain ⟨c0, c1, c2, c3, c4, c5, _, _, _, _, _, _, hz⟩ := blk6 hib
  exact of_minus _ x y r _ _ ok hg ib b 2 W (Nat.le_refl _) (by unfold maxLen; omega) hz (hc 0 (by decide)) c0 c1 c2 c3 c4 c5
theorem val_quot (w : World) (x y r : Int) (ok : Bool) (hg : NumOk 45 x y r ok) : ValOk w eQuot (numI x) (numI y) (numI r) ok := by
  intro ob W ib b _ hc hib
  obtain ⟨c0, c1, c2, c3, c4, c5, _, _, _, _, _, _, hz⟩ := blk6 hib
  exact of_quot _ x y r _ _ ok hg ib b 2 W (Nat.le_refl _) (by unfold maxLen; omega) hz (hc 0 (by decide)) c0 c1 c2 c3 c4 c5
theorem val_rem (w : World) (x y r : Int) (ok : Bool) (hg : NumOk 46 x y r ok) : ValOk w eRem (numI x) (numI y) (numI r) ok := by
  intro ob W ib b _ hc hib
  obtain ⟨c0, c1, c2, c3, c4, c5, _, _, _, _, _, _, hz⟩ := blk6 hib
  exact of_rem _ x y r _ _ ok hg ib b 2 W (Nat.le_refl _) (by unfold maxLen; omega) hz (hc 0 (by decide)) c0 c1 c2 c3 c4 c5
theorem may_num {x : Int} (h : -1099511627776 ≤ x ∧ x ≤ 1099511627776) : mayI (numI x) = true := by
  have e : mayI (numI x) = decide ((⟨#[]⟩ : ByteArray).size = 0 ∧ -1099511627776 ≤ x ∧ x ≤ 1099511627776) := rfl
  rw [e]
  exact decide_eq_true ⟨rfl, h.1, h.2⟩
theorem may_num_no {x : Int} (h : ¬ (-1099511627776 ≤ x ∧ x ≤ 1099511627776)) : mayI (numI x) = false := by
  have e : mayI (numI x) = decide ((⟨#[]⟩ : ByteArray).size = 0 ∧ -1099511627776 ≤ x ∧ x ≤ 1099511627776) := rfl
  rw [e]
  exact decide_eq_false (fun k => h ⟨k.2.1, k.2.2⟩)
theorem tab_num {x y : Int} (h : -1099511627776 ≤ x ∧ x ≤ 1099511627776) (h' : -1099511627776 ≤ y ∧ y ≤ 1099511627776) : tabF (numI x) (numI y) = 0 := by
  unfold tabF
  rw [if_pos ⟨may_num h, may_num h'⟩]
theorem num_kind (x : Int) : ¬ (numI x).kind = 1 := show ¬ (2 : Int) = 1 by decide
theorem num_size (x : Int) : (numI x).s.size ≤ maxLen := show (⟨#[]⟩ : ByteArray).size ≤ maxLen by decide
def noI : It := ⟨0, 0, ⟨#[]⟩⟩
theorem tab_none (y : It) : ¬ tabF noI y = 0 := by
  unfold tabF
  have e : mayI noI = false := by decide +kernel
  rw [if_neg (by rw [e]; exact fun h => nomatch h.1)]
  decide
/-- what is asked of the answer of pleacherkeep.answered at the plan of a function of two items -/
def Answers (w : World) (fn : ByteArray) (x y r : It) (E : Int) : Prop :=
  ∀ W pb cb qb rb ib rcap, Below w.heap.size w W → PlS W pb cb qb rb ib rcap x y fn → Calls Tryz.prog 11 #[.slice (some ⟨pb, 0, none⟩) 2 2, .slice none 0 0] W fun e w' => e = .returned (.tuple #[.agg #[.int .i64 r.kind, .int .i64 r.n, .string r.s], .int .i64 E]) ∧ Below W.heap.size W w'
structure RunEnv (w : World) : Prop where
  ins : InTab w
  tabs : ∀ W, Below w.heap.size w W → Tabs W
theorem RunEnv.below {w w' : World} (h : RunEnv w) (hb : Below w.heap.size w w') : RunEnv w' := ⟨h.ins.below hb, fun W hW => h.tabs W (hb.trans (hW.mono hb.size))⟩
theorem answers_good {w : World} {fn : ByteArray} {e0 : FnE} {x y r : It} (hw : RunEnv w) (hfn : FnOk fn e0) (hx : ¬ x.kind = 1) (hy : ¬ y.kind = 1) (ht : tabF x y = 0)
    (hrun : ∀ (args : Array Value) (W : World), Sem.run Tryz.prog (callFunc e0.f args) W = .ok (.enter e0.f args) W) (hrs : r.s.size ≤ maxLen) (hmay : mayI r = true) (hval : ValOk w e0 x y r true) : Answers w fn x y r 0 :=
  fun W pb cb qb rb ib rcap hW h => ans_good pb cb qb rb ib rcap x y r fn e0 W h hx hy (hw.ins.below hW) (fun W' hW' => hw.tabs W' (hW.trans (hW'.mono hW.size))) hfn ht hrun hrs hmay (hval.below hW)
theorem answers_bad {w : World} {fn : ByteArray} {e0 : FnE} {x y r : It} {ok : Bool} (hw : RunEnv w) (hfn : FnOk fn e0) (hx : ¬ x.kind = 1) (hy : ¬ y.kind = 1) (ht : tabF x y = 0)
    (hrun : ∀ (args : Array Value) (W : World), Sem.run Tryz.prog (callFunc e0.f args) W = .ok (.enter e0.f args) W) (hrs : r.s.size ≤ maxLen) (hbad : ok = false ∨ mayI r = false) (hval : ValOk w e0 x y r ok) : Answers w fn x y noI 12 :=
  fun W pb cb qb rb ib rcap hW h => ans_bad pb cb qb rb ib rcap x y r fn e0 W h hx hy (hw.ins.below hW) (fun W' hW' => hw.tabs W' (hW.trans (hW'.mono hW.size))) hfn ht hrun hrs ok hbad (hval.below hW)
theorem answers_tab {w : World} {fn : ByteArray} {e0 : FnE} {x y : It} (hw : RunEnv w) (hfn : FnOk fn e0) (hx : ¬ x.kind = 1) (hy : ¬ y.kind = 1) (ht : ¬ tabF x y = 0) : Answers w fn x y noI 12 :=
  fun W pb cb qb rb ib rcap hW h => ans_tab pb cb qb rb ib rcap x y fn e0 W h hx hy (hw.ins.below hW) (fun W' hW' => hw.tabs W' (hW.trans (hW'.mono hW.size))) hfn ht
theorem enters_ofI (args : Array Value) (W : World) : Sem.run Tryz.prog (callFunc 96 args) W = .ok (.enter 96 args) W := rfl
theorem ans_plus {w : World} (hw : RunEnv w) {x y : Int} (hx : -1099511627776 ≤ x ∧ x ≤ 1099511627776) (hy : -1099511627776 ≤ y ∧ y ≤ 1099511627776) (hs : -1099511627776 ≤ x + y ∧ x + y ≤ 1099511627776) : Answers w ⟨#[43]⟩ (numI x) (numI y) (numI (x + y)) 0 :=
  answers_good hw okPlus (num_kind _) (num_kind _) (tab_num hx hy) enters_ofI (num_size _) (may_num hs) (val_plus w x y _ true (plus_is x y hx hy))
theorem ans_plus_no {w : World} (hw : RunEnv w) {x y : Int} (hx : -1099511627776 ≤ x ∧ x ≤ 1099511627776) (hy : -1099511627776 ≤ y ∧ y ≤ 1099511627776) (hs : ¬ (-1099511627776 ≤ x + y ∧ x + y ≤ 1099511627776)) : Answers w ⟨#[43]⟩ (numI x) (numI y) noI 12 :=
  answers_bad hw okPlus (num_kind _) (num_kind _) (tab_num hx hy) enters_ofI (num_size _) (.inr (may_num_no hs)) (val_plus w x y _ true (plus_is x y hx hy))
theorem ans_minus {w : World} (hw : RunEnv w) {x y : Int} (hx : -1099511627776 ≤ x ∧ x ≤ 1099511627776) (hy : -1099511627776 ≤ y ∧ y ≤ 1099511627776) (hs : -1099511627776 ≤ x - y ∧ x - y ≤ 1099511627776) : Answers w ⟨#[45]⟩ (numI x) (numI y) (numI (x - y)) 0 :=
  answers_good hw okMinus (num_kind _) (num_kind _) (tab_num hx hy) enters_ofI (num_size _) (may_num hs) (val_minus w x y _ true (minus_is x y hx hy))
theorem ans_minus_no {w : World} (hw : RunEnv w) (y : Int) : Answers w ⟨#[45]⟩ noI (numI y) noI 12 :=
  answers_tab hw okMinus (by decide) (num_kind _) (tab_none _)
theorem tdiv_in {x y : Int} (hx : -1099511627776 ≤ x ∧ x ≤ 1099511627776) : -1099511627776 ≤ x.tdiv y ∧ x.tdiv y ≤ 1099511627776 := by
  have := small_tdiv x y
  omega
theorem tmod_in {x y : Int} (hx : -1099511627776 ≤ x ∧ x ≤ 1099511627776) : -1099511627776 ≤ x.tmod y ∧ x.tmod y ≤ 1099511627776 := by
  have := small_tmod x y
  omega
theorem ans_quot {w : World} (hw : RunEnv w) {x y : Int} (hx : -1099511627776 ≤ x ∧ x ≤ 1099511627776) (hy : -1099511627776 ≤ y ∧ y ≤ 1099511627776) (h0 : ¬ y = 0) : Answers w ⟨#[100, 105, 118]⟩ (numI x) (numI y) (numI (x.tdiv y)) 0 :=
  answers_good hw okQuot (num_kind _) (num_kind _) (tab_num hx hy) enters_ofI (num_size _) (may_num (tdiv_in hx)) (val_quot w x y _ true (quot_some x y hx hy h0))
theorem ans_quot_no {w : World} (hw : RunEnv w) {x : Int} (hx : -1099511627776 ≤ x ∧ x ≤ 1099511627776) : Answers w ⟨#[100, 105, 118]⟩ (numI x) (numI 0) noI 12 :=
  answers_bad hw okQuot (num_kind _) (num_kind _) (tab_num hx (by decide)) enters_ofI (r := numI 0) (num_size _) (.inl rfl) (val_quot w x 0 0 false (quot_none x))
theorem ans_rem {w : World} (hw : RunEnv w) {x y : Int} (hx : -1099511627776 ≤ x ∧ x ≤ 1099511627776) (hy : -1099511627776 ≤ y ∧ y ≤ 1099511627776) (h0 : ¬ y = 0) : Answers w ⟨#[109, 111, 100]⟩ (numI x) (numI y) (numI (x.tmod y)) 0 :=
  answers_good hw okRem (num_kind _) (num_kind _) (tab_num hx hy) enters_ofI (num_size _) (may_num (tmod_in hx)) (val_rem w x y _ true (rem_some x y hx hy h0))
theorem ans_rem_no {w : World} (hw : RunEnv w) {x : Int} (hx : -1099511627776 ≤ x ∧ x ≤ 1099511627776) : Answers w ⟨#[109, 111, 100]⟩ (numI x) (numI 0) noI 12 :=
  answers_bad hw okRem (num_kind _) (num_kind _) (tab_num hx (by decide)) enters_ofI (r := numI 0) (num_size _) (.inl rfl) (val_rem w x 0 0 false (rem_none x))
end Go.Proofs.YtmoeipdchapodaaGreatDoor
