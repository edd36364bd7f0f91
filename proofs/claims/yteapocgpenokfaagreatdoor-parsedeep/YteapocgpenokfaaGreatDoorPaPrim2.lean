/-
  CONTRACTS of the parser's want, enter, and of what enter answers.
-/
import Derived.Test.YteapocgpenokfaaGreatDoorPaPrim
import Derived.Defers
set_option linter.unusedVariables false
namespace Go.Proofs.YteapocgpenokfaaGreatDoor
set_option maxRecDepth 100000
open Go.RowKit

theorem skipM_at {T : List Tok} {st : Pst} {t : Tok} : (skipM T st t).2.at' ≤ st.at' + 1 := by
  unfold skipM
  split <;> simp
set_option maxHeartbeats 800000 in
theorem want_is {w : World} {pb b c : Nat} {T : List Tok} {st : Pst} (h : PaS w pb b c T st) (t : Tok) (hT : T.length ≤ 200) (hat : st.at' ≤ 300) :
    Calls Tryz.prog 74 #[.pointer (some ⟨pb, 0, none⟩), .agg #[.int .i64 t.kind, .string t.s, .int .i64 t.n]] w fun e w' => e = .returned (.tuple #[]) ∧ PaS w' pb b c T (wantM T st t) ∧ GrowA pb w w' := by
  have CS : Hid (∀ o, Calls Tryz.prog 54 #[.pointer (some ⟨pb, 0, none⟩), .agg #[.int .i64 t.kind, .string t.s, .int .i64 t.n]] (w.alloc o) fun e w' => e = .returned (.bool (skipM T st t).1) ∧ PaS w' pb b c T (skipM T st t).2 ∧ GrowA pb w w') := fun o => (skip_is (h.allocI o) t hT hat).mono fun e w' ⟨k1, k2, k3⟩ => ⟨k1, k2, ((GrowA.refl _ _).alloc o).trans k3⟩
  unfold wantM
  generalize skipM T st t = r at CS
  obtain ⟨rb, rs⟩ := r
  obtain ⟨tk, ts, tn⟩ := t
  simp only at CS ⊢
  clear h
  cases rb
  · rw [if_neg (by decide)]
    go_enter Tryz.func74, Tryz.ntmps74
    go_wp2_with (first
      | (go_at_call 54; refine (CS.out _).mono ?_; rintro e w1 ⟨rfl, hp1, hg1⟩; have HP1 : Hid (PaS w1 pb b c T rs) := hp1; have HG1 : Hid (GrowA pb w w1) := hg1; clear hp1 hg1)
      | (go_at_call 18; refine (miss_is HP1.out).mono ?_; rintro e w2 ⟨rfl, hp2, hg2⟩))
    first
      | (go_end0; exact ⟨rfl, hp2, HG1.out.trans hg2⟩)
      | (refine bodyPost_ret (v := .tuple #[]) (by simp [results, Tryz.results74, go_sem]) rfl ⟨rfl, hp2, HG1.out.trans hg2⟩)
  · rw [if_pos rfl]
    go_enter Tryz.func74, Tryz.ntmps74
    go_wp2_with (first
      | (go_at_call 54; refine (CS.out _).mono ?_; rintro e w1 ⟨rfl, hp1, hg1⟩; have HP1 : Hid (PaS w1 pb b c T rs) := hp1; have HG1 : Hid (GrowA pb w w1) := hg1; clear hp1 hg1))
    first
      | (go_end0; exact ⟨rfl, HP1.out, HG1.out⟩)
      | (refine bodyPost_ret (v := .tuple #[]) (by simp [results, Tryz.results74, go_sem]) rfl ⟨rfl, HP1.out, HG1.out⟩)
/-- what enter answers: a function that lies with the parser's place in a block of its own -/
def Leave (w : World) (pb q : Nat) : Prop := w.cell? ⟨q, 0, none⟩ = some (.pointer (some ⟨pb, 0, none⟩)) ∧ q < w.heap.size ∧ q ≠ pb
theorem Leave.grow {w w' : World} {pb q : Nat} (h : Leave w pb q) (hg : GrowA pb w w') : Leave w' pb q := ⟨(hg.cell h.2.1 h.2.2).trans h.1, Nat.lt_of_lt_of_le h.2.1 hg.1, h.2.2⟩
theorem failM_opn {st : Pst} {e : Int} : (failM st e).opn = st.opn := by unfold failM; split <;> rfl
theorem missM_opn {T : List Tok} {st : Pst} : (missM T st).opn = st.opn := by unfold missM; split <;> exact failM_opn
theorem PaS.ofO {w : World} {pb b c n : Nat} {T : List Tok} {st : Pst} (h : PaS w pb b c T st) (hn : st.opn + 1 = n) : PaS (w.setCell ⟨pb, 2, none⟩ (.int .i64 n)) pb b c T { st with opn := st.opn + 1 } := by
  rw [hn]; exact h.setO n
set_option maxHeartbeats 1600000 in
theorem enter_is {w : World} {pb b c : Nat} {T : List Tok} {st : Pst} (h : PaS w pb b c T st) (begins : Bool) (ho : st.opn ≤ 100) :
    Calls Tryz.prog 33 #[.pointer (some ⟨pb, 0, none⟩), .bool begins] w fun e w' => ∃ q, e = .returned (.func (.func 49) #[] #[.pointer (some ⟨q, 0, none⟩)]) ∧ Leave w' pb q ∧ PaS w' pb b c T (enterM T st begins) ∧ GrowA pb w w' ∧ w.heap.size ≤ q := by
  have hmf : ∀ (fn : Fn) (first cap : Array Value) (w : World), (Instr.makeFunc fn first cap).run Tryz.prog w = .ok (.func fn first cap) w := fun _ _ _ _ => rfl
  obtain ⟨W1, hW1⟩ : ∃ W, W = w.alloc (.cells #[.pointer (some ⟨pb, 0, none⟩)] 74) := ⟨_, rfl⟩
  have HB1 : Hid (GrowA pb w W1) := by rw [hW1]; exact (GrowA.refl _ _).alloc _
  have HP1 : Hid (PaS W1 pb b c T st) := by rw [hW1]; exact h.allocI _
  have HL1 : Hid (Leave W1 pb w.heap.size) := by rw [hW1]; exact ⟨by simp, by simp, by have := h.pl; omega⟩
  have hq1 := HL1.out.1
  have ho1 := HP1.out.o
  have hf1 := HP1.out.fo
  have hl1 := HL1.out.2.1
  have hwr : IntKind.i64.wrap ((st.opn : Int) + 1) = ((st.opn + 1 : Nat) : Int) := by rw [IntWalk.i64_in _ (by omega)]; simp
  obtain ⟨q1, hq⟩ : ∃ q : Nat, q = st.opn + 1 := ⟨_, rfl⟩
  rw [← hq] at hwr
  unfold enterM
  simp only
  clear h
  by_cases h30 : 30 ≤ st.opn
  · rw [if_pos h30]
    have h30i : (30 : Int) ≤ (st.opn : Int) := by omega
    cases begins
    · rw [if_neg (by decide)]
      have C1 : Hid (Calls Tryz.prog 18 #[.pointer (some ⟨pb, 0, none⟩)] W1 fun e w' => e = .returned (.tuple #[]) ∧ PaS w' pb b c T (missM T st) ∧ GrowA pb W1 w') := miss_is HP1.out
      have HF : Hid (∀ W, PaS W pb b c T (failM (missM T st) 8) → W.cell? ⟨pb, 2, none⟩ = some (.int .i64 st.opn) ∧ W.frozen? ⟨pb, 2, none⟩ = false ∧ PaS (W.setCell ⟨pb, 2, none⟩ (.int .i64 q1)) pb b c T { failM (missM T st) 8 with opn := (failM (missM T st) 8).opn + 1 }) := fun W h => ⟨by have := h.o; rw [failM_opn, missM_opn] at this; exact this, h.fo, h.ofO (by rw [failM_opn, missM_opn, hq])⟩
      go_enter Tryz.func33, Tryz.ntmps33
      go_upto_region 1 with fail
      rw [← hW1]
      clear hW1 hq
      go_wp2_with (first
        | (go_at_call 18; refine C1.out.mono ?_; rintro e w2 ⟨rfl, hp2, hg2⟩; have HP2 : Hid (PaS w2 pb b c T (missM T st)) := hp2; have HG2 : Hid (GrowA pb w w2) := HB1.out.trans hg2; have HL2 : Hid (Leave w2 pb w.heap.size) := HL1.out.grow hg2; have hq2 := HL2.out.1; have hl2 := HL2.out.2.1; clear hp2 hg2)
        | (go_at_call 36; refine (fail_is HP2.out 8).mono ?_; rintro e w3 ⟨rfl, hp3, hg3⟩; have HG3 : Hid (GrowA pb w w3) := HG2.out.trans hg3; have HL3 : Hid (Leave w3 pb w.heap.size) := HL2.out.grow hg3; have hq3 := HL3.out.1; have hl3 := HL3.out.2.1; obtain ⟨ho3, hf3, hx3⟩ := HF.out _ hp3; have HX3 : Hid (PaS (w3.setCell ⟨pb, 2, none⟩ (.int .i64 q1)) pb b c T { failM (missM T st) 8 with opn := (failM (missM T st) 8).opn + 1 }) := hx3; clear hp3 hg3 hx3))
      go_ret
      exact ⟨w.heap.size, rfl, HL3.out.grow ((GrowA.refl _ _).set 2 _), HX3.out, HG3.out.set 2 _, Nat.le_refl _⟩
    · rw [if_pos rfl]
      have HF : Hid (∀ W, PaS W pb b c T (failM st 8) → W.cell? ⟨pb, 2, none⟩ = some (.int .i64 st.opn) ∧ W.frozen? ⟨pb, 2, none⟩ = false ∧ PaS (W.setCell ⟨pb, 2, none⟩ (.int .i64 q1)) pb b c T { failM st 8 with opn := (failM st 8).opn + 1 }) := fun W h => ⟨by have := h.o; rw [failM_opn] at this; exact this, h.fo, h.ofO (by rw [failM_opn, hq])⟩
      go_enter Tryz.func33, Tryz.ntmps33
      go_upto_region 1 with fail
      rw [← hW1]
      clear hW1 hq
      go_wp2_with (first
        | (go_at_call 36; refine (fail_is HP1.out 8).mono ?_; rintro e w3 ⟨rfl, hp3, hg3⟩; have HG3 : Hid (GrowA pb w w3) := HB1.out.trans hg3; have HL3 : Hid (Leave w3 pb w.heap.size) := HL1.out.grow hg3; have hq3 := HL3.out.1; have hl3 := HL3.out.2.1; obtain ⟨ho3, hf3, hx3⟩ := HF.out _ hp3; have HX3 : Hid (PaS (w3.setCell ⟨pb, 2, none⟩ (.int .i64 q1)) pb b c T { failM st 8 with opn := (failM st 8).opn + 1 }) := hx3; clear hp3 hg3 hx3))
      go_ret
      exact ⟨w.heap.size, rfl, HL3.out.grow ((GrowA.refl _ _).set 2 _), HX3.out, HG3.out.set 2 _, Nat.le_refl _⟩
  · rw [if_neg h30]
    have h30i : ¬ (30 : Int) ≤ (st.opn : Int) := by omega
    have HX : Hid (PaS (W1.setCell ⟨pb, 2, none⟩ (.int .i64 q1)) pb b c T { st with opn := st.opn + 1 }) := HP1.out.ofO hq.symm
    go_enter Tryz.func33, Tryz.ntmps33
    go_upto_region 1 with fail
    rw [← hW1]
    clear hW1 hq
    go_wp2
    go_ret
    exact ⟨w.heap.size, rfl, HL1.out.grow ((GrowA.refl _ _).set 2 _), HX.out, HB1.out.set 2 _, Nat.le_refl _⟩
end Go.Proofs.YteapocgpenokfaaGreatDoor
