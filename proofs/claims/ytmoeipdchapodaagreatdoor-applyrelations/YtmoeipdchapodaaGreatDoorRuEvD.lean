/-
  CONTRACTS of package run at a plan of two ops, a table and a function of its two columns: its evaluation: a row with its value.
-/
import Derived.Test.YtmoeipdchapodaaGreatDoorRuEvC
import Derived.Deep.QuietTactic
import Derived.Deep.Cut
import Derived.BigQuiet
import Derived.Deep.RegionLaw
import Derived.Laws.EntriesVeiled
set_option linter.unusedVariables false
namespace Go.Proofs.YtmoeipdchapodaaGreatDoor
set_option maxRecDepth 100000
open Go.RowKit Go.WideShapes

theorem drew_belowE (B : Nat) (w : World) : Below B w w.drew := ⟨rfl, rfl, rfl, Nat.le_refl _, fun _ _ => rfl⟩
theorem its_kept {w w' : World} {base B : Nat} {u : Value} {n : Nat} {X : Nat → It} (h : ItsApart w base none u n X) (hB : B ≤ base) (hs : w.heap.size ≤ w'.heap.size) (hb : ∀ b, base ≤ b → b < w.heap.size → w'.heap[b]? = w.heap[b]?) : ItsApart w' B none u n X := by
  obtain ⟨a, cap, h1, h2, h3, h4, h5⟩ := h
  refine ⟨a, cap, h1, h2, h3, h4, fun h0 => ?_⟩
  obtain ⟨b, off, k1, k2, k3, k4, k5⟩ := h5 h0
  exact ⟨b, off, k1, by omega, by omega, (fun h => nomatch h), k5.block (hb b k3 k2)⟩
/-- the three items of a row that was made -/
def X3 (x y r : It) : Nat → It := fun i => if i < 2 then (if i = 0 then x else y) else r
set_option maxHeartbeats 6400000 in
theorem apply1_good (F : FuncId) (caps : Array Value) (fp : Value) (vb fb mb qb ib rb ro rk ck B : Nat) (ca : Option Addr) (x y r : It) (w : World) (hrun : ∀ (args : Array Value) (W : World), Sem.run Tryz.prog (callFunc F args) W = .ok (.enter F args) W) (hvb : w.heap[vb]? = some (.cells #[.func (.func F) #[] caps] 82)) (hfb : w.heap[fb]? = some (.cells #[fp] 77)) (hrs : r.s.size ≤ maxLen) (hT : ∀ W, Below w.heap.size w W → Tabs W) (hM : MadeAt w mb qb ca ck) (hne : mb ≠ qb) (hBm : B ≤ mb) (hBq : B ≤ qb) (hr : TwoAt w rb ro x y) (hrk : 2 ≤ rk) (hrm : rk ≤ maxLen)
    (hval : Calls Tryz.prog F (#[fp, .slice (some ⟨ib, 0, none⟩) 2 2] ++ caps) w fun e w' => e = .returned (.tuple #[.agg #[.int .i64 r.kind, .int .i64 r.n, .string r.s], .bool true]) ∧ Below w.heap.size w w') (hmay : mayI r = true) :
    Calls Tryz.prog 124 #[.slice (some ⟨rb, ro, none⟩) 2 rk, .slice (some ⟨ib, 0, none⟩) 2 2, .pointer (some ⟨vb, 0, none⟩), .pointer (some ⟨fb, 0, none⟩), .pointer (some ⟨mb, 0, none⟩)] w fun e w' => e = .returned (.int .i64 0) ∧ ∃ a k, w'.heap[mb]? = some (.cells #[.slice ca 3 ck, .slice (some ⟨qb, 0, none⟩) 1 1] 36) ∧ w'.heap[qb]? = some (.cells #[.slice a 3 k] 33) ∧ ItsApart w' B none (.slice a 3 k) 3 (X3 x y r) ∧ Below B w w' := by
  obtain ⟨v0, _, v1⟩ := blk1 hvb
  obtain ⟨f0, _, f1⟩ := blk1 hfb
  have CV : Hid (Calls Tryz.prog F (#[fp, .slice (some ⟨ib, 0, none⟩) 2 2] ++ caps) w fun e w' => e = .returned (.tuple #[.agg #[.int .i64 r.kind, .int .i64 r.n, .string r.s], .bool true]) ∧ Below w.heap.size w w') := hval
  have CK : Hid (∀ W, Below w.heap.size w W → Calls Tryz.prog 125 #[.agg #[.int .i64 r.kind, .int .i64 r.n, .string r.s]] W fun e w' => e = .returned (.int .i64 0) ∧ Below W.heap.size W w') := fun W hW => by
    have k := checkItem_any r.kind r.n r.s W hrs (hT W hW)
    have e : itemF ⟨r.kind, r.n, r.s⟩ = 0 := by unfold itemF; exact if_pos hmay
    rw [e] at k
    exact k
  have HM : Hid (∀ W, Below w.heap.size w W → MadeAt W mb qb ca ck) := fun W hW => hM.below hW
  have HR : Hid (∀ W, Below w.heap.size w W → ItsIs W (.slice (some ⟨rb, ro, none⟩) 2 rk) 2 (fun i => if i = 0 then x else y)) := fun W hW => two_its (hr.below hW) hrk hrm
  have hBw : B < w.heap.size := Nat.lt_of_le_of_lt hBm (Array.getElem?_eq_some_iff.1 hM.st).1
  clear hvb hfb hval hT hM hr hmay hrs
  go_enter Tryz.func124, Tryz.ntmps124
  go_wp2_with fail
  refine CV.out.mono ?_
  rintro e w1 ⟨rfl, hb1⟩
  have HB1 : Hid (Below w.heap.size w w1) := hb1
  have hz1 := hb1.size
  clear hb1
  go_upto_region 4 with (go_at_call 125; refine (CK.out _ ?_).mono ?_; (· (focus (repeat (first | exact Below.refl _ _ | exact Hid.out (by assumption) | refine Below.setCell ?_ (by first | omega | (simp <;> omega)) _ | refine Below.alloc ?_ (by first | omega | (simp <;> omega)) _)))); rintro e w2 ⟨rfl, hb2⟩; have HB2 : Hid (Below w.heap.size w w2) := Below.trans (by (focus (repeat (first | exact Below.refl _ _ | exact Hid.out (by assumption) | refine Below.setCell ?_ (by first | omega | (simp <;> omega)) _ | refine Below.alloc ?_ (by first | omega | (simp <;> omega)) _)))) (hb2.mono (by first | omega | (simp <;> omega))); have HX2 : Hid (w2.heap[w1.heap.size]? = some (.cells #[.int .i64 r.kind, .int .i64 r.n, .string r.s] 24)) := (hb2.block _ (by first | omega | (simp <;> omega))).trans (alloc_newN rfl); clear hb2)
  obtain ⟨x0, x1, x2, _, _, _, x6⟩ := blk3 HX2.out
  have hM2 := HM.out w2 HB2.out
  obtain ⟨m0, m1, m2, m3, m4⟩ := blk2 hM2.st
  obtain ⟨q0, q1, q2⟩ := blk1 hM2.rw_
  have HM2 : Hid (MadeAt w2 mb qb ca ck) := hM2
  have HR2 := hidR (HR.out w2 HB2.out)
  clear hM2
  go_region_law (first
    | (have hr2x := HR2; clear hr2x; refine step_call rfl 121 #[.slice (some ⟨w2.heap.size + 1, 0, none⟩) 2 2] (by simp [go_sem]) (fun v w' => ItsApart w' _ none v 3 (X3 x y r) ∧ (∃ a' c', v = .slice a' 3 c') ∧ Below _ _ w') (concatI_two (w2.heap.size + 1) 0 2 (.slice (some ⟨rb, ro, none⟩) 2 rk) (.slice (some ⟨w2.heap.size, 0, none⟩) 1 1) ⟨2, fun i => if i = 0 then x else y⟩ ⟨1, fun _ => r⟩ _ (Nat.le_refl _) (by unfold maxLen; omega) (by simp) (by simp [go_sem]) (by simp [go_sem]) (by exact ((HR2.out.alloc _).alloc _).heap rfl) (by exact ((one_its w2 r w2.heap.size rfl).alloc _).heap rfl) (by show 3 * 32 ≤ _; omega)) ?_; rintro v7 w7 ⟨hi7, ⟨va7, vc7, rfl⟩, hb7⟩; have HB7 : Hid (Below w2.heap.size w2 w7) := Below.trans ((belowR (belowR (Below.refl _ _) (Nat.le_refl _) _) (Nat.le_refl _) _).trans (drew_belowE _ _)) (hb7.mono (by first | omega | (simp <;> omega))); have HI7 := hidR hi7; have hM7 := HM2.out.below HB7.out; obtain ⟨k0, k1, k2, k3, k4⟩ := blk2 hM7.st; obtain ⟨j0, j1, j2⟩ := blk1 hM7.rw_; clear hi7 hb7 hM7 HR2))
  all_goals
    go_wp2
    go_ret
    have hM7 := HM2.out.below HB7.out
    have hz7 := HB7.out.size
    have hmz : mb < w2.heap.size := (Array.getElem?_eq_some_iff.1 HM2.out.st).1
    have hqz : qb < w2.heap.size := (Array.getElem?_eq_some_iff.1 HM2.out.rw_).1
    refine ⟨rfl, va7, vc7, alloc_old (set_same (set_other hM7.st hne) 1 _), alloc_old (set_other (set_same hM7.rw_ 0 _) (Ne.symm hne)), ?_, ?_⟩
    · refine its_kept HI7.out ?_ ?_ ?_
      · have := HB2.out.size; simp; omega
      · simp
      · intro b h1 h2
        rw [Below.heap_alloc _ _ b (by simpa using h2), Below.heap_setCell _ _ _ _ (by simp at h1 ⊢; omega), Below.heap_setCell _ _ _ _ (by simp at h1 ⊢; omega)]
    · exact (((HB2.out.mono (by omega)).trans (HB7.out.mono (by have := HB2.out.size; omega))).setCell (by simpa using hBq) _).setCell (by simpa using hBm) _ |>.alloc (by simp; omega) _
end Go.Proofs.YtmoeipdchapodaaGreatDoor
