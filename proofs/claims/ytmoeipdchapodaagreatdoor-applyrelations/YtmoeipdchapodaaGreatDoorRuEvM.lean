/-
  CONTRACTS: pleacherkeep.answered at the plan of two ops: the table is refused; the function has a value; it has none.
-/
import Derived.Test.YtmoeipdchapodaaGreatDoorRuEvK
import Derived.Test.YtmoeipdchapodaaGreatDoorRuEvF
set_option linter.unusedVariables false
namespace Go.Proofs.YtmoeipdchapodaaGreatDoor
set_option maxRecDepth 100000
open Go.RowKit Go.WideShapes

set_option maxHeartbeats 6400000 in
theorem answered_bad (p : Value) (E : Int) (w : World) (hE : ¬ E = 0)
    (hev : ∀ W, Below w.heap.size w W → Calls Tryz.prog 13 #[p, .slice none 0 0] W fun e w' => e = .returned (.tuple #[.agg #[.slice none 0 0, .slice none 0 0], .slice none 0 0, .int .i64 E]) ∧ Below W.heap.size W w') :
    Calls Tryz.prog 11 #[p, .slice none 0 0] w fun e w' => e = .returned (.tuple #[.agg #[.int .i64 0, .int .i64 0, .string ⟨#[]⟩], .int .i64 E]) ∧ Below w.heap.size w w' := by
  have CE := hidR hev
  have hE1 : (E == 0) = false := by simpa using hE
  clear hev
  go_enter Tryz.func11, Tryz.ntmps11
  go_wp2_with (go_at_call 13; refine (CE.out _ ?_).mono ?_; (· exact (Below.refl _ _).alloc (Nat.le_refl _) _); rintro e w1 ⟨rfl, hb1⟩; have HB1 : Hid (Below w.heap.size w w1) := Below.trans ((Below.refl _ _).alloc (Nat.le_refl _) _) (hb1.mono (by first | omega | (simp <;> omega))); have HA1 : Hid (w1.heap[w.heap.size]? = some (.cells #[.int .i64 0, .int .i64 0, .string ⟨#[]⟩] 24)) := (hb1.block _ (by first | omega | (simp <;> omega))).trans (alloc_newN rfl); obtain ⟨q0, q1, q2, q3, q4, q5, q6⟩ := blk3 HA1.out; clear hb1)
  obtain ⟨W2, hW2⟩ : ∃ W, W = (((w1.setCell ⟨w.heap.size, 0, none⟩ (.int .i64 0)).setCell ⟨w.heap.size, 1, none⟩ (.int .i64 0)).setCell ⟨w.heap.size, 2, none⟩ (.string ⟨#[]⟩)).alloc (.cells #[.slice none 0 0, .slice none 0 0] 36) := ⟨_, rfl⟩
  have HB2 : Hid (Below w.heap.size w W2) := by rw [hW2]; exact (((HB1.out.setCell (by simp) _).setCell (by simp) _).setCell (by simp) _).alloc (by have := HB1.out.size; simp; omega) _
  have HA2 : Hid (W2.heap[w.heap.size]? = some (.cells #[.int .i64 0, .int .i64 0, .string ⟨#[]⟩] 24)) := by rw [hW2]; exact alloc_old (set_same (set_same (set_same HA1.out 0 _) 1 _) 2 _)
  rw [← hW2]
  obtain ⟨z0, z1, z2, _⟩ := blk3 HA2.out
  exact bodyPost_ret (v := .tuple #[.agg #[.int .i64 0, .int .i64 0, .string ⟨#[]⟩], .int .i64 E]) (by simp [results, Tryz.results11, go_sem, z0, z1, z2]) rfl ⟨rfl, HB2.out⟩
set_option maxHeartbeats 6400000 in
theorem answered_good (p : Value) (X : Nat → It) (w : World)
    (hev : ∀ W, Below w.heap.size w W → Calls Tryz.prog 13 #[p, .slice none 0 0] W fun e w' => ∃ c1 c2 c3 qb a k, e = .returned (.tuple #[.agg #[.slice c1 c2 c3, .slice (some ⟨qb, 0, none⟩) 1 1], .slice none 0 0, .int .i64 0]) ∧ w'.heap[qb]? = some (.cells #[.slice a 3 k] 33) ∧ ItsIs w' (.slice a 3 k) 3 X ∧ Below W.heap.size W w') :
    Calls Tryz.prog 11 #[p, .slice none 0 0] w fun e w' => e = .returned (.tuple #[.agg #[.int .i64 (X 2).kind, .int .i64 (X 2).n, .string (X 2).s], .int .i64 0]) ∧ Below w.heap.size w w' := by
  have CE := hidR hev
  clear hev
  go_enter Tryz.func11, Tryz.ntmps11
  go_wp2_with (go_at_call 13; refine (CE.out _ ?_).mono ?_; (· exact (Below.refl _ _).alloc (Nat.le_refl _) _); rintro e w1 ⟨c1, c2, c3, qb, a, k, rfl, hq, hi, hb1⟩; obtain ⟨a', k', e1, hk1, hk2, _, hi2⟩ := hi; simp at e1; obtain ⟨rfl, rfl⟩ := e1; obtain ⟨b, off, rfl, hbz, hi3⟩ := hi2 (by omega); obtain ⟨x0, x1, x2⟩ := hi3 2 (by omega); simp at x0 x1 x2; unfold maxLen at hk2; clear hi2 hi3; obtain ⟨m0, _, m1⟩ := blk1 hq; have HB1 : Hid (Below w.heap.size w w1) := Below.trans ((Below.refl _ _).alloc (Nat.le_refl _) _) (hb1.mono (by first | omega | (simp <;> omega))); have HA1 : Hid (w1.heap[w.heap.size]? = some (.cells #[.int .i64 0, .int .i64 0, .string ⟨#[]⟩] 24)) := (hb1.block _ (by first | omega | (simp <;> omega))).trans (alloc_newN rfl); obtain ⟨q0, q1, q2, q3, q4, q5, q6⟩ := blk3 HA1.out; clear hb1 hq)
  obtain ⟨W2, hW2⟩ : ∃ W, W = (((w1.setCell ⟨w.heap.size, 0, none⟩ (.int .i64 (X 2).kind)).setCell ⟨w.heap.size, 1, none⟩ (.int .i64 (X 2).n)).setCell ⟨w.heap.size, 2, none⟩ (.string (X 2).s)).alloc (.cells #[.slice c1 c2 c3, .slice (some ⟨qb, 0, none⟩) 1 1] 36) := ⟨_, rfl⟩
  have HB2 : Hid (Below w.heap.size w W2) := by rw [hW2]; exact (((HB1.out.setCell (by simp) _).setCell (by simp) _).setCell (by simp) _).alloc (by have := HB1.out.size; simp; omega) _
  have HA2 : Hid (W2.heap[w.heap.size]? = some (.cells #[.int .i64 (X 2).kind, .int .i64 (X 2).n, .string (X 2).s] 24)) := by rw [hW2]; exact alloc_old (set_same (set_same (set_same HA1.out 0 _) 1 _) 2 _)
  rw [← hW2]
  obtain ⟨z0, z1, z2, _⟩ := blk3 HA2.out
  exact bodyPost_ret (v := .tuple #[.agg #[.int .i64 (X 2).kind, .int .i64 (X 2).n, .string (X 2).s], .int .i64 0]) (by simp [results, Tryz.results11, go_sem, z0, z1, z2]) rfl ⟨rfl, HB2.out⟩
end Go.Proofs.YtmoeipdchapodaaGreatDoor
set_option linter.unusedVariables false
namespace Go.Proofs.YtmoeipdchapodaaGreatDoor
set_option maxRecDepth 100000
open Go.RowKit Go.WideShapes

/-- what the function tells of the two items, whatever it is made of lies anywhere -/
def ValOk (w : World) (e0 : FnE) (x y r : It) (ok : Bool) : Prop :=
  ∀ ob W ib b, Below w.heap.size w W → (∀ i (h : i < e0.caps.length), W.heap[b + i]? = some (.cells #[e0.caps[i].1] e0.caps[i].2)) → W.heap[ib]? = some (.cells #[.int .i64 x.kind, .int .i64 x.n, .string x.s, .int .i64 y.kind, .int .i64 y.n, .string y.s] 24) → Calls Tryz.prog e0.f (#[.pointer (some ⟨ob, 0, none⟩), .slice (some ⟨ib, 0, none⟩) 2 2] ++ (ptrs b e0.caps.length).toArray) W fun e w' => e = .returned (.tuple #[.agg #[.int .i64 r.kind, .int .i64 r.n, .string r.s], .bool ok]) ∧ Below W.heap.size W w'
theorem ValOk.below {w w' : World} {e0 : FnE} {x y r : It} {ok : Bool} (h : ValOk w e0 x y r ok) (hb : Below w.heap.size w w') : ValOk w' e0 x y r ok :=
  fun ob W ib b hW => h ob W ib b (hb.trans (hW.mono hb.size))
theorem ans_tab (pb cb qb rb ib rcap : Nat) (x y : It) (fn : ByteArray) (e0 : FnE) (w : World) (h : PlS w pb cb qb rb ib rcap x y fn) (hx : ¬ x.kind = 1) (hy : ¬ y.kind = 1) (hI : InTab w) (hT : ∀ W, Below w.heap.size w W → Tabs W) (hfn : FnOk fn e0) (ht : ¬ tabF x y = 0) :
    Calls Tryz.prog 11 #[.slice (some ⟨pb, 0, none⟩) 2 2, .slice none 0 0] w fun e w' => e = .returned (.tuple #[.agg #[.int .i64 0, .int .i64 0, .string ⟨#[]⟩], .int .i64 12]) ∧ Below w.heap.size w w' := by
  have e : tabF x y = 12 := by
    unfold tabF at ht ⊢
    split
    · rename_i k; rw [if_pos k] at ht; exact absurd rfl ht
    · rfl
  refine answered_bad _ 12 w (by decide) (fun W hW => ?_)
  have k := Eval_bad pb cb qb rb ib rcap x y fn e0 W (h.below hW) hx hy (hI.below hW) (fun W' hW' => hT W' (hW.trans (hW'.mono hW.size))) hfn ht
  rw [e] at k
  exact k
theorem ans_good (pb cb qb rb ib rcap : Nat) (x y r : It) (fn : ByteArray) (e0 : FnE) (w : World) (h : PlS w pb cb qb rb ib rcap x y fn) (hx : ¬ x.kind = 1) (hy : ¬ y.kind = 1) (hI : InTab w) (hT : ∀ W, Below w.heap.size w W → Tabs W) (hfn : FnOk fn e0) (ht : tabF x y = 0)
    (hrun : ∀ (args : Array Value) (W : World), Sem.run Tryz.prog (callFunc e0.f args) W = .ok (.enter e0.f args) W) (hrs : r.s.size ≤ maxLen) (hmay : mayI r = true) (hval : ValOk w e0 x y r true) :
    Calls Tryz.prog 11 #[.slice (some ⟨pb, 0, none⟩) 2 2, .slice none 0 0] w fun e w' => e = .returned (.tuple #[.agg #[.int .i64 r.kind, .int .i64 r.n, .string r.s], .int .i64 0]) ∧ Below w.heap.size w w' := by
  refine answered_good _ (X3 x y r) w (fun W hW => ?_)
  have hI' := hI.below hW
  have hT' : ∀ W', Below W.heap.size W W' → Tabs W' := fun W' hW' => hT W' (hW.trans (hW'.mono hW.size))
  have hP := h.below hW
  have hV := hval.below hW
  refine (Eval_is pb cb qb rb ib rcap x y fn e0 0 (fun B c q w' => ∃ qb a k, q = .slice (some ⟨qb, 0, none⟩) 1 1 ∧ B ≤ qb ∧ w'.heap[qb]? = some (.cells #[.slice a 3 k] 33) ∧ ItsApart w' B none (.slice a 3 k) 3 (X3 x y r)) W hP hx hy hI' hT' hfn ht ?_ ?_).mono ?_
  · intro ob W' ca ck q2 rb' ro' rk' b hW' hc hq hr h2 hm hcaps
    refine (apply_good e0.f _ ob q2 rb' ro' rk' ck cb ca x y r W' hrun hrs (fun W'' hW'' => hT' W'' (hW'.trans (hW''.mono hW'.size))) hmay hc hq hr h2 hm ((hW'.block _ (Array.getElem?_eq_some_iff.1 hP.cols).1).trans hP.cols) (fun W'' ib' hW'' hib => hV ob W'' ib' b (hW'.trans (hW''.mono hW'.size)) (fun i hi => (hW''.block _ (Array.getElem?_eq_some_iff.1 (hcaps i hi)).1).trans (hcaps i hi)) hib)).mono ?_
    rintro e w' ⟨ca', ck', qb', a, k, rfl, h1, h2, h3, h4⟩
    exact ⟨_, _, _, _, _, _, rfl, ⟨qb', a, k, rfl, h3, h1, h2⟩, h4⟩
  · rintro B c q w1 w2 ⟨qb', a, k, rfl, h1, h2, h3⟩ hs hb
    exact ⟨qb', a, k, rfl, h1, (hb _ h1 (Array.getElem?_eq_some_iff.1 h2).1).trans h2, its_kept h3 (Nat.le_refl _) hs hb⟩
  · rintro e w' ⟨c1, c2, c3, e1, e2, e3, B, ⟨qb', a, k, h1, h2, h3, h4⟩, hB, hor, hb⟩
    obtain ⟨_, rfl⟩ | ⟨hn, _⟩ := hor
    · rw [h1]
      exact ⟨c1, c2, c3, qb', a, k, rfl, h3, h4.is, hb⟩
    · exact absurd rfl hn
theorem ans_bad (pb cb qb rb ib rcap : Nat) (x y r : It) (fn : ByteArray) (e0 : FnE) (w : World) (h : PlS w pb cb qb rb ib rcap x y fn) (hx : ¬ x.kind = 1) (hy : ¬ y.kind = 1) (hI : InTab w) (hT : ∀ W, Below w.heap.size w W → Tabs W) (hfn : FnOk fn e0) (ht : tabF x y = 0)
    (hrun : ∀ (args : Array Value) (W : World), Sem.run Tryz.prog (callFunc e0.f args) W = .ok (.enter e0.f args) W) (hrs : r.s.size ≤ maxLen) (ok : Bool) (hbad : ok = false ∨ mayI r = false) (hval : ValOk w e0 x y r ok) :
    Calls Tryz.prog 11 #[.slice (some ⟨pb, 0, none⟩) 2 2, .slice none 0 0] w fun e w' => e = .returned (.tuple #[.agg #[.int .i64 0, .int .i64 0, .string ⟨#[]⟩], .int .i64 12]) ∧ Below w.heap.size w w' := by
  refine answered_bad _ 12 w (by decide) (fun W hW => ?_)
  have hI' := hI.below hW
  have hT' : ∀ W', Below W.heap.size W W' → Tabs W' := fun W' hW' => hT W' (hW.trans (hW'.mono hW.size))
  have hP := h.below hW
  have hV := hval.below hW
  refine (Eval_is pb cb qb rb ib rcap x y fn e0 12 (fun B c q w' => True) W hP hx hy hI' hT' hfn ht ?_ (fun _ _ _ _ _ _ _ _ => trivial)).mono ?_
  · intro ob W' ca ck q2 rb' ro' rk' b hW' hc hq hr h2 hm hcaps
    refine (apply_bad e0.f _ ob q2 rb' ro' rk' ck cb ca x y r W' hrun hrs (fun W'' hW'' => hT' W'' (hW'.trans (hW''.mono hW'.size))) ok hbad hc hq hr h2 hm ((hW'.block _ (Array.getElem?_eq_some_iff.1 hP.cols).1).trans hP.cols) (fun W'' ib' hW'' hib => hV ob W'' ib' b (hW'.trans (hW''.mono hW'.size)) (fun i hi => (hW''.block _ (Array.getElem?_eq_some_iff.1 (hcaps i hi)).1).trans (hcaps i hi)) hib)).mono ?_
    rintro e w' ⟨rfl, h4⟩
    exact ⟨_, _, _, _, _, _, rfl, trivial, h4⟩
  · rintro e w' ⟨c1, c2, c3, e1, e2, e3, B, _, hB, hor, hb⟩
    obtain ⟨hn, _⟩ | ⟨_, rfl⟩ := hor
    · exact absurd hn (by decide)
    · exact ⟨rfl, hb⟩
end Go.Proofs.YtmoeipdchapodaaGreatDoor
