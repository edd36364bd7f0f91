/-
  CONTRACTS of package run at a plan of two ops, a table and a function of its two columns: its evaluation: what an op tells.
-/
import Derived.Test.YtmoeipdchapodaaGreatDoorRuEvG
import Derived.Test.YtmoeipdchapodaaGreatDoorRuColC
import Derived.Test.YtmoeipdchapodaaGreatDoorRuFn
set_option linter.unusedVariables false
namespace Go.Proofs.YtmoeipdchapodaaGreatDoor
set_option maxRecDepth 100000
open Go.RowKit Go.WideShapes

theorem PlS.two {w : World} {pb cb qb rb ib rcap : Nat} {x y : It} {fn : ByteArray} (h : PlS w pb cb qb rb ib rcap x y fn) : TwoAt w rb 0 x y := ⟨h.x0, h.x1, h.x2, h.y0, h.y1, h.y2, h.rlt⟩
set_option maxHeartbeats 6400000 in
theorem tell_table (pb cb qb rb ib rcap : Nat) (x y : It) (fn : ByteArray) (ov M iv : Value) (w : World) (h : PlS w pb cb qb rb ib rcap x y fn) :
    Calls Tryz.prog 27 #[ov, .pointer (some ⟨pb, 0, none⟩), M, iv] w fun e w' => ∃ cb' co' ck' qb' rb' ro' rk', e = .returned (.tuple #[.agg #[.slice (some ⟨cb', co', none⟩) 2 ck', .slice (some ⟨qb', 0, none⟩) 1 1], .int .i64 0]) ∧ StrsIs w' (.slice (some ⟨cb', co', none⟩) 2 ck') 2 C2 ∧ w'.heap[qb']? = some (.cells #[.slice (some ⟨rb', ro', none⟩) 2 rk'] 33) ∧ TwoAt w' rb' ro' x y ∧ 2 ≤ rk' ∧ rk' ≤ maxLen ∧ w.heap.size ≤ cb' ∧ w.heap.size ≤ qb' ∧ w.heap.size ≤ rb' ∧ Below w.heap.size w w' := by
  obtain ⟨hpb, d0, d1, d2, d3, d4, d5, d6, d7, d8, d9, d10, d11, d12, _⟩ := h.cells
  have CK : Hid (∀ W, Below w.heap.size w W → Calls Tryz.prog 84 #[.agg #[.slice (some ⟨cb, 0, none⟩) 2 3, .slice (some ⟨qb, 0, none⟩) 1 1]] W _) := fun W hW => copied_is _ 3 qb rb 0 rcap x y W (h.strs.below hW) (h.below hW).rows (h.below hW).two h.rc h.rm
  clear h d1 d2 d3 d4 d5 d6 d7 d8 d9 d10
  go_enter Tryz.func27, Tryz.ntmps27
  go_wp2_with (go_at_call 84; refine (CK.out _ ?_).mono ?_; (· (focus (repeat (first | exact Below.refl _ _ | exact Hid.out (by assumption) | refine Below.setCell ?_ (by first | omega | (simp <;> omega)) _ | refine Below.alloc ?_ (by first | omega | (simp <;> omega)) _ | refine Below.trans ?_ (drew_belowE _ _))))); rintro e w1 ⟨cb', co', ck', qb', rb', ro', rk', rfl, h1, h2, h3, h4, h5, h6, h7, h8, hb1⟩; simp at h6 h7 h8; obtain ⟨oc, hoc⟩ := blk_some (b := cb') (w := w1) (by obtain ⟨_, _, e1, _, _, _, e2⟩ := h1; obtain ⟨_, _, rfl, e3, _⟩ := e2 (by omega); simp at e1; omega); obtain ⟨orr, hor⟩ := blk_some h3.lt; have H1 := hidR h1; have H2 := hidR h2; have H3 := hidR h3; have HC := hidR hoc; have HO := hidR hor; have HB1 : Hid (Below w.heap.size w w1) := Below.trans (by (focus (repeat (first | exact Below.refl _ _ | exact Hid.out (by assumption) | refine Below.setCell ?_ (by first | omega | (simp <;> omega)) _ | refine Below.alloc ?_ (by first | omega | (simp <;> omega)) _ | refine Below.trans ?_ (drew_belowE _ _))))) (hb1.mono (by first | omega | (simp <;> omega))); have HR1 : Hid (w1.heap[w.heap.size]? = some (.cells #[.slice none 0 0, .slice none 0 0] 36)) := (hb1.block _ (by first | omega | (simp <;> omega))).trans (alloc_newN rfl); obtain ⟨q0, q1, q2, q3, q4⟩ := blk2 HR1.out; clear hb1 h1 h2 h3 hoc hor)
  refine bodyPost_ret (v := .tuple #[.agg #[.slice (some ⟨cb', co', none⟩) 2 ck', .slice (some ⟨qb', 0, none⟩) 1 1], .int .i64 0]) (by simp [results, Tryz.results27, go_sem, q0, q1]) rfl ⟨cb', co', ck', qb', rb', ro', rk', rfl, ?_, ?_, ?_, h4, h5, by omega, by omega, by omega, ?_⟩
  · exact strs_blk H1.out HC.out (set_two_other HC.out (by omega))
  · exact set_two_other H2.out (by omega)
  · exact two_blk H3.out HO.out (set_two_other HO.out (by omega))
  · (focus (repeat (first | exact Below.refl _ _ | exact Hid.out (by assumption) | refine Below.setCell ?_ (by first | omega | (simp <;> omega)) _ | refine Below.alloc ?_ (by first | omega | (simp <;> omega)) _ | refine Below.trans ?_ (drew_belowE _ _))))
set_option maxHeartbeats 6400000 in
theorem tell_apply (pb cb qb rb ib rcap M tb q2 ob : Nat) (x y : It) (fn : ByteArray) (V0 : ByteArray → Option Value) (F : FuncId) (caps : Array Value) (L : List FnE) (ca : Option Addr) (ck : Nat) (Q : Value → Value → Int → World → Prop) (w : World) (h : PlS w pb cb qb rb ib rcap x y fn) (hF : FnS w M V0 L) (hg : V0 fn = some (.agg #[.int .i64 2, .func (.func F) #[] caps])) (ht : w.heap[tb]? = some (.cells #[.slice ca 2 ck, .slice (some ⟨q2, 0, none⟩) 1 1] 36))
    (hap : ∀ W, Below w.heap.size w W → w.heap.size + 1 ≤ W.heap.size → Calls Tryz.prog 86 #[.pointer (some ⟨ob, 0, none⟩), .agg #[.slice ca 2 ck, .slice (some ⟨q2, 0, none⟩) 1 1], .string ⟨#[118]⟩, .func (.func F) #[] caps, .slice (some ⟨cb, 0, none⟩) 2 3] W fun e w' => ∃ c1 c2 c3 e1 e2 e3 E, e = .returned (.tuple #[.agg #[.slice c1 c2 c3, .slice e1 e2 e3], .int .i64 E]) ∧ Q (.slice c1 c2 c3) (.slice e1 e2 e3) E w' ∧ Below W.heap.size W w')
    (hset : ∀ c q E w' u v, w.heap.size + 1 ≤ w'.heap.size → Q c q E w' → Q c q E ((w'.setCell ⟨w.heap.size, 0, none⟩ u).setCell ⟨w.heap.size, 1, none⟩ v)) :
    Calls Tryz.prog 27 #[.pointer (some ⟨ob, 0, none⟩), .pointer (some ⟨pb, 13, none⟩), .map (some M), .slice (some ⟨tb, 0, none⟩) 1 1] w fun e w' => ∃ c1 c2 c3 e1 e2 e3 E, e = .returned (.tuple #[.agg #[.slice c1 c2 c3, .slice e1 e2 e3], .int .i64 E]) ∧ Q (.slice c1 c2 c3) (.slice e1 e2 e3) E w' ∧ Below w.heap.size w w' := by
  obtain ⟨hpb, _, _, _, _, _, _, _, _, _, _, _, _, _, d13, d14, d15, d16, d17, d18, d19, _⟩ := h.cells
  obtain ⟨t0, t1, _, _, tz⟩ := blk2 ht
  have HS : Hid (∀ W, Below w.heap.size w W → W.cell? ⟨pb, 15, none⟩ = some (.string ⟨#[118]⟩) ∧ W.cell? ⟨pb, 19, none⟩ = some (.string fn) ∧ W.cell? ⟨pb, 16, none⟩ = some (.slice (some ⟨cb, 0, none⟩) 2 3) ∧ W.cell? ⟨tb, 0, none⟩ = some (.slice ca 2 ck) ∧ W.cell? ⟨tb, 1, none⟩ = some (.slice (some ⟨q2, 0, none⟩) 1 1) ∧ (Instr.lookup 66 (.map (some M)) (.string fn) false).run Tryz.prog W = .ok (.agg #[.int .i64 2, .func (.func F) #[] caps]) W ∧ pb < W.heap.size ∧ tb < W.heap.size) := fun W hW => by
    have k := ((hF.below hW).vm.look h.fs Tryz.underlying66 (z := .agg #[.int .i64 0, .nilFunc]) (by kernel_rfl)).1
    rw [hg] at k
    have e := fun o => hW.cell (p := ⟨pb, o, none⟩) hpb
    have e' := fun o => hW.cell (p := ⟨tb, o, none⟩) tz
    exact ⟨(e _).trans d15, (e _).trans d19, (e _).trans d16, (e' _).trans t0, (e' _).trans t1, k, Nat.lt_of_lt_of_le hpb hW.size, Nat.lt_of_lt_of_le tz hW.size⟩
  have CO := hidR hap
  have HSET := hidR hset
  have hfd : ∀ (W : World), (Instr.field 87 (.agg #[.int .i64 2, .func (.func F) #[] caps]) 1).run Tryz.prog W = .ok (.func (.func F) #[] caps) W := fun W => by kernel_rfl
  clear h hF hg ht hap hset d14 d15 d16 d17 d18 d19 t0 t1
  go_enter Tryz.func27, Tryz.ntmps27
  go_upto_region 7 with fail
  go_region_held3 (fun W => W.cell? ⟨pb, 15, none⟩ = some (.string ⟨#[118]⟩) ∧ W.cell? ⟨pb, 19, none⟩ = some (.string fn) ∧ W.cell? ⟨pb, 16, none⟩ = some (.slice (some ⟨cb, 0, none⟩) 2 3) ∧ W.cell? ⟨tb, 0, none⟩ = some (.slice ca 2 ck) ∧ W.cell? ⟨tb, 1, none⟩ = some (.slice (some ⟨q2, 0, none⟩) 1 1) ∧ (Instr.lookup 66 (.map (some M)) (.string fn) false).run Tryz.prog W = .ok (.agg #[.int .i64 2, .func (.func F) #[] caps]) W ∧ pb < W.heap.size ∧ tb < W.heap.size)
    ((refine HS.out _ ?_; (focus (repeat (first | exact Below.refl _ _ | exact Hid.out (by assumption) | refine Below.setCell ?_ (by first | omega | (simp <;> omega)) _ | refine Below.alloc ?_ (by first | omega | (simp <;> omega)) _ | refine Below.trans ?_ (drew_belowE _ _))))))
    ((go_at_call 86; refine (CO.out _ ?_ ?_).mono ?_; (· exact ((Below.refl _ _).alloc (Nat.le_refl _) _).trans (drew_belowE _ _)); (· (first | omega | (simp <;> omega))); rintro e w1 ⟨c1, c2, c3, e1, e2, e3, E, rfl, hq1, hb1⟩; have HB1 : Hid (Below w.heap.size w w1) := (((Below.refl _ _).alloc (Nat.le_refl _) _).trans (drew_belowE _ _)).trans (hb1.mono (by first | omega | (simp <;> omega))); have HQ1 := hidR hq1; have HR1 : Hid (w1.heap[w.heap.size]? = some (.cells #[.slice none 0 0, .slice none 0 0] 36)) := (hb1.block _ (by first | omega | (simp <;> omega))).trans (alloc_newN rfl); obtain ⟨q0, q1, q3, q5, q4⟩ := blk2 HR1.out; clear hb1 hq1))
  go_wp2
  refine bodyPost_ret (v := .tuple #[.agg #[.slice c1 c2 c3, .slice e1 e2 e3], .int .i64 E]) (by simp [results, Tryz.results27, go_sem, q0, q1]) rfl ⟨c1, c2, c3, e1, e2, e3, E, rfl, ?_, ?_⟩
  · exact HSET.out _ _ _ _ _ _ (by omega) HQ1.out
  · (focus (repeat (first | exact Below.refl _ _ | exact Hid.out (by assumption) | refine Below.setCell ?_ (by first | omega | (simp <;> omega)) _ | refine Below.alloc ?_ (by first | omega | (simp <;> omega)) _ | refine Below.trans ?_ (drew_belowE _ _))))
end Go.Proofs.YtmoeipdchapodaaGreatDoor
