/-
  CONTRACTS of pleacherkeep.value (a plan of two ops is made, and its answer told), and of what it calls.
-/
import Derived.Test.YtmoeipdchapodaaGreatDoorRuNum
import Derived.Test.YtmoeipdchapodaaGreatDoorPkPick
set_option linter.unusedVariables false
namespace Go.Proofs.YtmoeipdchapodaaGreatDoor
set_option maxRecDepth 100000
open Go.RowKit Go.WideShapes

def sixV (x y : It) : List Value := [.int .i64 x.kind, .int .i64 x.n, .string x.s, .int .i64 y.kind, .int .i64 y.n, .string y.s]
theorem six_at {w : World} {b o : Nat} {x y : It} (h : TwoAt w b o x y) (j : Nat) (u : Value) (hj : (sixV x y)[j]? = some u) : w.cell? ((⟨b, o, none⟩ : Addr).add j) = some u := by
  have hl : j < 6 := (List.getElem?_eq_some_iff.1 hj).1
  obtain rfl | rfl | rfl | rfl | rfl | rfl : j = 0 ∨ j = 1 ∨ j = 2 ∨ j = 3 ∨ j = 4 ∨ j = 5 := by omega
  all_goals (simp only [sixV, List.getElem?_cons_zero, List.getElem?_cons_succ, Option.some.injEq] at hj; subst hj)
  · exact h.x0
  · exact h.x1
  · exact h.x2
  · exact h.y0
  · exact h.y1
  · exact h.y2
theorem two_own {w : World} {base : Nat} {v : Value} {x y : It} (h : w.ownsRow base 24 3 v 2 (sixV x y)) : ∃ rb k, v = .slice (some ⟨rb, 0, none⟩) 2 k ∧ 2 ≤ k ∧ k ≤ maxLen ∧ base ≤ rb ∧ TwoAt w rb 0 x y := by
  have hl := h.lt
  have hc := fun g hg => h.cells (g := g) hg
  obtain ⟨_, ⟨e1, e2⟩ | ⟨b, cap, cur, rfl, _, _, h1, h2, _⟩⟩ := h
  · simp at e2
  · have hb := hl b rfl
    have c := fun j u hj => hc b rfl j u hj
    exact ⟨b, cap, rfl, h1, h2, hb.1, ⟨c 0 _ rfl, c 1 _ rfl, c 2 _ rfl, c 3 _ rfl, c 4 _ rfl, c 5 _ rfl, hb.2⟩⟩
set_option maxHeartbeats 3200000 in
theorem clone_is (ab ao ac : Nat) (x y : It) (w : World) (h : TwoAt w ab ao x y) (hc : 2 ≤ ac) (hm : ac ≤ maxLen) :
    Calls Tryz.prog 10 #[.slice (some ⟨ab, ao, none⟩) 2 ac] w fun e w' => ∃ rb k, e = .returned (.slice (some ⟨rb, 0, none⟩) 2 k) ∧ 2 ≤ k ∧ k ≤ maxLen ∧ w.heap.size ≤ rb ∧ TwoAt w' rb 0 x y ∧ Below w.heap.size w w' := by
  have HT : Hid (TwoAt (w.alloc (.cells #[] 24)) ab ao x y) := h.below ((Below.refl _ _).alloc (Nat.le_refl _) _)
  have HO : Hid ((w.alloc (.cells #[] 24)).ownsRow w.heap.size 24 3 (.slice (some ⟨w.heap.size, 0, none⟩) 0 0) 0 []) := World.ownsRow_lit w #[] 0 (Nat.le_refl _) (by unfold maxLen; omega) rfl
  obtain ⟨i0, hi0, hz0, hz1, hz2⟩ := info_parts infoItem
  unfold maxLen at hm
  clear h
  have hnil : Sem.run Tryz.prog (binOp BinOp.eql 33 (.slice (some ⟨ab, ao, none⟩) 2 ac) (.slice none 0 0)) w = .ok (.bool false) w := by
    kernel_rfl
  go_enter Tryz.func10, Tryz.ntmps10
  go_wp2_with (at_builtin; refine wpList_append_atK rfl (.tmp 5) (.tmp 6) 33 rfl w.heap.size 24 i0 _ 3 32 Tryz.underlying33 hi0 hz0 hz1 hz2 rfl (by decide) (.slice (some ⟨w.heap.size, 0, none⟩) 0 0) 0 [] rfl HO.out ⟨ab, ao, none⟩ 2 ac (sixV x y) rfl rfl (six_at HT.out) (by intro u hu; simp [sixV] at hu; rcases hu with rfl | rfl | rfl | rfl | rfl | rfl <;> rfl) (by unfold maxLen; omega) (by omega) (by simp) ?_; intro v' w1 h1 h2 h3; have HV : Hid (w1.ownsRow w.heap.size 24 3 v' 2 (sixV x y)) := (by simpa using h1 : w1.ownsRow w.heap.size 24 3 v' 2 (sixV x y)); have HB : Hid (Below w.heap.size w w1) := Below.grown ((Below.refl _ _).alloc (Nat.le_refl _) _) h2 (by simp) (fun q hq => (HO.out.lt q hq).1); clear h1 h2 h3; obtain ⟨rb, rk, rfl, k1, k2, k3, k4⟩ := two_own HV.out)
  go_ret
  exact ⟨rb, rk, rfl, k1, k2, k3, k4, HB.out⟩
set_option maxHeartbeats 800000 in
theorem number_is (n : Int) (w : World) : Calls Tryz.prog 7 #[.int .i64 n] w fun e w' => e = .returned (.agg #[.int .i64 2, .int .i64 n, .string ⟨#[]⟩]) ∧ w' = w.alloc (.cells #[.int .i64 2, .int .i64 n, .string ⟨#[]⟩] 24) := by
  go_enter Tryz.func7, Tryz.ntmps7
  go_wp2
  refine bodyPost_ret (v := .agg #[.int .i64 2, .int .i64 n, .string ⟨#[]⟩]) (by simp [results, Tryz.results7, go_sem]) rfl ⟨rfl, rfl⟩
theorem pls_made {w1 : World} {g rb rk : Nat} {x y : It} {fn : ByteArray} (hc : w1.heap[g + 1]? = some (.cells #[.string ⟨#[112, 111, 115]⟩, .string ⟨#[105, 116, 101, 109]⟩, .string ⟨#[99]⟩] 9)) (ht : TwoAt w1 rb 0 x y) (hrb : g + 1 + 1 + 1 ≤ rb) (k1 : 2 ≤ rk) (k2 : rk ≤ maxLen) (hfs : fn.size ≤ maxLen) (hsx : x.s.size ≤ maxLen) (hsy : y.s.size ≤ maxLen) :
    PlS ((((w1.setCell ⟨g + 1 + 1, 1, none⟩ (.slice (some ⟨w1.heap.size, 0, none⟩) 1 1)).alloc (.cells #[.slice (some ⟨rb, 0, none⟩) 2 rk] 33)).alloc (.cells #[.int .i64 0] 3)).alloc (.cells #[.int .i64 1, .slice none 0 0, .string ⟨#[]⟩, .slice none 0 0, .slice none 0 0, .string ⟨#[]⟩, .string ⟨#[]⟩, .int .i64 0, .int .i64 0, .int .i64 0, .string ⟨#[]⟩, .slice (some ⟨g + 1, 0, none⟩) 2 3, .slice (some ⟨w1.heap.size, 0, none⟩) 1 1, .int .i64 11, .slice (some ⟨w1.heap.size + 1, 0, none⟩) 1 1, .string ⟨#[118]⟩, .slice (some ⟨g + 1, 0, none⟩) 2 3, .slice none 0 0, .string ⟨#[]⟩, .string fn, .int .i64 0, .int .i64 0, .int .i64 0, .string ⟨#[]⟩, .slice none 0 0, .slice none 0 0] 43)) (w1.heap.size + 1 + 1) (g + 1) w1.heap.size rb (w1.heap.size + 1) rk x y fn := by
  obtain ⟨ob, hob⟩ := blk_some ht.lt
  have h2 := two_blk (w' := (((w1.setCell ⟨g + 1 + 1, 1, none⟩ (.slice (some ⟨w1.heap.size, 0, none⟩) 1 1)).alloc (.cells #[.slice (some ⟨rb, 0, none⟩) 2 rk] 33)).alloc (.cells #[.int .i64 0] 3)).alloc (.cells #[.int .i64 1, .slice none 0 0, .string ⟨#[]⟩, .slice none 0 0, .slice none 0 0, .string ⟨#[]⟩, .string ⟨#[]⟩, .int .i64 0, .int .i64 0, .int .i64 0, .string ⟨#[]⟩, .slice (some ⟨g + 1, 0, none⟩) 2 3, .slice (some ⟨w1.heap.size, 0, none⟩) 1 1, .int .i64 11, .slice (some ⟨w1.heap.size + 1, 0, none⟩) 1 1, .string ⟨#[118]⟩, .slice (some ⟨g + 1, 0, none⟩) 2 3, .slice none 0 0, .string ⟨#[]⟩, .string fn, .int .i64 0, .int .i64 0, .int .i64 0, .string ⟨#[]⟩, .slice none 0 0, .slice none 0 0] 43)) ht hob (alloc_old (alloc_old (alloc_old (set_other hob (by omega)))))
  exact ⟨alloc_newN (by simp), alloc_old (alloc_old (alloc_old (set_other hc (by omega)))), alloc_old (alloc_old (alloc_newN (by simp))), alloc_old (alloc_newN (by simp)), h2.x0, h2.x1, h2.x2, h2.y0, h2.y1, h2.y2, h2.lt, k1, k2, hsx, hsy, hfs⟩
set_option maxHeartbeats 12800000 in
theorem value_is (fn : ByteArray) (ab ao ac : Nat) (x y r : It) (E : Int) (w : World) (hfs : fn.size ≤ maxLen) (hsx : x.s.size ≤ maxLen) (hsy : y.s.size ≤ maxLen) (h : TwoAt w ab ao x y) (hc : 2 ≤ ac) (hm : ac ≤ maxLen) (ha : Answers w fn x y r E) :
    Calls Tryz.prog 6 #[.string fn, .slice (some ⟨ab, ao, none⟩) 2 ac] w fun e w' => e = .returned (.tuple #[.agg #[.int .i64 r.kind, .int .i64 r.n, .string r.s], .int .i64 E]) ∧ Below w.heap.size w w' := by
  have CC : Hid (∀ W, Below w.heap.size w W → Calls Tryz.prog 10 #[.slice (some ⟨ab, ao, none⟩) 2 ac] W fun e w' => ∃ rb k, e = .returned (.slice (some ⟨rb, 0, none⟩) 2 k) ∧ 2 ≤ k ∧ k ≤ maxLen ∧ W.heap.size ≤ rb ∧ TwoAt w' rb 0 x y ∧ Below W.heap.size W w') := fun W hW => clone_is ab ao ac x y W (h.below hW) hc hm
  have CA := hidR ha
  unfold maxLen at hm
  clear h ha
  have hrl := @Nat.le_refl
  go_enter Tryz.func6, Tryz.ntmps6
  go_wp2_with (go_at_call 10; refine (CC.out _ ?_).mono ?_; (· (focus (repeat (first | exact Below.refl _ _ | exact Hid.out (by assumption) | refine Below.setCell ?_ (by first | omega | (simp <;> omega)) _ | refine Below.alloc ?_ (by first | omega | (simp <;> omega)) _ | refine Below.trans ?_ (drew_belowE _ _))))); rintro e w1 ⟨rb, rk, rfl, k1, k2, k3, ht, hb1⟩; have HB1 : Hid (Below w.heap.size w w1) := Below.trans (by (focus (repeat (first | exact Below.refl _ _ | exact Hid.out (by assumption) | refine Below.setCell ?_ (by first | omega | (simp <;> omega)) _ | refine Below.alloc ?_ (by first | omega | (simp <;> omega)) _ | refine Below.trans ?_ (drew_belowE _ _))))) (hb1.mono (by first | omega | (simp <;> omega))); have HA1 : Hid (w1.heap[w.heap.size]? = some (.cells #[.int .i64 0, .int .i64 0, .string ⟨#[]⟩] 24)) := (hb1.block _ (by first | omega | (simp <;> omega))).trans (alloc_old (alloc_old (alloc_newN rfl))); have HC1 : Hid (w1.heap[w.heap.size + 1]? = some (.cells #[.string ⟨#[112, 111, 115]⟩, .string ⟨#[105, 116, 101, 109]⟩, .string ⟨#[99]⟩] 9)) := (hb1.block _ (by first | omega | (simp <;> omega))).trans (alloc_old (alloc_newN (by simp))); have HR1 : Hid (w1.heap[w.heap.size + 1 + 1]? = some (.cells #[.slice (some ⟨w.heap.size + 1, 0, none⟩) 2 3, .slice none 0 0] 36)) := (hb1.block _ (by first | omega | (simp <;> omega))).trans (alloc_newN (by simp)); have HT1 := hidR ht; have hz1 := hb1.size; simp at hz1; obtain ⟨r0, r1, r2, r3, r4⟩ := blk2 HR1.out; clear hb1 ht)
  refine LoopN.wp 1 (LoopN.next ?_)
  simp at k3
  go_wp2_with (go_at_call 11; refine (CA.out _ (w1.heap.size + 1 + 1) (w.heap.size + 1) w1.heap.size rb (w1.heap.size + 1) rk ?_ (pls_made HC1.out HT1.out k3 k1 k2 hfs hsx hsy)).mono ?_; (· (focus (repeat (first | exact Below.refl _ _ | exact Hid.out (by assumption) | refine Below.setCell ?_ (by first | omega | (simp <;> omega)) _ | refine Below.alloc ?_ (by first | omega | (simp <;> omega)) _ | refine Below.trans ?_ (drew_belowE _ _))))); rintro e w2 ⟨rfl, hb2⟩; have HB2 : Hid (Below w.heap.size w w2) := Below.trans (by (focus (repeat (first | exact Below.refl _ _ | exact Hid.out (by assumption) | refine Below.setCell ?_ (by first | omega | (simp <;> omega)) _ | refine Below.alloc ?_ (by first | omega | (simp <;> omega)) _ | refine Below.trans ?_ (drew_belowE _ _))))) (hb2.mono (by first | omega | (simp <;> omega))); have HA2 : Hid (w2.heap[w.heap.size]? = some (.cells #[.int .i64 0, .int .i64 0, .string ⟨#[]⟩] 24)) := (hb2.block _ (by first | omega | (simp <;> omega))).trans (alloc_old (alloc_old (alloc_old (set_other HA1.out (by omega))))); obtain ⟨q0, q1, q2, q3, q4, q5, q6⟩ := blk3 HA2.out; clear hb2)
  refine bodyPost_ret (v := .tuple #[.agg #[.int .i64 r.kind, .int .i64 r.n, .string r.s], .int .i64 E]) (by simp [results, Tryz.results6, go_sem, q0, q1, q2]) rfl ⟨rfl, ?_⟩
  (focus (repeat (first | exact Below.refl _ _ | exact Hid.out (by assumption) | refine Below.setCell ?_ (by first | omega | (simp <;> omega)) _ | refine Below.alloc ?_ (by first | omega | (simp <;> omega)) _ | refine Below.trans ?_ (drew_belowE _ _))))
end Go.Proofs.YtmoeipdchapodaaGreatDoor
