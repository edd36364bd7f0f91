/-
  THE LAW LowerClauses of package pleacherkeep.
-/
import Derived.Test.YtkhlfdnlpimojaaDoorLcQ
set_option linter.unusedVariables false
namespace Go.Proofs.YtkhlfdnlpimojaaDoor
set_option maxRecDepth 100000
open Go.RowKit Go.WideShapes Go.Shelf
attribute [local go_sem] Oper.semAt_some

set_option maxHeartbeats 12800000 in
theorem lawLowerClauses (x : Int) (w : World) (hx : -9223372036854775808 ≤ x ∧ x ≤ 9223372036854775807) (hT : Tabs w) :
    Calls Tryd.prog 3 #[.int .i64 x] w fun e w' => e = .returned (.bool true) ∧ Below w.heap.size w w' := by
  have CP : Hid (∀ W, Calls Tryd.prog 5 #[.int .i64 x, .int .i64 9] W fun e w' => e = .returned (.int .i64 (pk x 9)) ∧ w' = W) := fun W => picked_is x 9 W hx (by decide) (by decide)
  have hr := pk_range (n := x) (many := 9) (by decide)
  generalize pk x 9 = r at *
  go_enter Tryd.func3, Tryd.ntmps3
  go_upto_region 3 with fail
  obtain ⟨W1, hW1⟩ : ∃ W, W = w.alloc (.cells #[.int .i64 1, .int .i64 2, .int .i64 1, .string ⟨#[]⟩, .string ⟨#[]⟩, .int .i64 0, .int .i64 0, .int .i64 0, .string ⟨#[]⟩, .slice none 0 0, .slice none 0 0] 29) := ⟨_, rfl⟩
  have HBW1 : Hid (Below w.heap.size w W1) := by rw [hW1]; exact (Below.refl _ _).alloc (Nat.le_refl _) _
  have HO : Hid (W1.heap[w.heap.size]? = some (.cells #[.int .i64 1, .int .i64 2, .int .i64 1, .string ⟨#[]⟩, .string ⟨#[]⟩, .int .i64 0, .int .i64 0, .int .i64 0, .string ⟨#[]⟩, .slice none 0 0, .slice none 0 0] 29)) := by rw [hW1]; exact aNew rfl
  rw [← hW1]
  have hz1 : w.heap.size < W1.heap.size := (Array.getElem?_eq_some_iff.1 HO.out).1
  clear hW1
  refine wp_region_slots (by kernel_rfl) (fun j v W => (match j with | 0 => v = (.func (.func 4) #[] #[.pointer (some ⟨w.heap.size, 0, none⟩)]) | 1 => v = (.agg #[.int .i64 3, .string ⟨#[]⟩, .string ⟨#[]⟩, .bool false, .int .i64 1, .int .i64 2, .int .i64 1, .string ⟨#[]⟩, .string ⟨#[]⟩, .int .i64 0, .int .i64 0, .int .i64 0, .string ⟨#[]⟩, .slice none 0 0, .slice none 0 0]) | 2 => v = (.func (.func 4) #[] #[.pointer (some ⟨w.heap.size, 0, none⟩)]) | 3 => v = (.agg #[.int .i64 1, .string ⟨#[120]⟩, .string ⟨#[]⟩, .bool false, .int .i64 1, .int .i64 2, .int .i64 1, .string ⟨#[]⟩, .string ⟨#[]⟩, .int .i64 0, .int .i64 0, .int .i64 0, .string ⟨#[]⟩, .slice none 0 0, .slice none 0 0]) | 5 => v = (.func (.func 4) #[] #[.pointer (some ⟨w.heap.size, 0, none⟩)]) | 6 => v = (.agg #[.int .i64 4, .string ⟨#[]⟩, .string ⟨#[]⟩, .bool false, .int .i64 1, .int .i64 2, .int .i64 1, .string ⟨#[]⟩, .string ⟨#[]⟩, .int .i64 0, .int .i64 0, .int .i64 0, .string ⟨#[]⟩, .slice none 0 0, .slice none 0 0]) | 8 => v = (.func (.func 4) #[] #[.pointer (some ⟨w.heap.size, 0, none⟩)]) | 9 => v = (.agg #[.int .i64 1, .string ⟨#[120]⟩, .string ⟨#[]⟩, .bool false, .int .i64 1, .int .i64 2, .int .i64 1, .string ⟨#[]⟩, .string ⟨#[]⟩, .int .i64 0, .int .i64 0, .int .i64 0, .string ⟨#[]⟩, .slice none 0 0, .slice none 0 0]) | 10 => v = (.func (.func 4) #[] #[.pointer (some ⟨w.heap.size, 0, none⟩)]) | 11 => v = (.agg #[.int .i64 1, .string ⟨#[121]⟩, .string ⟨#[]⟩, .bool false, .int .i64 1, .int .i64 2, .int .i64 1, .string ⟨#[]⟩, .string ⟨#[]⟩, .int .i64 0, .int .i64 0, .int .i64 0, .string ⟨#[]⟩, .slice none 0 0, .slice none 0 0]) | 12 => v = (.func (.func 4) #[] #[.pointer (some ⟨w.heap.size, 0, none⟩)]) | 13 => v = (.agg #[.int .i64 4, .string ⟨#[]⟩, .string ⟨#[]⟩, .bool false, .int .i64 1, .int .i64 2, .int .i64 1, .string ⟨#[]⟩, .string ⟨#[]⟩, .int .i64 0, .int .i64 0, .int .i64 0, .string ⟨#[]⟩, .slice none 0 0, .slice none 0 0]) | 15 => v = (.func (.func 4) #[] #[.pointer (some ⟨w.heap.size, 0, none⟩)]) | 16 => v = (.agg #[.int .i64 4, .string ⟨#[]⟩, .string ⟨#[]⟩, .bool false, .int .i64 1, .int .i64 2, .int .i64 1, .string ⟨#[]⟩, .string ⟨#[]⟩, .int .i64 0, .int .i64 0, .int .i64 0, .string ⟨#[]⟩, .slice none 0 0, .slice none 0 0]) | 17 => v = (.func (.func 4) #[] #[.pointer (some ⟨w.heap.size, 0, none⟩)]) | 18 => v = (.agg #[.int .i64 1, .string ⟨#[120]⟩, .string ⟨#[]⟩, .bool false, .int .i64 1, .int .i64 2, .int .i64 1, .string ⟨#[]⟩, .string ⟨#[]⟩, .int .i64 0, .int .i64 0, .int .i64 0, .string ⟨#[]⟩, .slice none 0 0, .slice none 0 0]) | 20 => v = (.func (.func 4) #[] #[.pointer (some ⟨w.heap.size, 0, none⟩)]) | 21 => v = (.agg #[.int .i64 1, .string ⟨#[120]⟩, .string ⟨#[]⟩, .bool false, .int .i64 1, .int .i64 2, .int .i64 1, .string ⟨#[]⟩, .string ⟨#[]⟩, .int .i64 0, .int .i64 0, .int .i64 0, .string ⟨#[]⟩, .slice none 0 0, .slice none 0 0]) | 22 => v = (.func (.func 4) #[] #[.pointer (some ⟨w.heap.size, 0, none⟩)]) | 23 => v = (.agg #[.int .i64 4, .string ⟨#[]⟩, .string ⟨#[]⟩, .bool false, .int .i64 1, .int .i64 2, .int .i64 1, .string ⟨#[]⟩, .string ⟨#[]⟩, .int .i64 0, .int .i64 0, .int .i64 0, .string ⟨#[]⟩, .slice none 0 0, .slice none 0 0]) | 24 => v = (.func (.func 4) #[] #[.pointer (some ⟨w.heap.size, 0, none⟩)]) | 25 => v = (.agg #[.int .i64 3, .string ⟨#[]⟩, .string ⟨#[]⟩, .bool false, .int .i64 1, .int .i64 2, .int .i64 1, .string ⟨#[]⟩, .string ⟨#[]⟩, .int .i64 0, .int .i64 0, .int .i64 0, .string ⟨#[]⟩, .slice none 0 0, .slice none 0 0]) | 27 => v = (.func (.func 4) #[] #[.pointer (some ⟨w.heap.size, 0, none⟩)]) | 28 => v = (.agg #[.int .i64 5, .string ⟨#[120]⟩, .string ⟨#[]⟩, .bool false, .int .i64 1, .int .i64 2, .int .i64 1, .string ⟨#[]⟩, .string ⟨#[]⟩, .int .i64 0, .int .i64 0, .int .i64 0, .string ⟨#[]⟩, .slice none 0 0, .slice none 0 0]) | 30 => v = (.func (.func 4) #[] #[.pointer (some ⟨w.heap.size, 0, none⟩)]) | 31 => v = (.agg #[.int .i64 1, .string ⟨#[]⟩, .string ⟨#[]⟩, .bool false, .int .i64 1, .int .i64 2, .int .i64 1, .string ⟨#[]⟩, .string ⟨#[]⟩, .int .i64 0, .int .i64 0, .int .i64 0, .string ⟨#[]⟩, .slice none 0 0, .slice none 0 0]) | 33 => v = (.agg #[.int .i64 1, .int .i64 2, .int .i64 1, .string ⟨#[]⟩, .string ⟨#[]⟩, .int .i64 0, .int .i64 0, .int .i64 0, .string ⟨#[]⟩, .slice none 0 0, .slice none 0 0]) | 34 => v = (.agg #[.int .i64 1, .string ⟨#[120]⟩, .string ⟨#[120]⟩, .bool false, .int .i64 1, .int .i64 2, .int .i64 1, .string ⟨#[]⟩, .string ⟨#[]⟩, .int .i64 0, .int .i64 0, .int .i64 0, .string ⟨#[]⟩, .slice none 0 0, .slice none 0 0]) | 36 => v = (.func (.func 4) #[] #[.pointer (some ⟨w.heap.size, 0, none⟩)]) | 37 => v = (.agg #[.int .i64 1, .string ⟨#[120]⟩, .string ⟨#[]⟩, .bool false, .int .i64 1, .int .i64 2, .int .i64 1, .string ⟨#[]⟩, .string ⟨#[]⟩, .int .i64 0, .int .i64 0, .int .i64 0, .string ⟨#[]⟩, .slice none 0 0, .slice none 0 0]) | 38 => v = (.func (.func 4) #[] #[.pointer (some ⟨w.heap.size, 0, none⟩)]) | 39 => v = (.agg #[.int .i64 3, .string ⟨#[]⟩, .string ⟨#[]⟩, .bool false, .int .i64 1, .int .i64 2, .int .i64 1, .string ⟨#[]⟩, .string ⟨#[]⟩, .int .i64 0, .int .i64 0, .int .i64 0, .string ⟨#[]⟩, .slice none 0 0, .slice none 0 0]) | 40 => v = (.func (.func 4) #[] #[.pointer (some ⟨w.heap.size, 0, none⟩)]) | 41 => v = (.agg #[.int .i64 4, .string ⟨#[]⟩, .string ⟨#[]⟩, .bool false, .int .i64 1, .int .i64 2, .int .i64 1, .string ⟨#[]⟩, .string ⟨#[]⟩, .int .i64 0, .int .i64 0, .int .i64 0, .string ⟨#[]⟩, .slice none 0 0, .slice none 0 0]) | _ => True) ∧ (j = 4 → ∃ n4 : Nat, v = (.slice (some ⟨n4, 0, none⟩) 2 2) ∧ W1.heap.size ≤ n4 ∧ W.heap[n4]? = some (.cells cll0 31)) ∧ (j = 7 → ∃ n7 : Nat, v = (.slice (some ⟨n7, 0, none⟩) 1 1) ∧ W1.heap.size ≤ n7 ∧ W.heap[n7]? = some (.cells cll1 31)) ∧ (j = 14 → ∃ n14 : Nat, v = (.slice (some ⟨n14, 0, none⟩) 3 3) ∧ W1.heap.size ≤ n14 ∧ W.heap[n14]? = some (.cells cll2 31)) ∧ (j = 19 → ∃ n19 : Nat, v = (.slice (some ⟨n19, 0, none⟩) 2 2) ∧ W1.heap.size ≤ n19 ∧ W.heap[n19]? = some (.cells cll3 31)) ∧ (j = 26 → ∃ n26 : Nat, v = (.slice (some ⟨n26, 0, none⟩) 3 3) ∧ W1.heap.size ≤ n26 ∧ W.heap[n26]? = some (.cells cll4 31)) ∧ (j = 29 → ∃ n29 : Nat, v = (.slice (some ⟨n29, 0, none⟩) 1 1) ∧ W1.heap.size ≤ n29 ∧ W.heap[n29]? = some (.cells cll5 31)) ∧ (j = 32 → ∃ n32 : Nat, v = (.slice (some ⟨n32, 0, none⟩) 1 1) ∧ W1.heap.size ≤ n32 ∧ W.heap[n32]? = some (.cells cll6 31)) ∧ (j = 35 → ∃ n35 : Nat, v = (.slice (some ⟨n35, 0, none⟩) 1 1) ∧ W1.heap.size ≤ n35 ∧ W.heap[n35]? = some (.cells cll7 31)) ∧ (j = 42 → ∃ n42 : Nat, v = (.slice (some ⟨n42, 0, none⟩) 3 3) ∧ W1.heap.size ≤ n42 ∧ W.heap[n42]? = some (.cells cll8 31)) ∧ (j = 43 → ∃ n43 n4 n7 n14 n19 n26 n29 n32 n35 n42 : Nat, v = (.slice (some ⟨n43, 0, none⟩) 9 9) ∧ W1.heap.size ≤ n43 ∧ W.heap[n43]? = some (.cells #[.slice (some ⟨n4, 0, none⟩) 2 2, .slice (some ⟨n7, 0, none⟩) 1 1, .slice (some ⟨n14, 0, none⟩) 3 3, .slice (some ⟨n19, 0, none⟩) 2 2, .slice (some ⟨n26, 0, none⟩) 3 3, .slice (some ⟨n29, 0, none⟩) 1 1, .slice (some ⟨n32, 0, none⟩) 1 1, .slice (some ⟨n35, 0, none⟩) 1 1, .slice (some ⟨n42, 0, none⟩) 3 3] 27) ∧ W1.heap.size ≤ n4 ∧ W.heap[n4]? = some (.cells cll0 31) ∧ W1.heap.size ≤ n7 ∧ W.heap[n7]? = some (.cells cll1 31) ∧ W1.heap.size ≤ n14 ∧ W.heap[n14]? = some (.cells cll2 31) ∧ W1.heap.size ≤ n19 ∧ W.heap[n19]? = some (.cells cll3 31) ∧ W1.heap.size ≤ n26 ∧ W.heap[n26]? = some (.cells cll4 31) ∧ W1.heap.size ≤ n29 ∧ W.heap[n29]? = some (.cells cll5 31) ∧ W1.heap.size ≤ n32 ∧ W.heap[n32]? = some (.cells cll6 31) ∧ W1.heap.size ≤ n35 ∧ W.heap[n35]? = some (.cells cll7 31) ∧ W1.heap.size ≤ n42 ∧ W.heap[n42]? = some (.cells cll8 31)) ∧ (j = 44 → ∃ n43 n4 n7 n14 n19 n26 n29 n32 n35 n42 : Nat, v = (.slice (some ⟨n43, 0, none⟩) 9 9) ∧ W1.heap.size ≤ n43 ∧ W.heap[n43]? = some (.cells #[.slice (some ⟨n4, 0, none⟩) 2 2, .slice (some ⟨n7, 0, none⟩) 1 1, .slice (some ⟨n14, 0, none⟩) 3 3, .slice (some ⟨n19, 0, none⟩) 2 2, .slice (some ⟨n26, 0, none⟩) 3 3, .slice (some ⟨n29, 0, none⟩) 1 1, .slice (some ⟨n32, 0, none⟩) 1 1, .slice (some ⟨n35, 0, none⟩) 1 1, .slice (some ⟨n42, 0, none⟩) 3 3] 27) ∧ W1.heap.size ≤ n4 ∧ W.heap[n4]? = some (.cells cll0 31) ∧ W1.heap.size ≤ n7 ∧ W.heap[n7]? = some (.cells cll1 31) ∧ W1.heap.size ≤ n14 ∧ W.heap[n14]? = some (.cells cll2 31) ∧ W1.heap.size ≤ n19 ∧ W.heap[n19]? = some (.cells cll3 31) ∧ W1.heap.size ≤ n26 ∧ W.heap[n26]? = some (.cells cll4 31) ∧ W1.heap.size ≤ n29 ∧ W.heap[n29]? = some (.cells cll5 31) ∧ W1.heap.size ≤ n32 ∧ W.heap[n32]? = some (.cells cll6 31) ∧ W1.heap.size ≤ n35 ∧ W.heap[n35]? = some (.cells cll7 31) ∧ W1.heap.size ≤ n42 ∧ W.heap[n42]? = some (.cells cll8 31))) (fun l a W => Below w.heap.size w W ∧ W1.heap.size ≤ W.heap.size ∧ W.heap[w.heap.size]? = some (.cells #[.int .i64 1, .int .i64 2, .int .i64 1, .string ⟨#[]⟩, .string ⟨#[]⟩, .int .i64 0, .int .i64 0, .int .i64 0, .string ⟨#[]⟩, .slice none 0 0, .slice none 0 0] 29)) (by kernel_rfl) (by kernel_rfl) ⟨(HBW1.out).trans ⟨rfl, rfl, rfl, Nat.le_refl _, fun _ _ => rfl⟩, Nat.le_refl _, HO.out⟩ ?_ ?_
  · intro l a W i o hsz h ho hl haf
    obtain ⟨g1, g0, b0⟩ := h.more
    have gz : w.heap.size ≤ W.heap.size := Nat.le_trans (by first | exact Nat.le_refl _ | omega) g0
    have hi : i < 45 := (Array.getElem?_eq_some_iff.1 ho).1
    obtain rfl | rfl | rfl | rfl | rfl | rfl | rfl | rfl | rfl | rfl | rfl | rfl | rfl | rfl | rfl | rfl | rfl | rfl | rfl | rfl | rfl | rfl | rfl | rfl | rfl | rfl | rfl | rfl | rfl | rfl | rfl | rfl | rfl | rfl | rfl | rfl | rfl | rfl | rfl | rfl | rfl | rfl | rfl | rfl | rfl : i = 0 ∨ i = 1 ∨ i = 2 ∨ i = 3 ∨ i = 4 ∨ i = 5 ∨ i = 6 ∨ i = 7 ∨ i = 8 ∨ i = 9 ∨ i = 10 ∨ i = 11 ∨ i = 12 ∨ i = 13 ∨ i = 14 ∨ i = 15 ∨ i = 16 ∨ i = 17 ∨ i = 18 ∨ i = 19 ∨ i = 20 ∨ i = 21 ∨ i = 22 ∨ i = 23 ∨ i = 24 ∨ i = 25 ∨ i = 26 ∨ i = 27 ∨ i = 28 ∨ i = 29 ∨ i = 30 ∨ i = 31 ∨ i = 32 ∨ i = 33 ∨ i = 34 ∨ i = 35 ∨ i = 36 ∨ i = 37 ∨ i = 38 ∨ i = 39 ∨ i = 40 ∨ i = 41 ∨ i = 42 ∨ i = 43 ∨ i = 44 := by omega
    all_goals (obtain rfl := Option.some.inj ho; rw [if_pos (want_none rfl)])
    · have e4 := h.given 4 _ rfl (by kernel_rfl)
      refine wp_val (v := .func (.func 4) #[] #[.pointer (some ⟨w.heap.size, 0, none⟩)]) (w' := W) ?_ ⟨_, rfl, ⟨rfl, fun e => absurd e (by decide), fun e => absurd e (by decide), fun e => absurd e (by decide), fun e => absurd e (by decide), fun e => absurd e (by decide), fun e => absurd e (by decide), fun e => absurd e (by decide), fun e => absurd e (by decide), fun e => absurd e (by decide), fun e => absurd e (by decide), fun e => absurd e (by decide)⟩, fun _ _ h => h, g1, g0, b0⟩
      unfold execOp
      simp [e4, go_sem]
    · obtain ⟨u13, e13, x13⟩ := h.new 0 _ 13 rfl rfl (haf ⟨0, .data⟩ (by simp) rfl)
      have y13 : u13 = (.func (.func 4) #[] #[.pointer (some ⟨w.heap.size, 0, none⟩)]) := x13.1
      subst y13
      refine wp_enter (f := 4) (args := #[.int .i64 3, .string ⟨#[]⟩, .pointer (some ⟨w.heap.size, 0, none⟩)]) (w' := W) ?_ ((clause_made (w.heap.size) 3 ⟨#[]⟩ W b0).mono ?_)
      · unfold execOp
        simp [e13, go_sem]
      · rintro e W' ⟨rfl, hb⟩
        exact ⟨_, rfl, _, rfl, ⟨rfl, fun e => absurd e (by decide), fun e => absurd e (by decide), fun e => absurd e (by decide), fun e => absurd e (by decide), fun e => absurd e (by decide), fun e => absurd e (by decide), fun e => absurd e (by decide), fun e => absurd e (by decide), fun e => absurd e (by decide), fun e => absurd e (by decide), fun e => absurd e (by decide)⟩, fun j u hd => ⟨hd.1, fun e => by obtain ⟨n4, ev, p_n4, f_n4⟩ := hd.2.1 e; exact ⟨n4, ev, p_n4, blK hb f_n4⟩, fun e => by obtain ⟨n7, ev, p_n7, f_n7⟩ := hd.2.2.1 e; exact ⟨n7, ev, p_n7, blK hb f_n7⟩, fun e => by obtain ⟨n14, ev, p_n14, f_n14⟩ := hd.2.2.2.1 e; exact ⟨n14, ev, p_n14, blK hb f_n14⟩, fun e => by obtain ⟨n19, ev, p_n19, f_n19⟩ := hd.2.2.2.2.1 e; exact ⟨n19, ev, p_n19, blK hb f_n19⟩, fun e => by obtain ⟨n26, ev, p_n26, f_n26⟩ := hd.2.2.2.2.2.1 e; exact ⟨n26, ev, p_n26, blK hb f_n26⟩, fun e => by obtain ⟨n29, ev, p_n29, f_n29⟩ := hd.2.2.2.2.2.2.1 e; exact ⟨n29, ev, p_n29, blK hb f_n29⟩, fun e => by obtain ⟨n32, ev, p_n32, f_n32⟩ := hd.2.2.2.2.2.2.2.1 e; exact ⟨n32, ev, p_n32, blK hb f_n32⟩, fun e => by obtain ⟨n35, ev, p_n35, f_n35⟩ := hd.2.2.2.2.2.2.2.2.1 e; exact ⟨n35, ev, p_n35, blK hb f_n35⟩, fun e => by obtain ⟨n42, ev, p_n42, f_n42⟩ := hd.2.2.2.2.2.2.2.2.2.1 e; exact ⟨n42, ev, p_n42, blK hb f_n42⟩, fun e => by obtain ⟨n43, n4, n7, n14, n19, n26, n29, n32, n35, n42, ev, p_n43, f_n43, p_n4, f_n4, p_n7, f_n7, p_n14, f_n14, p_n19, f_n19, p_n26, f_n26, p_n29, f_n29, p_n32, f_n32, p_n35, f_n35, p_n42, f_n42⟩ := hd.2.2.2.2.2.2.2.2.2.2.1 e; exact ⟨n43, n4, n7, n14, n19, n26, n29, n32, n35, n42, ev, p_n43, blK hb f_n43, p_n4, blK hb f_n4, p_n7, blK hb f_n7, p_n14, blK hb f_n14, p_n19, blK hb f_n19, p_n26, blK hb f_n26, p_n29, blK hb f_n29, p_n32, blK hb f_n32, p_n35, blK hb f_n35, p_n42, blK hb f_n42⟩, fun e => by obtain ⟨n43, n4, n7, n14, n19, n26, n29, n32, n35, n42, ev, p_n43, f_n43, p_n4, f_n4, p_n7, f_n7, p_n14, f_n14, p_n19, f_n19, p_n26, f_n26, p_n29, f_n29, p_n32, f_n32, p_n35, f_n35, p_n42, f_n42⟩ := hd.2.2.2.2.2.2.2.2.2.2.2 e; exact ⟨n43, n4, n7, n14, n19, n26, n29, n32, n35, n42, ev, p_n43, blK hb f_n43, p_n4, blK hb f_n4, p_n7, blK hb f_n7, p_n14, blK hb f_n14, p_n19, blK hb f_n19, p_n26, blK hb f_n26, p_n29, blK hb f_n29, p_n32, blK hb f_n32, p_n35, blK hb f_n35, p_n42, blK hb f_n42⟩⟩, g1.trans (hb.mono gz), Nat.le_trans g0 hb.size, blK hb b0⟩
    · have e4 := h.given 4 _ rfl (by kernel_rfl)
      refine wp_val (v := .func (.func 4) #[] #[.pointer (some ⟨w.heap.size, 0, none⟩)]) (w' := W) ?_ ⟨_, rfl, ⟨rfl, fun e => absurd e (by decide), fun e => absurd e (by decide), fun e => absurd e (by decide), fun e => absurd e (by decide), fun e => absurd e (by decide), fun e => absurd e (by decide), fun e => absurd e (by decide), fun e => absurd e (by decide), fun e => absurd e (by decide), fun e => absurd e (by decide), fun e => absurd e (by decide)⟩, fun _ _ h => h, g1, g0, b0⟩
      unfold execOp
      simp [e4, go_sem]
    · obtain ⟨u15, e15, x15⟩ := h.new 2 _ 15 rfl rfl (haf ⟨2, .data⟩ (by simp) rfl)
      have y15 : u15 = (.func (.func 4) #[] #[.pointer (some ⟨w.heap.size, 0, none⟩)]) := x15.1
      subst y15
      refine wp_enter (f := 4) (args := #[.int .i64 1, .string ⟨#[120]⟩, .pointer (some ⟨w.heap.size, 0, none⟩)]) (w' := W) ?_ ((clause_made (w.heap.size) 1 ⟨#[120]⟩ W b0).mono ?_)
      · unfold execOp
        simp [e15, go_sem]
      · rintro e W' ⟨rfl, hb⟩
        exact ⟨_, rfl, _, rfl, ⟨rfl, fun e => absurd e (by decide), fun e => absurd e (by decide), fun e => absurd e (by decide), fun e => absurd e (by decide), fun e => absurd e (by decide), fun e => absurd e (by decide), fun e => absurd e (by decide), fun e => absurd e (by decide), fun e => absurd e (by decide), fun e => absurd e (by decide), fun e => absurd e (by decide)⟩, fun j u hd => ⟨hd.1, fun e => by obtain ⟨n4, ev, p_n4, f_n4⟩ := hd.2.1 e; exact ⟨n4, ev, p_n4, blK hb f_n4⟩, fun e => by obtain ⟨n7, ev, p_n7, f_n7⟩ := hd.2.2.1 e; exact ⟨n7, ev, p_n7, blK hb f_n7⟩, fun e => by obtain ⟨n14, ev, p_n14, f_n14⟩ := hd.2.2.2.1 e; exact ⟨n14, ev, p_n14, blK hb f_n14⟩, fun e => by obtain ⟨n19, ev, p_n19, f_n19⟩ := hd.2.2.2.2.1 e; exact ⟨n19, ev, p_n19, blK hb f_n19⟩, fun e => by obtain ⟨n26, ev, p_n26, f_n26⟩ := hd.2.2.2.2.2.1 e; exact ⟨n26, ev, p_n26, blK hb f_n26⟩, fun e => by obtain ⟨n29, ev, p_n29, f_n29⟩ := hd.2.2.2.2.2.2.1 e; exact ⟨n29, ev, p_n29, blK hb f_n29⟩, fun e => by obtain ⟨n32, ev, p_n32, f_n32⟩ := hd.2.2.2.2.2.2.2.1 e; exact ⟨n32, ev, p_n32, blK hb f_n32⟩, fun e => by obtain ⟨n35, ev, p_n35, f_n35⟩ := hd.2.2.2.2.2.2.2.2.1 e; exact ⟨n35, ev, p_n35, blK hb f_n35⟩, fun e => by obtain ⟨n42, ev, p_n42, f_n42⟩ := hd.2.2.2.2.2.2.2.2.2.1 e; exact ⟨n42, ev, p_n42, blK hb f_n42⟩, fun e => by obtain ⟨n43, n4, n7, n14, n19, n26, n29, n32, n35, n42, ev, p_n43, f_n43, p_n4, f_n4, p_n7, f_n7, p_n14, f_n14, p_n19, f_n19, p_n26, f_n26, p_n29, f_n29, p_n32, f_n32, p_n35, f_n35, p_n42, f_n42⟩ := hd.2.2.2.2.2.2.2.2.2.2.1 e; exact ⟨n43, n4, n7, n14, n19, n26, n29, n32, n35, n42, ev, p_n43, blK hb f_n43, p_n4, blK hb f_n4, p_n7, blK hb f_n7, p_n14, blK hb f_n14, p_n19, blK hb f_n19, p_n26, blK hb f_n26, p_n29, blK hb f_n29, p_n32, blK hb f_n32, p_n35, blK hb f_n35, p_n42, blK hb f_n42⟩, fun e => by obtain ⟨n43, n4, n7, n14, n19, n26, n29, n32, n35, n42, ev, p_n43, f_n43, p_n4, f_n4, p_n7, f_n7, p_n14, f_n14, p_n19, f_n19, p_n26, f_n26, p_n29, f_n29, p_n32, f_n32, p_n35, f_n35, p_n42, f_n42⟩ := hd.2.2.2.2.2.2.2.2.2.2.2 e; exact ⟨n43, n4, n7, n14, n19, n26, n29, n32, n35, n42, ev, p_n43, blK hb f_n43, p_n4, blK hb f_n4, p_n7, blK hb f_n7, p_n14, blK hb f_n14, p_n19, blK hb f_n19, p_n26, blK hb f_n26, p_n29, blK hb f_n29, p_n32, blK hb f_n32, p_n35, blK hb f_n35, p_n42, blK hb f_n42⟩⟩, g1.trans (hb.mono gz), Nat.le_trans g0 hb.size, blK hb b0⟩
    · obtain ⟨u14, e14, x14⟩ := h.new 1 _ 14 rfl rfl (haf ⟨1, .data⟩ (by simp) rfl)
      have y14 : u14 = (.agg #[.int .i64 3, .string ⟨#[]⟩, .string ⟨#[]⟩, .bool false, .int .i64 1, .int .i64 2, .int .i64 1, .string ⟨#[]⟩, .string ⟨#[]⟩, .int .i64 0, .int .i64 0, .int .i64 0, .string ⟨#[]⟩, .slice none 0 0, .slice none 0 0]) := x14.1
      subst y14
      obtain ⟨u16, e16, x16⟩ := h.new 3 _ 16 rfl rfl (haf ⟨3, .data⟩ (by simp) rfl)
      have y16 : u16 = (.agg #[.int .i64 1, .string ⟨#[120]⟩, .string ⟨#[]⟩, .bool false, .int .i64 1, .int .i64 2, .int .i64 1, .string ⟨#[]⟩, .string ⟨#[]⟩, .int .i64 0, .int .i64 0, .int .i64 0, .string ⟨#[]⟩, .slice none 0 0, .slice none 0 0]) := x16.1
      subst y16
      refine wp_val (v := .slice (some ⟨W.heap.size, 0, none⟩) 2 2) (w' := W.alloc (.cells cll0 31)) ?_ ⟨_, rfl, ⟨trivial, fun _ => ⟨W.heap.size, rfl, g0, aNew rfl⟩, fun e => absurd e (by decide), fun e => absurd e (by decide), fun e => absurd e (by decide), fun e => absurd e (by decide), fun e => absurd e (by decide), fun e => absurd e (by decide), fun e => absurd e (by decide), fun e => absurd e (by decide), fun e => absurd e (by decide), fun e => absurd e (by decide)⟩, fun j u hd => ⟨hd.1, fun e => by obtain ⟨n4, ev, p_n4, f_n4⟩ := hd.2.1 e; exact ⟨n4, ev, p_n4, aOld f_n4⟩, fun e => by obtain ⟨n7, ev, p_n7, f_n7⟩ := hd.2.2.1 e; exact ⟨n7, ev, p_n7, aOld f_n7⟩, fun e => by obtain ⟨n14, ev, p_n14, f_n14⟩ := hd.2.2.2.1 e; exact ⟨n14, ev, p_n14, aOld f_n14⟩, fun e => by obtain ⟨n19, ev, p_n19, f_n19⟩ := hd.2.2.2.2.1 e; exact ⟨n19, ev, p_n19, aOld f_n19⟩, fun e => by obtain ⟨n26, ev, p_n26, f_n26⟩ := hd.2.2.2.2.2.1 e; exact ⟨n26, ev, p_n26, aOld f_n26⟩, fun e => by obtain ⟨n29, ev, p_n29, f_n29⟩ := hd.2.2.2.2.2.2.1 e; exact ⟨n29, ev, p_n29, aOld f_n29⟩, fun e => by obtain ⟨n32, ev, p_n32, f_n32⟩ := hd.2.2.2.2.2.2.2.1 e; exact ⟨n32, ev, p_n32, aOld f_n32⟩, fun e => by obtain ⟨n35, ev, p_n35, f_n35⟩ := hd.2.2.2.2.2.2.2.2.1 e; exact ⟨n35, ev, p_n35, aOld f_n35⟩, fun e => by obtain ⟨n42, ev, p_n42, f_n42⟩ := hd.2.2.2.2.2.2.2.2.2.1 e; exact ⟨n42, ev, p_n42, aOld f_n42⟩, fun e => by obtain ⟨n43, n4, n7, n14, n19, n26, n29, n32, n35, n42, ev, p_n43, f_n43, p_n4, f_n4, p_n7, f_n7, p_n14, f_n14, p_n19, f_n19, p_n26, f_n26, p_n29, f_n29, p_n32, f_n32, p_n35, f_n35, p_n42, f_n42⟩ := hd.2.2.2.2.2.2.2.2.2.2.1 e; exact ⟨n43, n4, n7, n14, n19, n26, n29, n32, n35, n42, ev, p_n43, aOld f_n43, p_n4, aOld f_n4, p_n7, aOld f_n7, p_n14, aOld f_n14, p_n19, aOld f_n19, p_n26, aOld f_n26, p_n29, aOld f_n29, p_n32, aOld f_n32, p_n35, aOld f_n35, p_n42, aOld f_n42⟩, fun e => by obtain ⟨n43, n4, n7, n14, n19, n26, n29, n32, n35, n42, ev, p_n43, f_n43, p_n4, f_n4, p_n7, f_n7, p_n14, f_n14, p_n19, f_n19, p_n26, f_n26, p_n29, f_n29, p_n32, f_n32, p_n35, f_n35, p_n42, f_n42⟩ := hd.2.2.2.2.2.2.2.2.2.2.2 e; exact ⟨n43, n4, n7, n14, n19, n26, n29, n32, n35, n42, ev, p_n43, aOld f_n43, p_n4, aOld f_n4, p_n7, aOld f_n7, p_n14, aOld f_n14, p_n19, aOld f_n19, p_n26, aOld f_n26, p_n29, aOld f_n29, p_n32, aOld f_n32, p_n35, aOld f_n35, p_n42, aOld f_n42⟩⟩, g1.alloc gz _, by simp; omega, aOld b0⟩
      unfold execOp
      simp [e14, e16, go_sem, cll0]
    · have e4 := h.given 4 _ rfl (by kernel_rfl)
      refine wp_val (v := .func (.func 4) #[] #[.pointer (some ⟨w.heap.size, 0, none⟩)]) (w' := W) ?_ ⟨_, rfl, ⟨rfl, fun e => absurd e (by decide), fun e => absurd e (by decide), fun e => absurd e (by decide), fun e => absurd e (by decide), fun e => absurd e (by decide), fun e => absurd e (by decide), fun e => absurd e (by decide), fun e => absurd e (by decide), fun e => absurd e (by decide), fun e => absurd e (by decide), fun e => absurd e (by decide)⟩, fun _ _ h => h, g1, g0, b0⟩
      unfold execOp
      simp [e4, go_sem]
    · obtain ⟨u18, e18, x18⟩ := h.new 5 _ 18 rfl rfl (haf ⟨5, .data⟩ (by simp) rfl)
      have y18 : u18 = (.func (.func 4) #[] #[.pointer (some ⟨w.heap.size, 0, none⟩)]) := x18.1
      subst y18
      refine wp_enter (f := 4) (args := #[.int .i64 4, .string ⟨#[]⟩, .pointer (some ⟨w.heap.size, 0, none⟩)]) (w' := W) ?_ ((clause_made (w.heap.size) 4 ⟨#[]⟩ W b0).mono ?_)
      · unfold execOp
        simp [e18, go_sem]
      · rintro e W' ⟨rfl, hb⟩
        exact ⟨_, rfl, _, rfl, ⟨rfl, fun e => absurd e (by decide), fun e => absurd e (by decide), fun e => absurd e (by decide), fun e => absurd e (by decide), fun e => absurd e (by decide), fun e => absurd e (by decide), fun e => absurd e (by decide), fun e => absurd e (by decide), fun e => absurd e (by decide), fun e => absurd e (by decide), fun e => absurd e (by decide)⟩, fun j u hd => ⟨hd.1, fun e => by obtain ⟨n4, ev, p_n4, f_n4⟩ := hd.2.1 e; exact ⟨n4, ev, p_n4, blK hb f_n4⟩, fun e => by obtain ⟨n7, ev, p_n7, f_n7⟩ := hd.2.2.1 e; exact ⟨n7, ev, p_n7, blK hb f_n7⟩, fun e => by obtain ⟨n14, ev, p_n14, f_n14⟩ := hd.2.2.2.1 e; exact ⟨n14, ev, p_n14, blK hb f_n14⟩, fun e => by obtain ⟨n19, ev, p_n19, f_n19⟩ := hd.2.2.2.2.1 e; exact ⟨n19, ev, p_n19, blK hb f_n19⟩, fun e => by obtain ⟨n26, ev, p_n26, f_n26⟩ := hd.2.2.2.2.2.1 e; exact ⟨n26, ev, p_n26, blK hb f_n26⟩, fun e => by obtain ⟨n29, ev, p_n29, f_n29⟩ := hd.2.2.2.2.2.2.1 e; exact ⟨n29, ev, p_n29, blK hb f_n29⟩, fun e => by obtain ⟨n32, ev, p_n32, f_n32⟩ := hd.2.2.2.2.2.2.2.1 e; exact ⟨n32, ev, p_n32, blK hb f_n32⟩, fun e => by obtain ⟨n35, ev, p_n35, f_n35⟩ := hd.2.2.2.2.2.2.2.2.1 e; exact ⟨n35, ev, p_n35, blK hb f_n35⟩, fun e => by obtain ⟨n42, ev, p_n42, f_n42⟩ := hd.2.2.2.2.2.2.2.2.2.1 e; exact ⟨n42, ev, p_n42, blK hb f_n42⟩, fun e => by obtain ⟨n43, n4, n7, n14, n19, n26, n29, n32, n35, n42, ev, p_n43, f_n43, p_n4, f_n4, p_n7, f_n7, p_n14, f_n14, p_n19, f_n19, p_n26, f_n26, p_n29, f_n29, p_n32, f_n32, p_n35, f_n35, p_n42, f_n42⟩ := hd.2.2.2.2.2.2.2.2.2.2.1 e; exact ⟨n43, n4, n7, n14, n19, n26, n29, n32, n35, n42, ev, p_n43, blK hb f_n43, p_n4, blK hb f_n4, p_n7, blK hb f_n7, p_n14, blK hb f_n14, p_n19, blK hb f_n19, p_n26, blK hb f_n26, p_n29, blK hb f_n29, p_n32, blK hb f_n32, p_n35, blK hb f_n35, p_n42, blK hb f_n42⟩, fun e => by obtain ⟨n43, n4, n7, n14, n19, n26, n29, n32, n35, n42, ev, p_n43, f_n43, p_n4, f_n4, p_n7, f_n7, p_n14, f_n14, p_n19, f_n19, p_n26, f_n26, p_n29, f_n29, p_n32, f_n32, p_n35, f_n35, p_n42, f_n42⟩ := hd.2.2.2.2.2.2.2.2.2.2.2 e; exact ⟨n43, n4, n7, n14, n19, n26, n29, n32, n35, n42, ev, p_n43, blK hb f_n43, p_n4, blK hb f_n4, p_n7, blK hb f_n7, p_n14, blK hb f_n14, p_n19, blK hb f_n19, p_n26, blK hb f_n26, p_n29, blK hb f_n29, p_n32, blK hb f_n32, p_n35, blK hb f_n35, p_n42, blK hb f_n42⟩⟩, g1.trans (hb.mono gz), Nat.le_trans g0 hb.size, blK hb b0⟩
    · obtain ⟨u19, e19, x19⟩ := h.new 6 _ 19 rfl rfl (haf ⟨6, .data⟩ (by simp) rfl)
      have y19 : u19 = (.agg #[.int .i64 4, .string ⟨#[]⟩, .string ⟨#[]⟩, .bool false, .int .i64 1, .int .i64 2, .int .i64 1, .string ⟨#[]⟩, .string ⟨#[]⟩, .int .i64 0, .int .i64 0, .int .i64 0, .string ⟨#[]⟩, .slice none 0 0, .slice none 0 0]) := x19.1
      subst y19
      refine wp_val (v := .slice (some ⟨W.heap.size, 0, none⟩) 1 1) (w' := W.alloc (.cells cll1 31)) ?_ ⟨_, rfl, ⟨trivial, fun e => absurd e (by decide), fun _ => ⟨W.heap.size, rfl, g0, aNew rfl⟩, fun e => absurd e (by decide), fun e => absurd e (by decide), fun e => absurd e (by decide), fun e => absurd e (by decide), fun e => absurd e (by decide), fun e => absurd e (by decide), fun e => absurd e (by decide), fun e => absurd e (by decide), fun e => absurd e (by decide)⟩, fun j u hd => ⟨hd.1, fun e => by obtain ⟨n4, ev, p_n4, f_n4⟩ := hd.2.1 e; exact ⟨n4, ev, p_n4, aOld f_n4⟩, fun e => by obtain ⟨n7, ev, p_n7, f_n7⟩ := hd.2.2.1 e; exact ⟨n7, ev, p_n7, aOld f_n7⟩, fun e => by obtain ⟨n14, ev, p_n14, f_n14⟩ := hd.2.2.2.1 e; exact ⟨n14, ev, p_n14, aOld f_n14⟩, fun e => by obtain ⟨n19, ev, p_n19, f_n19⟩ := hd.2.2.2.2.1 e; exact ⟨n19, ev, p_n19, aOld f_n19⟩, fun e => by obtain ⟨n26, ev, p_n26, f_n26⟩ := hd.2.2.2.2.2.1 e; exact ⟨n26, ev, p_n26, aOld f_n26⟩, fun e => by obtain ⟨n29, ev, p_n29, f_n29⟩ := hd.2.2.2.2.2.2.1 e; exact ⟨n29, ev, p_n29, aOld f_n29⟩, fun e => by obtain ⟨n32, ev, p_n32, f_n32⟩ := hd.2.2.2.2.2.2.2.1 e; exact ⟨n32, ev, p_n32, aOld f_n32⟩, fun e => by obtain ⟨n35, ev, p_n35, f_n35⟩ := hd.2.2.2.2.2.2.2.2.1 e; exact ⟨n35, ev, p_n35, aOld f_n35⟩, fun e => by obtain ⟨n42, ev, p_n42, f_n42⟩ := hd.2.2.2.2.2.2.2.2.2.1 e; exact ⟨n42, ev, p_n42, aOld f_n42⟩, fun e => by obtain ⟨n43, n4, n7, n14, n19, n26, n29, n32, n35, n42, ev, p_n43, f_n43, p_n4, f_n4, p_n7, f_n7, p_n14, f_n14, p_n19, f_n19, p_n26, f_n26, p_n29, f_n29, p_n32, f_n32, p_n35, f_n35, p_n42, f_n42⟩ := hd.2.2.2.2.2.2.2.2.2.2.1 e; exact ⟨n43, n4, n7, n14, n19, n26, n29, n32, n35, n42, ev, p_n43, aOld f_n43, p_n4, aOld f_n4, p_n7, aOld f_n7, p_n14, aOld f_n14, p_n19, aOld f_n19, p_n26, aOld f_n26, p_n29, aOld f_n29, p_n32, aOld f_n32, p_n35, aOld f_n35, p_n42, aOld f_n42⟩, fun e => by obtain ⟨n43, n4, n7, n14, n19, n26, n29, n32, n35, n42, ev, p_n43, f_n43, p_n4, f_n4, p_n7, f_n7, p_n14, f_n14, p_n19, f_n19, p_n26, f_n26, p_n29, f_n29, p_n32, f_n32, p_n35, f_n35, p_n42, f_n42⟩ := hd.2.2.2.2.2.2.2.2.2.2.2 e; exact ⟨n43, n4, n7, n14, n19, n26, n29, n32, n35, n42, ev, p_n43, aOld f_n43, p_n4, aOld f_n4, p_n7, aOld f_n7, p_n14, aOld f_n14, p_n19, aOld f_n19, p_n26, aOld f_n26, p_n29, aOld f_n29, p_n32, aOld f_n32, p_n35, aOld f_n35, p_n42, aOld f_n42⟩⟩, g1.alloc gz _, by simp; omega, aOld b0⟩
      unfold execOp
      simp [e19, go_sem, cll1]
    · have e4 := h.given 4 _ rfl (by kernel_rfl)
      refine wp_val (v := .func (.func 4) #[] #[.pointer (some ⟨w.heap.size, 0, none⟩)]) (w' := W) ?_ ⟨_, rfl, ⟨rfl, fun e => absurd e (by decide), fun e => absurd e (by decide), fun e => absurd e (by decide), fun e => absurd e (by decide), fun e => absurd e (by decide), fun e => absurd e (by decide), fun e => absurd e (by decide), fun e => absurd e (by decide), fun e => absurd e (by decide), fun e => absurd e (by decide), fun e => absurd e (by decide)⟩, fun _ _ h => h, g1, g0, b0⟩
      unfold execOp
      simp [e4, go_sem]
    · obtain ⟨u21, e21, x21⟩ := h.new 8 _ 21 rfl rfl (haf ⟨8, .data⟩ (by simp) rfl)
      have y21 : u21 = (.func (.func 4) #[] #[.pointer (some ⟨w.heap.size, 0, none⟩)]) := x21.1
      subst y21
      refine wp_enter (f := 4) (args := #[.int .i64 1, .string ⟨#[120]⟩, .pointer (some ⟨w.heap.size, 0, none⟩)]) (w' := W) ?_ ((clause_made (w.heap.size) 1 ⟨#[120]⟩ W b0).mono ?_)
      · unfold execOp
        simp [e21, go_sem]
      · rintro e W' ⟨rfl, hb⟩
        exact ⟨_, rfl, _, rfl, ⟨rfl, fun e => absurd e (by decide), fun e => absurd e (by decide), fun e => absurd e (by decide), fun e => absurd e (by decide), fun e => absurd e (by decide), fun e => absurd e (by decide), fun e => absurd e (by decide), fun e => absurd e (by decide), fun e => absurd e (by decide), fun e => absurd e (by decide), fun e => absurd e (by decide)⟩, fun j u hd => ⟨hd.1, fun e => by obtain ⟨n4, ev, p_n4, f_n4⟩ := hd.2.1 e; exact ⟨n4, ev, p_n4, blK hb f_n4⟩, fun e => by obtain ⟨n7, ev, p_n7, f_n7⟩ := hd.2.2.1 e; exact ⟨n7, ev, p_n7, blK hb f_n7⟩, fun e => by obtain ⟨n14, ev, p_n14, f_n14⟩ := hd.2.2.2.1 e; exact ⟨n14, ev, p_n14, blK hb f_n14⟩, fun e => by obtain ⟨n19, ev, p_n19, f_n19⟩ := hd.2.2.2.2.1 e; exact ⟨n19, ev, p_n19, blK hb f_n19⟩, fun e => by obtain ⟨n26, ev, p_n26, f_n26⟩ := hd.2.2.2.2.2.1 e; exact ⟨n26, ev, p_n26, blK hb f_n26⟩, fun e => by obtain ⟨n29, ev, p_n29, f_n29⟩ := hd.2.2.2.2.2.2.1 e; exact ⟨n29, ev, p_n29, blK hb f_n29⟩, fun e => by obtain ⟨n32, ev, p_n32, f_n32⟩ := hd.2.2.2.2.2.2.2.1 e; exact ⟨n32, ev, p_n32, blK hb f_n32⟩, fun e => by obtain ⟨n35, ev, p_n35, f_n35⟩ := hd.2.2.2.2.2.2.2.2.1 e; exact ⟨n35, ev, p_n35, blK hb f_n35⟩, fun e => by obtain ⟨n42, ev, p_n42, f_n42⟩ := hd.2.2.2.2.2.2.2.2.2.1 e; exact ⟨n42, ev, p_n42, blK hb f_n42⟩, fun e => by obtain ⟨n43, n4, n7, n14, n19, n26, n29, n32, n35, n42, ev, p_n43, f_n43, p_n4, f_n4, p_n7, f_n7, p_n14, f_n14, p_n19, f_n19, p_n26, f_n26, p_n29, f_n29, p_n32, f_n32, p_n35, f_n35, p_n42, f_n42⟩ := hd.2.2.2.2.2.2.2.2.2.2.1 e; exact ⟨n43, n4, n7, n14, n19, n26, n29, n32, n35, n42, ev, p_n43, blK hb f_n43, p_n4, blK hb f_n4, p_n7, blK hb f_n7, p_n14, blK hb f_n14, p_n19, blK hb f_n19, p_n26, blK hb f_n26, p_n29, blK hb f_n29, p_n32, blK hb f_n32, p_n35, blK hb f_n35, p_n42, blK hb f_n42⟩, fun e => by obtain ⟨n43, n4, n7, n14, n19, n26, n29, n32, n35, n42, ev, p_n43, f_n43, p_n4, f_n4, p_n7, f_n7, p_n14, f_n14, p_n19, f_n19, p_n26, f_n26, p_n29, f_n29, p_n32, f_n32, p_n35, f_n35, p_n42, f_n42⟩ := hd.2.2.2.2.2.2.2.2.2.2.2 e; exact ⟨n43, n4, n7, n14, n19, n26, n29, n32, n35, n42, ev, p_n43, blK hb f_n43, p_n4, blK hb f_n4, p_n7, blK hb f_n7, p_n14, blK hb f_n14, p_n19, blK hb f_n19, p_n26, blK hb f_n26, p_n29, blK hb f_n29, p_n32, blK hb f_n32, p_n35, blK hb f_n35, p_n42, blK hb f_n42⟩⟩, g1.trans (hb.mono gz), Nat.le_trans g0 hb.size, blK hb b0⟩
    · have e4 := h.given 4 _ rfl (by kernel_rfl)
      refine wp_val (v := .func (.func 4) #[] #[.pointer (some ⟨w.heap.size, 0, none⟩)]) (w' := W) ?_ ⟨_, rfl, ⟨rfl, fun e => absurd e (by decide), fun e => absurd e (by decide), fun e => absurd e (by decide), fun e => absurd e (by decide), fun e => absurd e (by decide), fun e => absurd e (by decide), fun e => absurd e (by decide), fun e => absurd e (by decide), fun e => absurd e (by decide), fun e => absurd e (by decide), fun e => absurd e (by decide)⟩, fun _ _ h => h, g1, g0, b0⟩
      unfold execOp
      simp [e4, go_sem]
    · obtain ⟨u23, e23, x23⟩ := h.new 10 _ 23 rfl rfl (haf ⟨10, .data⟩ (by simp) rfl)
      have y23 : u23 = (.func (.func 4) #[] #[.pointer (some ⟨w.heap.size, 0, none⟩)]) := x23.1
      subst y23
      refine wp_enter (f := 4) (args := #[.int .i64 1, .string ⟨#[121]⟩, .pointer (some ⟨w.heap.size, 0, none⟩)]) (w' := W) ?_ ((clause_made (w.heap.size) 1 ⟨#[121]⟩ W b0).mono ?_)
      · unfold execOp
        simp [e23, go_sem]
      · rintro e W' ⟨rfl, hb⟩
        exact ⟨_, rfl, _, rfl, ⟨rfl, fun e => absurd e (by decide), fun e => absurd e (by decide), fun e => absurd e (by decide), fun e => absurd e (by decide), fun e => absurd e (by decide), fun e => absurd e (by decide), fun e => absurd e (by decide), fun e => absurd e (by decide), fun e => absurd e (by decide), fun e => absurd e (by decide), fun e => absurd e (by decide)⟩, fun j u hd => ⟨hd.1, fun e => by obtain ⟨n4, ev, p_n4, f_n4⟩ := hd.2.1 e; exact ⟨n4, ev, p_n4, blK hb f_n4⟩, fun e => by obtain ⟨n7, ev, p_n7, f_n7⟩ := hd.2.2.1 e; exact ⟨n7, ev, p_n7, blK hb f_n7⟩, fun e => by obtain ⟨n14, ev, p_n14, f_n14⟩ := hd.2.2.2.1 e; exact ⟨n14, ev, p_n14, blK hb f_n14⟩, fun e => by obtain ⟨n19, ev, p_n19, f_n19⟩ := hd.2.2.2.2.1 e; exact ⟨n19, ev, p_n19, blK hb f_n19⟩, fun e => by obtain ⟨n26, ev, p_n26, f_n26⟩ := hd.2.2.2.2.2.1 e; exact ⟨n26, ev, p_n26, blK hb f_n26⟩, fun e => by obtain ⟨n29, ev, p_n29, f_n29⟩ := hd.2.2.2.2.2.2.1 e; exact ⟨n29, ev, p_n29, blK hb f_n29⟩, fun e => by obtain ⟨n32, ev, p_n32, f_n32⟩ := hd.2.2.2.2.2.2.2.1 e; exact ⟨n32, ev, p_n32, blK hb f_n32⟩, fun e => by obtain ⟨n35, ev, p_n35, f_n35⟩ := hd.2.2.2.2.2.2.2.2.1 e; exact ⟨n35, ev, p_n35, blK hb f_n35⟩, fun e => by obtain ⟨n42, ev, p_n42, f_n42⟩ := hd.2.2.2.2.2.2.2.2.2.1 e; exact ⟨n42, ev, p_n42, blK hb f_n42⟩, fun e => by obtain ⟨n43, n4, n7, n14, n19, n26, n29, n32, n35, n42, ev, p_n43, f_n43, p_n4, f_n4, p_n7, f_n7, p_n14, f_n14, p_n19, f_n19, p_n26, f_n26, p_n29, f_n29, p_n32, f_n32, p_n35, f_n35, p_n42, f_n42⟩ := hd.2.2.2.2.2.2.2.2.2.2.1 e; exact ⟨n43, n4, n7, n14, n19, n26, n29, n32, n35, n42, ev, p_n43, blK hb f_n43, p_n4, blK hb f_n4, p_n7, blK hb f_n7, p_n14, blK hb f_n14, p_n19, blK hb f_n19, p_n26, blK hb f_n26, p_n29, blK hb f_n29, p_n32, blK hb f_n32, p_n35, blK hb f_n35, p_n42, blK hb f_n42⟩, fun e => by obtain ⟨n43, n4, n7, n14, n19, n26, n29, n32, n35, n42, ev, p_n43, f_n43, p_n4, f_n4, p_n7, f_n7, p_n14, f_n14, p_n19, f_n19, p_n26, f_n26, p_n29, f_n29, p_n32, f_n32, p_n35, f_n35, p_n42, f_n42⟩ := hd.2.2.2.2.2.2.2.2.2.2.2 e; exact ⟨n43, n4, n7, n14, n19, n26, n29, n32, n35, n42, ev, p_n43, blK hb f_n43, p_n4, blK hb f_n4, p_n7, blK hb f_n7, p_n14, blK hb f_n14, p_n19, blK hb f_n19, p_n26, blK hb f_n26, p_n29, blK hb f_n29, p_n32, blK hb f_n32, p_n35, blK hb f_n35, p_n42, blK hb f_n42⟩⟩, g1.trans (hb.mono gz), Nat.le_trans g0 hb.size, blK hb b0⟩
    · have e4 := h.given 4 _ rfl (by kernel_rfl)
      refine wp_val (v := .func (.func 4) #[] #[.pointer (some ⟨w.heap.size, 0, none⟩)]) (w' := W) ?_ ⟨_, rfl, ⟨rfl, fun e => absurd e (by decide), fun e => absurd e (by decide), fun e => absurd e (by decide), fun e => absurd e (by decide), fun e => absurd e (by decide), fun e => absurd e (by decide), fun e => absurd e (by decide), fun e => absurd e (by decide), fun e => absurd e (by decide), fun e => absurd e (by decide), fun e => absurd e (by decide)⟩, fun _ _ h => h, g1, g0, b0⟩
      unfold execOp
      simp [e4, go_sem]
    · obtain ⟨u25, e25, x25⟩ := h.new 12 _ 25 rfl rfl (haf ⟨12, .data⟩ (by simp) rfl)
      have y25 : u25 = (.func (.func 4) #[] #[.pointer (some ⟨w.heap.size, 0, none⟩)]) := x25.1
      subst y25
      refine wp_enter (f := 4) (args := #[.int .i64 4, .string ⟨#[]⟩, .pointer (some ⟨w.heap.size, 0, none⟩)]) (w' := W) ?_ ((clause_made (w.heap.size) 4 ⟨#[]⟩ W b0).mono ?_)
      · unfold execOp
        simp [e25, go_sem]
      · rintro e W' ⟨rfl, hb⟩
        exact ⟨_, rfl, _, rfl, ⟨rfl, fun e => absurd e (by decide), fun e => absurd e (by decide), fun e => absurd e (by decide), fun e => absurd e (by decide), fun e => absurd e (by decide), fun e => absurd e (by decide), fun e => absurd e (by decide), fun e => absurd e (by decide), fun e => absurd e (by decide), fun e => absurd e (by decide), fun e => absurd e (by decide)⟩, fun j u hd => ⟨hd.1, fun e => by obtain ⟨n4, ev, p_n4, f_n4⟩ := hd.2.1 e; exact ⟨n4, ev, p_n4, blK hb f_n4⟩, fun e => by obtain ⟨n7, ev, p_n7, f_n7⟩ := hd.2.2.1 e; exact ⟨n7, ev, p_n7, blK hb f_n7⟩, fun e => by obtain ⟨n14, ev, p_n14, f_n14⟩ := hd.2.2.2.1 e; exact ⟨n14, ev, p_n14, blK hb f_n14⟩, fun e => by obtain ⟨n19, ev, p_n19, f_n19⟩ := hd.2.2.2.2.1 e; exact ⟨n19, ev, p_n19, blK hb f_n19⟩, fun e => by obtain ⟨n26, ev, p_n26, f_n26⟩ := hd.2.2.2.2.2.1 e; exact ⟨n26, ev, p_n26, blK hb f_n26⟩, fun e => by obtain ⟨n29, ev, p_n29, f_n29⟩ := hd.2.2.2.2.2.2.1 e; exact ⟨n29, ev, p_n29, blK hb f_n29⟩, fun e => by obtain ⟨n32, ev, p_n32, f_n32⟩ := hd.2.2.2.2.2.2.2.1 e; exact ⟨n32, ev, p_n32, blK hb f_n32⟩, fun e => by obtain ⟨n35, ev, p_n35, f_n35⟩ := hd.2.2.2.2.2.2.2.2.1 e; exact ⟨n35, ev, p_n35, blK hb f_n35⟩, fun e => by obtain ⟨n42, ev, p_n42, f_n42⟩ := hd.2.2.2.2.2.2.2.2.2.1 e; exact ⟨n42, ev, p_n42, blK hb f_n42⟩, fun e => by obtain ⟨n43, n4, n7, n14, n19, n26, n29, n32, n35, n42, ev, p_n43, f_n43, p_n4, f_n4, p_n7, f_n7, p_n14, f_n14, p_n19, f_n19, p_n26, f_n26, p_n29, f_n29, p_n32, f_n32, p_n35, f_n35, p_n42, f_n42⟩ := hd.2.2.2.2.2.2.2.2.2.2.1 e; exact ⟨n43, n4, n7, n14, n19, n26, n29, n32, n35, n42, ev, p_n43, blK hb f_n43, p_n4, blK hb f_n4, p_n7, blK hb f_n7, p_n14, blK hb f_n14, p_n19, blK hb f_n19, p_n26, blK hb f_n26, p_n29, blK hb f_n29, p_n32, blK hb f_n32, p_n35, blK hb f_n35, p_n42, blK hb f_n42⟩, fun e => by obtain ⟨n43, n4, n7, n14, n19, n26, n29, n32, n35, n42, ev, p_n43, f_n43, p_n4, f_n4, p_n7, f_n7, p_n14, f_n14, p_n19, f_n19, p_n26, f_n26, p_n29, f_n29, p_n32, f_n32, p_n35, f_n35, p_n42, f_n42⟩ := hd.2.2.2.2.2.2.2.2.2.2.2 e; exact ⟨n43, n4, n7, n14, n19, n26, n29, n32, n35, n42, ev, p_n43, blK hb f_n43, p_n4, blK hb f_n4, p_n7, blK hb f_n7, p_n14, blK hb f_n14, p_n19, blK hb f_n19, p_n26, blK hb f_n26, p_n29, blK hb f_n29, p_n32, blK hb f_n32, p_n35, blK hb f_n35, p_n42, blK hb f_n42⟩⟩, g1.trans (hb.mono gz), Nat.le_trans g0 hb.size, blK hb b0⟩
    · obtain ⟨u22, e22, x22⟩ := h.new 9 _ 22 rfl rfl (haf ⟨9, .data⟩ (by simp) rfl)
      have y22 : u22 = (.agg #[.int .i64 1, .string ⟨#[120]⟩, .string ⟨#[]⟩, .bool false, .int .i64 1, .int .i64 2, .int .i64 1, .string ⟨#[]⟩, .string ⟨#[]⟩, .int .i64 0, .int .i64 0, .int .i64 0, .string ⟨#[]⟩, .slice none 0 0, .slice none 0 0]) := x22.1
      subst y22
      obtain ⟨u24, e24, x24⟩ := h.new 11 _ 24 rfl rfl (haf ⟨11, .data⟩ (by simp) rfl)
      have y24 : u24 = (.agg #[.int .i64 1, .string ⟨#[121]⟩, .string ⟨#[]⟩, .bool false, .int .i64 1, .int .i64 2, .int .i64 1, .string ⟨#[]⟩, .string ⟨#[]⟩, .int .i64 0, .int .i64 0, .int .i64 0, .string ⟨#[]⟩, .slice none 0 0, .slice none 0 0]) := x24.1
      subst y24
      obtain ⟨u26, e26, x26⟩ := h.new 13 _ 26 rfl rfl (haf ⟨13, .data⟩ (by simp) rfl)
      have y26 : u26 = (.agg #[.int .i64 4, .string ⟨#[]⟩, .string ⟨#[]⟩, .bool false, .int .i64 1, .int .i64 2, .int .i64 1, .string ⟨#[]⟩, .string ⟨#[]⟩, .int .i64 0, .int .i64 0, .int .i64 0, .string ⟨#[]⟩, .slice none 0 0, .slice none 0 0]) := x26.1
      subst y26
      refine wp_val (v := .slice (some ⟨W.heap.size, 0, none⟩) 3 3) (w' := W.alloc (.cells cll2 31)) ?_ ⟨_, rfl, ⟨trivial, fun e => absurd e (by decide), fun e => absurd e (by decide), fun _ => ⟨W.heap.size, rfl, g0, aNew rfl⟩, fun e => absurd e (by decide), fun e => absurd e (by decide), fun e => absurd e (by decide), fun e => absurd e (by decide), fun e => absurd e (by decide), fun e => absurd e (by decide), fun e => absurd e (by decide), fun e => absurd e (by decide)⟩, fun j u hd => ⟨hd.1, fun e => by obtain ⟨n4, ev, p_n4, f_n4⟩ := hd.2.1 e; exact ⟨n4, ev, p_n4, aOld f_n4⟩, fun e => by obtain ⟨n7, ev, p_n7, f_n7⟩ := hd.2.2.1 e; exact ⟨n7, ev, p_n7, aOld f_n7⟩, fun e => by obtain ⟨n14, ev, p_n14, f_n14⟩ := hd.2.2.2.1 e; exact ⟨n14, ev, p_n14, aOld f_n14⟩, fun e => by obtain ⟨n19, ev, p_n19, f_n19⟩ := hd.2.2.2.2.1 e; exact ⟨n19, ev, p_n19, aOld f_n19⟩, fun e => by obtain ⟨n26, ev, p_n26, f_n26⟩ := hd.2.2.2.2.2.1 e; exact ⟨n26, ev, p_n26, aOld f_n26⟩, fun e => by obtain ⟨n29, ev, p_n29, f_n29⟩ := hd.2.2.2.2.2.2.1 e; exact ⟨n29, ev, p_n29, aOld f_n29⟩, fun e => by obtain ⟨n32, ev, p_n32, f_n32⟩ := hd.2.2.2.2.2.2.2.1 e; exact ⟨n32, ev, p_n32, aOld f_n32⟩, fun e => by obtain ⟨n35, ev, p_n35, f_n35⟩ := hd.2.2.2.2.2.2.2.2.1 e; exact ⟨n35, ev, p_n35, aOld f_n35⟩, fun e => by obtain ⟨n42, ev, p_n42, f_n42⟩ := hd.2.2.2.2.2.2.2.2.2.1 e; exact ⟨n42, ev, p_n42, aOld f_n42⟩, fun e => by obtain ⟨n43, n4, n7, n14, n19, n26, n29, n32, n35, n42, ev, p_n43, f_n43, p_n4, f_n4, p_n7, f_n7, p_n14, f_n14, p_n19, f_n19, p_n26, f_n26, p_n29, f_n29, p_n32, f_n32, p_n35, f_n35, p_n42, f_n42⟩ := hd.2.2.2.2.2.2.2.2.2.2.1 e; exact ⟨n43, n4, n7, n14, n19, n26, n29, n32, n35, n42, ev, p_n43, aOld f_n43, p_n4, aOld f_n4, p_n7, aOld f_n7, p_n14, aOld f_n14, p_n19, aOld f_n19, p_n26, aOld f_n26, p_n29, aOld f_n29, p_n32, aOld f_n32, p_n35, aOld f_n35, p_n42, aOld f_n42⟩, fun e => by obtain ⟨n43, n4, n7, n14, n19, n26, n29, n32, n35, n42, ev, p_n43, f_n43, p_n4, f_n4, p_n7, f_n7, p_n14, f_n14, p_n19, f_n19, p_n26, f_n26, p_n29, f_n29, p_n32, f_n32, p_n35, f_n35, p_n42, f_n42⟩ := hd.2.2.2.2.2.2.2.2.2.2.2 e; exact ⟨n43, n4, n7, n14, n19, n26, n29, n32, n35, n42, ev, p_n43, aOld f_n43, p_n4, aOld f_n4, p_n7, aOld f_n7, p_n14, aOld f_n14, p_n19, aOld f_n19, p_n26, aOld f_n26, p_n29, aOld f_n29, p_n32, aOld f_n32, p_n35, aOld f_n35, p_n42, aOld f_n42⟩⟩, g1.alloc gz _, by simp; omega, aOld b0⟩
      unfold execOp
      simp [e22, e24, e26, go_sem, cll2]
    · have e4 := h.given 4 _ rfl (by kernel_rfl)
      refine wp_val (v := .func (.func 4) #[] #[.pointer (some ⟨w.heap.size, 0, none⟩)]) (w' := W) ?_ ⟨_, rfl, ⟨rfl, fun e => absurd e (by decide), fun e => absurd e (by decide), fun e => absurd e (by decide), fun e => absurd e (by decide), fun e => absurd e (by decide), fun e => absurd e (by decide), fun e => absurd e (by decide), fun e => absurd e (by decide), fun e => absurd e (by decide), fun e => absurd e (by decide), fun e => absurd e (by decide)⟩, fun _ _ h => h, g1, g0, b0⟩
      unfold execOp
      simp [e4, go_sem]
    · obtain ⟨u28, e28, x28⟩ := h.new 15 _ 28 rfl rfl (haf ⟨15, .data⟩ (by simp) rfl)
      have y28 : u28 = (.func (.func 4) #[] #[.pointer (some ⟨w.heap.size, 0, none⟩)]) := x28.1
      subst y28
      refine wp_enter (f := 4) (args := #[.int .i64 4, .string ⟨#[]⟩, .pointer (some ⟨w.heap.size, 0, none⟩)]) (w' := W) ?_ ((clause_made (w.heap.size) 4 ⟨#[]⟩ W b0).mono ?_)
      · unfold execOp
        simp [e28, go_sem]
      · rintro e W' ⟨rfl, hb⟩
        exact ⟨_, rfl, _, rfl, ⟨rfl, fun e => absurd e (by decide), fun e => absurd e (by decide), fun e => absurd e (by decide), fun e => absurd e (by decide), fun e => absurd e (by decide), fun e => absurd e (by decide), fun e => absurd e (by decide), fun e => absurd e (by decide), fun e => absurd e (by decide), fun e => absurd e (by decide), fun e => absurd e (by decide)⟩, fun j u hd => ⟨hd.1, fun e => by obtain ⟨n4, ev, p_n4, f_n4⟩ := hd.2.1 e; exact ⟨n4, ev, p_n4, blK hb f_n4⟩, fun e => by obtain ⟨n7, ev, p_n7, f_n7⟩ := hd.2.2.1 e; exact ⟨n7, ev, p_n7, blK hb f_n7⟩, fun e => by obtain ⟨n14, ev, p_n14, f_n14⟩ := hd.2.2.2.1 e; exact ⟨n14, ev, p_n14, blK hb f_n14⟩, fun e => by obtain ⟨n19, ev, p_n19, f_n19⟩ := hd.2.2.2.2.1 e; exact ⟨n19, ev, p_n19, blK hb f_n19⟩, fun e => by obtain ⟨n26, ev, p_n26, f_n26⟩ := hd.2.2.2.2.2.1 e; exact ⟨n26, ev, p_n26, blK hb f_n26⟩, fun e => by obtain ⟨n29, ev, p_n29, f_n29⟩ := hd.2.2.2.2.2.2.1 e; exact ⟨n29, ev, p_n29, blK hb f_n29⟩, fun e => by obtain ⟨n32, ev, p_n32, f_n32⟩ := hd.2.2.2.2.2.2.2.1 e; exact ⟨n32, ev, p_n32, blK hb f_n32⟩, fun e => by obtain ⟨n35, ev, p_n35, f_n35⟩ := hd.2.2.2.2.2.2.2.2.1 e; exact ⟨n35, ev, p_n35, blK hb f_n35⟩, fun e => by obtain ⟨n42, ev, p_n42, f_n42⟩ := hd.2.2.2.2.2.2.2.2.2.1 e; exact ⟨n42, ev, p_n42, blK hb f_n42⟩, fun e => by obtain ⟨n43, n4, n7, n14, n19, n26, n29, n32, n35, n42, ev, p_n43, f_n43, p_n4, f_n4, p_n7, f_n7, p_n14, f_n14, p_n19, f_n19, p_n26, f_n26, p_n29, f_n29, p_n32, f_n32, p_n35, f_n35, p_n42, f_n42⟩ := hd.2.2.2.2.2.2.2.2.2.2.1 e; exact ⟨n43, n4, n7, n14, n19, n26, n29, n32, n35, n42, ev, p_n43, blK hb f_n43, p_n4, blK hb f_n4, p_n7, blK hb f_n7, p_n14, blK hb f_n14, p_n19, blK hb f_n19, p_n26, blK hb f_n26, p_n29, blK hb f_n29, p_n32, blK hb f_n32, p_n35, blK hb f_n35, p_n42, blK hb f_n42⟩, fun e => by obtain ⟨n43, n4, n7, n14, n19, n26, n29, n32, n35, n42, ev, p_n43, f_n43, p_n4, f_n4, p_n7, f_n7, p_n14, f_n14, p_n19, f_n19, p_n26, f_n26, p_n29, f_n29, p_n32, f_n32, p_n35, f_n35, p_n42, f_n42⟩ := hd.2.2.2.2.2.2.2.2.2.2.2 e; exact ⟨n43, n4, n7, n14, n19, n26, n29, n32, n35, n42, ev, p_n43, blK hb f_n43, p_n4, blK hb f_n4, p_n7, blK hb f_n7, p_n14, blK hb f_n14, p_n19, blK hb f_n19, p_n26, blK hb f_n26, p_n29, blK hb f_n29, p_n32, blK hb f_n32, p_n35, blK hb f_n35, p_n42, blK hb f_n42⟩⟩, g1.trans (hb.mono gz), Nat.le_trans g0 hb.size, blK hb b0⟩
    · have e4 := h.given 4 _ rfl (by kernel_rfl)
      refine wp_val (v := .func (.func 4) #[] #[.pointer (some ⟨w.heap.size, 0, none⟩)]) (w' := W) ?_ ⟨_, rfl, ⟨rfl, fun e => absurd e (by decide), fun e => absurd e (by decide), fun e => absurd e (by decide), fun e => absurd e (by decide), fun e => absurd e (by decide), fun e => absurd e (by decide), fun e => absurd e (by decide), fun e => absurd e (by decide), fun e => absurd e (by decide), fun e => absurd e (by decide), fun e => absurd e (by decide)⟩, fun _ _ h => h, g1, g0, b0⟩
      unfold execOp
      simp [e4, go_sem]
    · obtain ⟨u30, e30, x30⟩ := h.new 17 _ 30 rfl rfl (haf ⟨17, .data⟩ (by simp) rfl)
      have y30 : u30 = (.func (.func 4) #[] #[.pointer (some ⟨w.heap.size, 0, none⟩)]) := x30.1
      subst y30
      refine wp_enter (f := 4) (args := #[.int .i64 1, .string ⟨#[120]⟩, .pointer (some ⟨w.heap.size, 0, none⟩)]) (w' := W) ?_ ((clause_made (w.heap.size) 1 ⟨#[120]⟩ W b0).mono ?_)
      · unfold execOp
        simp [e30, go_sem]
      · rintro e W' ⟨rfl, hb⟩
        exact ⟨_, rfl, _, rfl, ⟨rfl, fun e => absurd e (by decide), fun e => absurd e (by decide), fun e => absurd e (by decide), fun e => absurd e (by decide), fun e => absurd e (by decide), fun e => absurd e (by decide), fun e => absurd e (by decide), fun e => absurd e (by decide), fun e => absurd e (by decide), fun e => absurd e (by decide), fun e => absurd e (by decide)⟩, fun j u hd => ⟨hd.1, fun e => by obtain ⟨n4, ev, p_n4, f_n4⟩ := hd.2.1 e; exact ⟨n4, ev, p_n4, blK hb f_n4⟩, fun e => by obtain ⟨n7, ev, p_n7, f_n7⟩ := hd.2.2.1 e; exact ⟨n7, ev, p_n7, blK hb f_n7⟩, fun e => by obtain ⟨n14, ev, p_n14, f_n14⟩ := hd.2.2.2.1 e; exact ⟨n14, ev, p_n14, blK hb f_n14⟩, fun e => by obtain ⟨n19, ev, p_n19, f_n19⟩ := hd.2.2.2.2.1 e; exact ⟨n19, ev, p_n19, blK hb f_n19⟩, fun e => by obtain ⟨n26, ev, p_n26, f_n26⟩ := hd.2.2.2.2.2.1 e; exact ⟨n26, ev, p_n26, blK hb f_n26⟩, fun e => by obtain ⟨n29, ev, p_n29, f_n29⟩ := hd.2.2.2.2.2.2.1 e; exact ⟨n29, ev, p_n29, blK hb f_n29⟩, fun e => by obtain ⟨n32, ev, p_n32, f_n32⟩ := hd.2.2.2.2.2.2.2.1 e; exact ⟨n32, ev, p_n32, blK hb f_n32⟩, fun e => by obtain ⟨n35, ev, p_n35, f_n35⟩ := hd.2.2.2.2.2.2.2.2.1 e; exact ⟨n35, ev, p_n35, blK hb f_n35⟩, fun e => by obtain ⟨n42, ev, p_n42, f_n42⟩ := hd.2.2.2.2.2.2.2.2.2.1 e; exact ⟨n42, ev, p_n42, blK hb f_n42⟩, fun e => by obtain ⟨n43, n4, n7, n14, n19, n26, n29, n32, n35, n42, ev, p_n43, f_n43, p_n4, f_n4, p_n7, f_n7, p_n14, f_n14, p_n19, f_n19, p_n26, f_n26, p_n29, f_n29, p_n32, f_n32, p_n35, f_n35, p_n42, f_n42⟩ := hd.2.2.2.2.2.2.2.2.2.2.1 e; exact ⟨n43, n4, n7, n14, n19, n26, n29, n32, n35, n42, ev, p_n43, blK hb f_n43, p_n4, blK hb f_n4, p_n7, blK hb f_n7, p_n14, blK hb f_n14, p_n19, blK hb f_n19, p_n26, blK hb f_n26, p_n29, blK hb f_n29, p_n32, blK hb f_n32, p_n35, blK hb f_n35, p_n42, blK hb f_n42⟩, fun e => by obtain ⟨n43, n4, n7, n14, n19, n26, n29, n32, n35, n42, ev, p_n43, f_n43, p_n4, f_n4, p_n7, f_n7, p_n14, f_n14, p_n19, f_n19, p_n26, f_n26, p_n29, f_n29, p_n32, f_n32, p_n35, f_n35, p_n42, f_n42⟩ := hd.2.2.2.2.2.2.2.2.2.2.2 e; exact ⟨n43, n4, n7, n14, n19, n26, n29, n32, n35, n42, ev, p_n43, blK hb f_n43, p_n4, blK hb f_n4, p_n7, blK hb f_n7, p_n14, blK hb f_n14, p_n19, blK hb f_n19, p_n26, blK hb f_n26, p_n29, blK hb f_n29, p_n32, blK hb f_n32, p_n35, blK hb f_n35, p_n42, blK hb f_n42⟩⟩, g1.trans (hb.mono gz), Nat.le_trans g0 hb.size, blK hb b0⟩
    · obtain ⟨u29, e29, x29⟩ := h.new 16 _ 29 rfl rfl (haf ⟨16, .data⟩ (by simp) rfl)
      have y29 : u29 = (.agg #[.int .i64 4, .string ⟨#[]⟩, .string ⟨#[]⟩, .bool false, .int .i64 1, .int .i64 2, .int .i64 1, .string ⟨#[]⟩, .string ⟨#[]⟩, .int .i64 0, .int .i64 0, .int .i64 0, .string ⟨#[]⟩, .slice none 0 0, .slice none 0 0]) := x29.1
      subst y29
      obtain ⟨u31, e31, x31⟩ := h.new 18 _ 31 rfl rfl (haf ⟨18, .data⟩ (by simp) rfl)
      have y31 : u31 = (.agg #[.int .i64 1, .string ⟨#[120]⟩, .string ⟨#[]⟩, .bool false, .int .i64 1, .int .i64 2, .int .i64 1, .string ⟨#[]⟩, .string ⟨#[]⟩, .int .i64 0, .int .i64 0, .int .i64 0, .string ⟨#[]⟩, .slice none 0 0, .slice none 0 0]) := x31.1
      subst y31
      refine wp_val (v := .slice (some ⟨W.heap.size, 0, none⟩) 2 2) (w' := W.alloc (.cells cll3 31)) ?_ ⟨_, rfl, ⟨trivial, fun e => absurd e (by decide), fun e => absurd e (by decide), fun e => absurd e (by decide), fun _ => ⟨W.heap.size, rfl, g0, aNew rfl⟩, fun e => absurd e (by decide), fun e => absurd e (by decide), fun e => absurd e (by decide), fun e => absurd e (by decide), fun e => absurd e (by decide), fun e => absurd e (by decide), fun e => absurd e (by decide)⟩, fun j u hd => ⟨hd.1, fun e => by obtain ⟨n4, ev, p_n4, f_n4⟩ := hd.2.1 e; exact ⟨n4, ev, p_n4, aOld f_n4⟩, fun e => by obtain ⟨n7, ev, p_n7, f_n7⟩ := hd.2.2.1 e; exact ⟨n7, ev, p_n7, aOld f_n7⟩, fun e => by obtain ⟨n14, ev, p_n14, f_n14⟩ := hd.2.2.2.1 e; exact ⟨n14, ev, p_n14, aOld f_n14⟩, fun e => by obtain ⟨n19, ev, p_n19, f_n19⟩ := hd.2.2.2.2.1 e; exact ⟨n19, ev, p_n19, aOld f_n19⟩, fun e => by obtain ⟨n26, ev, p_n26, f_n26⟩ := hd.2.2.2.2.2.1 e; exact ⟨n26, ev, p_n26, aOld f_n26⟩, fun e => by obtain ⟨n29, ev, p_n29, f_n29⟩ := hd.2.2.2.2.2.2.1 e; exact ⟨n29, ev, p_n29, aOld f_n29⟩, fun e => by obtain ⟨n32, ev, p_n32, f_n32⟩ := hd.2.2.2.2.2.2.2.1 e; exact ⟨n32, ev, p_n32, aOld f_n32⟩, fun e => by obtain ⟨n35, ev, p_n35, f_n35⟩ := hd.2.2.2.2.2.2.2.2.1 e; exact ⟨n35, ev, p_n35, aOld f_n35⟩, fun e => by obtain ⟨n42, ev, p_n42, f_n42⟩ := hd.2.2.2.2.2.2.2.2.2.1 e; exact ⟨n42, ev, p_n42, aOld f_n42⟩, fun e => by obtain ⟨n43, n4, n7, n14, n19, n26, n29, n32, n35, n42, ev, p_n43, f_n43, p_n4, f_n4, p_n7, f_n7, p_n14, f_n14, p_n19, f_n19, p_n26, f_n26, p_n29, f_n29, p_n32, f_n32, p_n35, f_n35, p_n42, f_n42⟩ := hd.2.2.2.2.2.2.2.2.2.2.1 e; exact ⟨n43, n4, n7, n14, n19, n26, n29, n32, n35, n42, ev, p_n43, aOld f_n43, p_n4, aOld f_n4, p_n7, aOld f_n7, p_n14, aOld f_n14, p_n19, aOld f_n19, p_n26, aOld f_n26, p_n29, aOld f_n29, p_n32, aOld f_n32, p_n35, aOld f_n35, p_n42, aOld f_n42⟩, fun e => by obtain ⟨n43, n4, n7, n14, n19, n26, n29, n32, n35, n42, ev, p_n43, f_n43, p_n4, f_n4, p_n7, f_n7, p_n14, f_n14, p_n19, f_n19, p_n26, f_n26, p_n29, f_n29, p_n32, f_n32, p_n35, f_n35, p_n42, f_n42⟩ := hd.2.2.2.2.2.2.2.2.2.2.2 e; exact ⟨n43, n4, n7, n14, n19, n26, n29, n32, n35, n42, ev, p_n43, aOld f_n43, p_n4, aOld f_n4, p_n7, aOld f_n7, p_n14, aOld f_n14, p_n19, aOld f_n19, p_n26, aOld f_n26, p_n29, aOld f_n29, p_n32, aOld f_n32, p_n35, aOld f_n35, p_n42, aOld f_n42⟩⟩, g1.alloc gz _, by simp; omega, aOld b0⟩
      unfold execOp
      simp [e29, e31, go_sem, cll3]
    · have e4 := h.given 4 _ rfl (by kernel_rfl)
      refine wp_val (v := .func (.func 4) #[] #[.pointer (some ⟨w.heap.size, 0, none⟩)]) (w' := W) ?_ ⟨_, rfl, ⟨rfl, fun e => absurd e (by decide), fun e => absurd e (by decide), fun e => absurd e (by decide), fun e => absurd e (by decide), fun e => absurd e (by decide), fun e => absurd e (by decide), fun e => absurd e (by decide), fun e => absurd e (by decide), fun e => absurd e (by decide), fun e => absurd e (by decide), fun e => absurd e (by decide)⟩, fun _ _ h => h, g1, g0, b0⟩
      unfold execOp
      simp [e4, go_sem]
    · obtain ⟨u33, e33, x33⟩ := h.new 20 _ 33 rfl rfl (haf ⟨20, .data⟩ (by simp) rfl)
      have y33 : u33 = (.func (.func 4) #[] #[.pointer (some ⟨w.heap.size, 0, none⟩)]) := x33.1
      subst y33
      refine wp_enter (f := 4) (args := #[.int .i64 1, .string ⟨#[120]⟩, .pointer (some ⟨w.heap.size, 0, none⟩)]) (w' := W) ?_ ((clause_made (w.heap.size) 1 ⟨#[120]⟩ W b0).mono ?_)
      · unfold execOp
        simp [e33, go_sem]
      · rintro e W' ⟨rfl, hb⟩
        exact ⟨_, rfl, _, rfl, ⟨rfl, fun e => absurd e (by decide), fun e => absurd e (by decide), fun e => absurd e (by decide), fun e => absurd e (by decide), fun e => absurd e (by decide), fun e => absurd e (by decide), fun e => absurd e (by decide), fun e => absurd e (by decide), fun e => absurd e (by decide), fun e => absurd e (by decide), fun e => absurd e (by decide)⟩, fun j u hd => ⟨hd.1, fun e => by obtain ⟨n4, ev, p_n4, f_n4⟩ := hd.2.1 e; exact ⟨n4, ev, p_n4, blK hb f_n4⟩, fun e => by obtain ⟨n7, ev, p_n7, f_n7⟩ := hd.2.2.1 e; exact ⟨n7, ev, p_n7, blK hb f_n7⟩, fun e => by obtain ⟨n14, ev, p_n14, f_n14⟩ := hd.2.2.2.1 e; exact ⟨n14, ev, p_n14, blK hb f_n14⟩, fun e => by obtain ⟨n19, ev, p_n19, f_n19⟩ := hd.2.2.2.2.1 e; exact ⟨n19, ev, p_n19, blK hb f_n19⟩, fun e => by obtain ⟨n26, ev, p_n26, f_n26⟩ := hd.2.2.2.2.2.1 e; exact ⟨n26, ev, p_n26, blK hb f_n26⟩, fun e => by obtain ⟨n29, ev, p_n29, f_n29⟩ := hd.2.2.2.2.2.2.1 e; exact ⟨n29, ev, p_n29, blK hb f_n29⟩, fun e => by obtain ⟨n32, ev, p_n32, f_n32⟩ := hd.2.2.2.2.2.2.2.1 e; exact ⟨n32, ev, p_n32, blK hb f_n32⟩, fun e => by obtain ⟨n35, ev, p_n35, f_n35⟩ := hd.2.2.2.2.2.2.2.2.1 e; exact ⟨n35, ev, p_n35, blK hb f_n35⟩, fun e => by obtain ⟨n42, ev, p_n42, f_n42⟩ := hd.2.2.2.2.2.2.2.2.2.1 e; exact ⟨n42, ev, p_n42, blK hb f_n42⟩, fun e => by obtain ⟨n43, n4, n7, n14, n19, n26, n29, n32, n35, n42, ev, p_n43, f_n43, p_n4, f_n4, p_n7, f_n7, p_n14, f_n14, p_n19, f_n19, p_n26, f_n26, p_n29, f_n29, p_n32, f_n32, p_n35, f_n35, p_n42, f_n42⟩ := hd.2.2.2.2.2.2.2.2.2.2.1 e; exact ⟨n43, n4, n7, n14, n19, n26, n29, n32, n35, n42, ev, p_n43, blK hb f_n43, p_n4, blK hb f_n4, p_n7, blK hb f_n7, p_n14, blK hb f_n14, p_n19, blK hb f_n19, p_n26, blK hb f_n26, p_n29, blK hb f_n29, p_n32, blK hb f_n32, p_n35, blK hb f_n35, p_n42, blK hb f_n42⟩, fun e => by obtain ⟨n43, n4, n7, n14, n19, n26, n29, n32, n35, n42, ev, p_n43, f_n43, p_n4, f_n4, p_n7, f_n7, p_n14, f_n14, p_n19, f_n19, p_n26, f_n26, p_n29, f_n29, p_n32, f_n32, p_n35, f_n35, p_n42, f_n42⟩ := hd.2.2.2.2.2.2.2.2.2.2.2 e; exact ⟨n43, n4, n7, n14, n19, n26, n29, n32, n35, n42, ev, p_n43, blK hb f_n43, p_n4, blK hb f_n4, p_n7, blK hb f_n7, p_n14, blK hb f_n14, p_n19, blK hb f_n19, p_n26, blK hb f_n26, p_n29, blK hb f_n29, p_n32, blK hb f_n32, p_n35, blK hb f_n35, p_n42, blK hb f_n42⟩⟩, g1.trans (hb.mono gz), Nat.le_trans g0 hb.size, blK hb b0⟩
    · have e4 := h.given 4 _ rfl (by kernel_rfl)
      refine wp_val (v := .func (.func 4) #[] #[.pointer (some ⟨w.heap.size, 0, none⟩)]) (w' := W) ?_ ⟨_, rfl, ⟨rfl, fun e => absurd e (by decide), fun e => absurd e (by decide), fun e => absurd e (by decide), fun e => absurd e (by decide), fun e => absurd e (by decide), fun e => absurd e (by decide), fun e => absurd e (by decide), fun e => absurd e (by decide), fun e => absurd e (by decide), fun e => absurd e (by decide), fun e => absurd e (by decide)⟩, fun _ _ h => h, g1, g0, b0⟩
      unfold execOp
      simp [e4, go_sem]
    · obtain ⟨u35, e35, x35⟩ := h.new 22 _ 35 rfl rfl (haf ⟨22, .data⟩ (by simp) rfl)
      have y35 : u35 = (.func (.func 4) #[] #[.pointer (some ⟨w.heap.size, 0, none⟩)]) := x35.1
      subst y35
      refine wp_enter (f := 4) (args := #[.int .i64 4, .string ⟨#[]⟩, .pointer (some ⟨w.heap.size, 0, none⟩)]) (w' := W) ?_ ((clause_made (w.heap.size) 4 ⟨#[]⟩ W b0).mono ?_)
      · unfold execOp
        simp [e35, go_sem]
      · rintro e W' ⟨rfl, hb⟩
        exact ⟨_, rfl, _, rfl, ⟨rfl, fun e => absurd e (by decide), fun e => absurd e (by decide), fun e => absurd e (by decide), fun e => absurd e (by decide), fun e => absurd e (by decide), fun e => absurd e (by decide), fun e => absurd e (by decide), fun e => absurd e (by decide), fun e => absurd e (by decide), fun e => absurd e (by decide), fun e => absurd e (by decide)⟩, fun j u hd => ⟨hd.1, fun e => by obtain ⟨n4, ev, p_n4, f_n4⟩ := hd.2.1 e; exact ⟨n4, ev, p_n4, blK hb f_n4⟩, fun e => by obtain ⟨n7, ev, p_n7, f_n7⟩ := hd.2.2.1 e; exact ⟨n7, ev, p_n7, blK hb f_n7⟩, fun e => by obtain ⟨n14, ev, p_n14, f_n14⟩ := hd.2.2.2.1 e; exact ⟨n14, ev, p_n14, blK hb f_n14⟩, fun e => by obtain ⟨n19, ev, p_n19, f_n19⟩ := hd.2.2.2.2.1 e; exact ⟨n19, ev, p_n19, blK hb f_n19⟩, fun e => by obtain ⟨n26, ev, p_n26, f_n26⟩ := hd.2.2.2.2.2.1 e; exact ⟨n26, ev, p_n26, blK hb f_n26⟩, fun e => by obtain ⟨n29, ev, p_n29, f_n29⟩ := hd.2.2.2.2.2.2.1 e; exact ⟨n29, ev, p_n29, blK hb f_n29⟩, fun e => by obtain ⟨n32, ev, p_n32, f_n32⟩ := hd.2.2.2.2.2.2.2.1 e; exact ⟨n32, ev, p_n32, blK hb f_n32⟩, fun e => by obtain ⟨n35, ev, p_n35, f_n35⟩ := hd.2.2.2.2.2.2.2.2.1 e; exact ⟨n35, ev, p_n35, blK hb f_n35⟩, fun e => by obtain ⟨n42, ev, p_n42, f_n42⟩ := hd.2.2.2.2.2.2.2.2.2.1 e; exact ⟨n42, ev, p_n42, blK hb f_n42⟩, fun e => by obtain ⟨n43, n4, n7, n14, n19, n26, n29, n32, n35, n42, ev, p_n43, f_n43, p_n4, f_n4, p_n7, f_n7, p_n14, f_n14, p_n19, f_n19, p_n26, f_n26, p_n29, f_n29, p_n32, f_n32, p_n35, f_n35, p_n42, f_n42⟩ := hd.2.2.2.2.2.2.2.2.2.2.1 e; exact ⟨n43, n4, n7, n14, n19, n26, n29, n32, n35, n42, ev, p_n43, blK hb f_n43, p_n4, blK hb f_n4, p_n7, blK hb f_n7, p_n14, blK hb f_n14, p_n19, blK hb f_n19, p_n26, blK hb f_n26, p_n29, blK hb f_n29, p_n32, blK hb f_n32, p_n35, blK hb f_n35, p_n42, blK hb f_n42⟩, fun e => by obtain ⟨n43, n4, n7, n14, n19, n26, n29, n32, n35, n42, ev, p_n43, f_n43, p_n4, f_n4, p_n7, f_n7, p_n14, f_n14, p_n19, f_n19, p_n26, f_n26, p_n29, f_n29, p_n32, f_n32, p_n35, f_n35, p_n42, f_n42⟩ := hd.2.2.2.2.2.2.2.2.2.2.2 e; exact ⟨n43, n4, n7, n14, n19, n26, n29, n32, n35, n42, ev, p_n43, blK hb f_n43, p_n4, blK hb f_n4, p_n7, blK hb f_n7, p_n14, blK hb f_n14, p_n19, blK hb f_n19, p_n26, blK hb f_n26, p_n29, blK hb f_n29, p_n32, blK hb f_n32, p_n35, blK hb f_n35, p_n42, blK hb f_n42⟩⟩, g1.trans (hb.mono gz), Nat.le_trans g0 hb.size, blK hb b0⟩
    · have e4 := h.given 4 _ rfl (by kernel_rfl)
      refine wp_val (v := .func (.func 4) #[] #[.pointer (some ⟨w.heap.size, 0, none⟩)]) (w' := W) ?_ ⟨_, rfl, ⟨rfl, fun e => absurd e (by decide), fun e => absurd e (by decide), fun e => absurd e (by decide), fun e => absurd e (by decide), fun e => absurd e (by decide), fun e => absurd e (by decide), fun e => absurd e (by decide), fun e => absurd e (by decide), fun e => absurd e (by decide), fun e => absurd e (by decide), fun e => absurd e (by decide)⟩, fun _ _ h => h, g1, g0, b0⟩
      unfold execOp
      simp [e4, go_sem]
    · obtain ⟨u37, e37, x37⟩ := h.new 24 _ 37 rfl rfl (haf ⟨24, .data⟩ (by simp) rfl)
      have y37 : u37 = (.func (.func 4) #[] #[.pointer (some ⟨w.heap.size, 0, none⟩)]) := x37.1
      subst y37
      refine wp_enter (f := 4) (args := #[.int .i64 3, .string ⟨#[]⟩, .pointer (some ⟨w.heap.size, 0, none⟩)]) (w' := W) ?_ ((clause_made (w.heap.size) 3 ⟨#[]⟩ W b0).mono ?_)
      · unfold execOp
        simp [e37, go_sem]
      · rintro e W' ⟨rfl, hb⟩
        exact ⟨_, rfl, _, rfl, ⟨rfl, fun e => absurd e (by decide), fun e => absurd e (by decide), fun e => absurd e (by decide), fun e => absurd e (by decide), fun e => absurd e (by decide), fun e => absurd e (by decide), fun e => absurd e (by decide), fun e => absurd e (by decide), fun e => absurd e (by decide), fun e => absurd e (by decide), fun e => absurd e (by decide)⟩, fun j u hd => ⟨hd.1, fun e => by obtain ⟨n4, ev, p_n4, f_n4⟩ := hd.2.1 e; exact ⟨n4, ev, p_n4, blK hb f_n4⟩, fun e => by obtain ⟨n7, ev, p_n7, f_n7⟩ := hd.2.2.1 e; exact ⟨n7, ev, p_n7, blK hb f_n7⟩, fun e => by obtain ⟨n14, ev, p_n14, f_n14⟩ := hd.2.2.2.1 e; exact ⟨n14, ev, p_n14, blK hb f_n14⟩, fun e => by obtain ⟨n19, ev, p_n19, f_n19⟩ := hd.2.2.2.2.1 e; exact ⟨n19, ev, p_n19, blK hb f_n19⟩, fun e => by obtain ⟨n26, ev, p_n26, f_n26⟩ := hd.2.2.2.2.2.1 e; exact ⟨n26, ev, p_n26, blK hb f_n26⟩, fun e => by obtain ⟨n29, ev, p_n29, f_n29⟩ := hd.2.2.2.2.2.2.1 e; exact ⟨n29, ev, p_n29, blK hb f_n29⟩, fun e => by obtain ⟨n32, ev, p_n32, f_n32⟩ := hd.2.2.2.2.2.2.2.1 e; exact ⟨n32, ev, p_n32, blK hb f_n32⟩, fun e => by obtain ⟨n35, ev, p_n35, f_n35⟩ := hd.2.2.2.2.2.2.2.2.1 e; exact ⟨n35, ev, p_n35, blK hb f_n35⟩, fun e => by obtain ⟨n42, ev, p_n42, f_n42⟩ := hd.2.2.2.2.2.2.2.2.2.1 e; exact ⟨n42, ev, p_n42, blK hb f_n42⟩, fun e => by obtain ⟨n43, n4, n7, n14, n19, n26, n29, n32, n35, n42, ev, p_n43, f_n43, p_n4, f_n4, p_n7, f_n7, p_n14, f_n14, p_n19, f_n19, p_n26, f_n26, p_n29, f_n29, p_n32, f_n32, p_n35, f_n35, p_n42, f_n42⟩ := hd.2.2.2.2.2.2.2.2.2.2.1 e; exact ⟨n43, n4, n7, n14, n19, n26, n29, n32, n35, n42, ev, p_n43, blK hb f_n43, p_n4, blK hb f_n4, p_n7, blK hb f_n7, p_n14, blK hb f_n14, p_n19, blK hb f_n19, p_n26, blK hb f_n26, p_n29, blK hb f_n29, p_n32, blK hb f_n32, p_n35, blK hb f_n35, p_n42, blK hb f_n42⟩, fun e => by obtain ⟨n43, n4, n7, n14, n19, n26, n29, n32, n35, n42, ev, p_n43, f_n43, p_n4, f_n4, p_n7, f_n7, p_n14, f_n14, p_n19, f_n19, p_n26, f_n26, p_n29, f_n29, p_n32, f_n32, p_n35, f_n35, p_n42, f_n42⟩ := hd.2.2.2.2.2.2.2.2.2.2.2 e; exact ⟨n43, n4, n7, n14, n19, n26, n29, n32, n35, n42, ev, p_n43, blK hb f_n43, p_n4, blK hb f_n4, p_n7, blK hb f_n7, p_n14, blK hb f_n14, p_n19, blK hb f_n19, p_n26, blK hb f_n26, p_n29, blK hb f_n29, p_n32, blK hb f_n32, p_n35, blK hb f_n35, p_n42, blK hb f_n42⟩⟩, g1.trans (hb.mono gz), Nat.le_trans g0 hb.size, blK hb b0⟩
    · obtain ⟨u34, e34, x34⟩ := h.new 21 _ 34 rfl rfl (haf ⟨21, .data⟩ (by simp) rfl)
      have y34 : u34 = (.agg #[.int .i64 1, .string ⟨#[120]⟩, .string ⟨#[]⟩, .bool false, .int .i64 1, .int .i64 2, .int .i64 1, .string ⟨#[]⟩, .string ⟨#[]⟩, .int .i64 0, .int .i64 0, .int .i64 0, .string ⟨#[]⟩, .slice none 0 0, .slice none 0 0]) := x34.1
      subst y34
      obtain ⟨u36, e36, x36⟩ := h.new 23 _ 36 rfl rfl (haf ⟨23, .data⟩ (by simp) rfl)
      have y36 : u36 = (.agg #[.int .i64 4, .string ⟨#[]⟩, .string ⟨#[]⟩, .bool false, .int .i64 1, .int .i64 2, .int .i64 1, .string ⟨#[]⟩, .string ⟨#[]⟩, .int .i64 0, .int .i64 0, .int .i64 0, .string ⟨#[]⟩, .slice none 0 0, .slice none 0 0]) := x36.1
      subst y36
      obtain ⟨u38, e38, x38⟩ := h.new 25 _ 38 rfl rfl (haf ⟨25, .data⟩ (by simp) rfl)
      have y38 : u38 = (.agg #[.int .i64 3, .string ⟨#[]⟩, .string ⟨#[]⟩, .bool false, .int .i64 1, .int .i64 2, .int .i64 1, .string ⟨#[]⟩, .string ⟨#[]⟩, .int .i64 0, .int .i64 0, .int .i64 0, .string ⟨#[]⟩, .slice none 0 0, .slice none 0 0]) := x38.1
      subst y38
      refine wp_val (v := .slice (some ⟨W.heap.size, 0, none⟩) 3 3) (w' := W.alloc (.cells cll4 31)) ?_ ⟨_, rfl, ⟨trivial, fun e => absurd e (by decide), fun e => absurd e (by decide), fun e => absurd e (by decide), fun e => absurd e (by decide), fun _ => ⟨W.heap.size, rfl, g0, aNew rfl⟩, fun e => absurd e (by decide), fun e => absurd e (by decide), fun e => absurd e (by decide), fun e => absurd e (by decide), fun e => absurd e (by decide), fun e => absurd e (by decide)⟩, fun j u hd => ⟨hd.1, fun e => by obtain ⟨n4, ev, p_n4, f_n4⟩ := hd.2.1 e; exact ⟨n4, ev, p_n4, aOld f_n4⟩, fun e => by obtain ⟨n7, ev, p_n7, f_n7⟩ := hd.2.2.1 e; exact ⟨n7, ev, p_n7, aOld f_n7⟩, fun e => by obtain ⟨n14, ev, p_n14, f_n14⟩ := hd.2.2.2.1 e; exact ⟨n14, ev, p_n14, aOld f_n14⟩, fun e => by obtain ⟨n19, ev, p_n19, f_n19⟩ := hd.2.2.2.2.1 e; exact ⟨n19, ev, p_n19, aOld f_n19⟩, fun e => by obtain ⟨n26, ev, p_n26, f_n26⟩ := hd.2.2.2.2.2.1 e; exact ⟨n26, ev, p_n26, aOld f_n26⟩, fun e => by obtain ⟨n29, ev, p_n29, f_n29⟩ := hd.2.2.2.2.2.2.1 e; exact ⟨n29, ev, p_n29, aOld f_n29⟩, fun e => by obtain ⟨n32, ev, p_n32, f_n32⟩ := hd.2.2.2.2.2.2.2.1 e; exact ⟨n32, ev, p_n32, aOld f_n32⟩, fun e => by obtain ⟨n35, ev, p_n35, f_n35⟩ := hd.2.2.2.2.2.2.2.2.1 e; exact ⟨n35, ev, p_n35, aOld f_n35⟩, fun e => by obtain ⟨n42, ev, p_n42, f_n42⟩ := hd.2.2.2.2.2.2.2.2.2.1 e; exact ⟨n42, ev, p_n42, aOld f_n42⟩, fun e => by obtain ⟨n43, n4, n7, n14, n19, n26, n29, n32, n35, n42, ev, p_n43, f_n43, p_n4, f_n4, p_n7, f_n7, p_n14, f_n14, p_n19, f_n19, p_n26, f_n26, p_n29, f_n29, p_n32, f_n32, p_n35, f_n35, p_n42, f_n42⟩ := hd.2.2.2.2.2.2.2.2.2.2.1 e; exact ⟨n43, n4, n7, n14, n19, n26, n29, n32, n35, n42, ev, p_n43, aOld f_n43, p_n4, aOld f_n4, p_n7, aOld f_n7, p_n14, aOld f_n14, p_n19, aOld f_n19, p_n26, aOld f_n26, p_n29, aOld f_n29, p_n32, aOld f_n32, p_n35, aOld f_n35, p_n42, aOld f_n42⟩, fun e => by obtain ⟨n43, n4, n7, n14, n19, n26, n29, n32, n35, n42, ev, p_n43, f_n43, p_n4, f_n4, p_n7, f_n7, p_n14, f_n14, p_n19, f_n19, p_n26, f_n26, p_n29, f_n29, p_n32, f_n32, p_n35, f_n35, p_n42, f_n42⟩ := hd.2.2.2.2.2.2.2.2.2.2.2 e; exact ⟨n43, n4, n7, n14, n19, n26, n29, n32, n35, n42, ev, p_n43, aOld f_n43, p_n4, aOld f_n4, p_n7, aOld f_n7, p_n14, aOld f_n14, p_n19, aOld f_n19, p_n26, aOld f_n26, p_n29, aOld f_n29, p_n32, aOld f_n32, p_n35, aOld f_n35, p_n42, aOld f_n42⟩⟩, g1.alloc gz _, by simp; omega, aOld b0⟩
      unfold execOp
      simp [e34, e36, e38, go_sem, cll4]
    · have e4 := h.given 4 _ rfl (by kernel_rfl)
      refine wp_val (v := .func (.func 4) #[] #[.pointer (some ⟨w.heap.size, 0, none⟩)]) (w' := W) ?_ ⟨_, rfl, ⟨rfl, fun e => absurd e (by decide), fun e => absurd e (by decide), fun e => absurd e (by decide), fun e => absurd e (by decide), fun e => absurd e (by decide), fun e => absurd e (by decide), fun e => absurd e (by decide), fun e => absurd e (by decide), fun e => absurd e (by decide), fun e => absurd e (by decide), fun e => absurd e (by decide)⟩, fun _ _ h => h, g1, g0, b0⟩
      unfold execOp
      simp [e4, go_sem]
    · obtain ⟨u40, e40, x40⟩ := h.new 27 _ 40 rfl rfl (haf ⟨27, .data⟩ (by simp) rfl)
      have y40 : u40 = (.func (.func 4) #[] #[.pointer (some ⟨w.heap.size, 0, none⟩)]) := x40.1
      subst y40
      refine wp_enter (f := 4) (args := #[.int .i64 5, .string ⟨#[120]⟩, .pointer (some ⟨w.heap.size, 0, none⟩)]) (w' := W) ?_ ((clause_made (w.heap.size) 5 ⟨#[120]⟩ W b0).mono ?_)
      · unfold execOp
        simp [e40, go_sem]
      · rintro e W' ⟨rfl, hb⟩
        exact ⟨_, rfl, _, rfl, ⟨rfl, fun e => absurd e (by decide), fun e => absurd e (by decide), fun e => absurd e (by decide), fun e => absurd e (by decide), fun e => absurd e (by decide), fun e => absurd e (by decide), fun e => absurd e (by decide), fun e => absurd e (by decide), fun e => absurd e (by decide), fun e => absurd e (by decide), fun e => absurd e (by decide)⟩, fun j u hd => ⟨hd.1, fun e => by obtain ⟨n4, ev, p_n4, f_n4⟩ := hd.2.1 e; exact ⟨n4, ev, p_n4, blK hb f_n4⟩, fun e => by obtain ⟨n7, ev, p_n7, f_n7⟩ := hd.2.2.1 e; exact ⟨n7, ev, p_n7, blK hb f_n7⟩, fun e => by obtain ⟨n14, ev, p_n14, f_n14⟩ := hd.2.2.2.1 e; exact ⟨n14, ev, p_n14, blK hb f_n14⟩, fun e => by obtain ⟨n19, ev, p_n19, f_n19⟩ := hd.2.2.2.2.1 e; exact ⟨n19, ev, p_n19, blK hb f_n19⟩, fun e => by obtain ⟨n26, ev, p_n26, f_n26⟩ := hd.2.2.2.2.2.1 e; exact ⟨n26, ev, p_n26, blK hb f_n26⟩, fun e => by obtain ⟨n29, ev, p_n29, f_n29⟩ := hd.2.2.2.2.2.2.1 e; exact ⟨n29, ev, p_n29, blK hb f_n29⟩, fun e => by obtain ⟨n32, ev, p_n32, f_n32⟩ := hd.2.2.2.2.2.2.2.1 e; exact ⟨n32, ev, p_n32, blK hb f_n32⟩, fun e => by obtain ⟨n35, ev, p_n35, f_n35⟩ := hd.2.2.2.2.2.2.2.2.1 e; exact ⟨n35, ev, p_n35, blK hb f_n35⟩, fun e => by obtain ⟨n42, ev, p_n42, f_n42⟩ := hd.2.2.2.2.2.2.2.2.2.1 e; exact ⟨n42, ev, p_n42, blK hb f_n42⟩, fun e => by obtain ⟨n43, n4, n7, n14, n19, n26, n29, n32, n35, n42, ev, p_n43, f_n43, p_n4, f_n4, p_n7, f_n7, p_n14, f_n14, p_n19, f_n19, p_n26, f_n26, p_n29, f_n29, p_n32, f_n32, p_n35, f_n35, p_n42, f_n42⟩ := hd.2.2.2.2.2.2.2.2.2.2.1 e; exact ⟨n43, n4, n7, n14, n19, n26, n29, n32, n35, n42, ev, p_n43, blK hb f_n43, p_n4, blK hb f_n4, p_n7, blK hb f_n7, p_n14, blK hb f_n14, p_n19, blK hb f_n19, p_n26, blK hb f_n26, p_n29, blK hb f_n29, p_n32, blK hb f_n32, p_n35, blK hb f_n35, p_n42, blK hb f_n42⟩, fun e => by obtain ⟨n43, n4, n7, n14, n19, n26, n29, n32, n35, n42, ev, p_n43, f_n43, p_n4, f_n4, p_n7, f_n7, p_n14, f_n14, p_n19, f_n19, p_n26, f_n26, p_n29, f_n29, p_n32, f_n32, p_n35, f_n35, p_n42, f_n42⟩ := hd.2.2.2.2.2.2.2.2.2.2.2 e; exact ⟨n43, n4, n7, n14, n19, n26, n29, n32, n35, n42, ev, p_n43, blK hb f_n43, p_n4, blK hb f_n4, p_n7, blK hb f_n7, p_n14, blK hb f_n14, p_n19, blK hb f_n19, p_n26, blK hb f_n26, p_n29, blK hb f_n29, p_n32, blK hb f_n32, p_n35, blK hb f_n35, p_n42, blK hb f_n42⟩⟩, g1.trans (hb.mono gz), Nat.le_trans g0 hb.size, blK hb b0⟩
    · obtain ⟨u41, e41, x41⟩ := h.new 28 _ 41 rfl rfl (haf ⟨28, .data⟩ (by simp) rfl)
      have y41 : u41 = (.agg #[.int .i64 5, .string ⟨#[120]⟩, .string ⟨#[]⟩, .bool false, .int .i64 1, .int .i64 2, .int .i64 1, .string ⟨#[]⟩, .string ⟨#[]⟩, .int .i64 0, .int .i64 0, .int .i64 0, .string ⟨#[]⟩, .slice none 0 0, .slice none 0 0]) := x41.1
      subst y41
      refine wp_val (v := .slice (some ⟨W.heap.size, 0, none⟩) 1 1) (w' := W.alloc (.cells cll5 31)) ?_ ⟨_, rfl, ⟨trivial, fun e => absurd e (by decide), fun e => absurd e (by decide), fun e => absurd e (by decide), fun e => absurd e (by decide), fun e => absurd e (by decide), fun _ => ⟨W.heap.size, rfl, g0, aNew rfl⟩, fun e => absurd e (by decide), fun e => absurd e (by decide), fun e => absurd e (by decide), fun e => absurd e (by decide), fun e => absurd e (by decide)⟩, fun j u hd => ⟨hd.1, fun e => by obtain ⟨n4, ev, p_n4, f_n4⟩ := hd.2.1 e; exact ⟨n4, ev, p_n4, aOld f_n4⟩, fun e => by obtain ⟨n7, ev, p_n7, f_n7⟩ := hd.2.2.1 e; exact ⟨n7, ev, p_n7, aOld f_n7⟩, fun e => by obtain ⟨n14, ev, p_n14, f_n14⟩ := hd.2.2.2.1 e; exact ⟨n14, ev, p_n14, aOld f_n14⟩, fun e => by obtain ⟨n19, ev, p_n19, f_n19⟩ := hd.2.2.2.2.1 e; exact ⟨n19, ev, p_n19, aOld f_n19⟩, fun e => by obtain ⟨n26, ev, p_n26, f_n26⟩ := hd.2.2.2.2.2.1 e; exact ⟨n26, ev, p_n26, aOld f_n26⟩, fun e => by obtain ⟨n29, ev, p_n29, f_n29⟩ := hd.2.2.2.2.2.2.1 e; exact ⟨n29, ev, p_n29, aOld f_n29⟩, fun e => by obtain ⟨n32, ev, p_n32, f_n32⟩ := hd.2.2.2.2.2.2.2.1 e; exact ⟨n32, ev, p_n32, aOld f_n32⟩, fun e => by obtain ⟨n35, ev, p_n35, f_n35⟩ := hd.2.2.2.2.2.2.2.2.1 e; exact ⟨n35, ev, p_n35, aOld f_n35⟩, fun e => by obtain ⟨n42, ev, p_n42, f_n42⟩ := hd.2.2.2.2.2.2.2.2.2.1 e; exact ⟨n42, ev, p_n42, aOld f_n42⟩, fun e => by obtain ⟨n43, n4, n7, n14, n19, n26, n29, n32, n35, n42, ev, p_n43, f_n43, p_n4, f_n4, p_n7, f_n7, p_n14, f_n14, p_n19, f_n19, p_n26, f_n26, p_n29, f_n29, p_n32, f_n32, p_n35, f_n35, p_n42, f_n42⟩ := hd.2.2.2.2.2.2.2.2.2.2.1 e; exact ⟨n43, n4, n7, n14, n19, n26, n29, n32, n35, n42, ev, p_n43, aOld f_n43, p_n4, aOld f_n4, p_n7, aOld f_n7, p_n14, aOld f_n14, p_n19, aOld f_n19, p_n26, aOld f_n26, p_n29, aOld f_n29, p_n32, aOld f_n32, p_n35, aOld f_n35, p_n42, aOld f_n42⟩, fun e => by obtain ⟨n43, n4, n7, n14, n19, n26, n29, n32, n35, n42, ev, p_n43, f_n43, p_n4, f_n4, p_n7, f_n7, p_n14, f_n14, p_n19, f_n19, p_n26, f_n26, p_n29, f_n29, p_n32, f_n32, p_n35, f_n35, p_n42, f_n42⟩ := hd.2.2.2.2.2.2.2.2.2.2.2 e; exact ⟨n43, n4, n7, n14, n19, n26, n29, n32, n35, n42, ev, p_n43, aOld f_n43, p_n4, aOld f_n4, p_n7, aOld f_n7, p_n14, aOld f_n14, p_n19, aOld f_n19, p_n26, aOld f_n26, p_n29, aOld f_n29, p_n32, aOld f_n32, p_n35, aOld f_n35, p_n42, aOld f_n42⟩⟩, g1.alloc gz _, by simp; omega, aOld b0⟩
      unfold execOp
      simp [e41, go_sem, cll5]
    · have e4 := h.given 4 _ rfl (by kernel_rfl)
      refine wp_val (v := .func (.func 4) #[] #[.pointer (some ⟨w.heap.size, 0, none⟩)]) (w' := W) ?_ ⟨_, rfl, ⟨rfl, fun e => absurd e (by decide), fun e => absurd e (by decide), fun e => absurd e (by decide), fun e => absurd e (by decide), fun e => absurd e (by decide), fun e => absurd e (by decide), fun e => absurd e (by decide), fun e => absurd e (by decide), fun e => absurd e (by decide), fun e => absurd e (by decide), fun e => absurd e (by decide)⟩, fun _ _ h => h, g1, g0, b0⟩
      unfold execOp
      simp [e4, go_sem]
    · obtain ⟨u43, e43, x43⟩ := h.new 30 _ 43 rfl rfl (haf ⟨30, .data⟩ (by simp) rfl)
      have y43 : u43 = (.func (.func 4) #[] #[.pointer (some ⟨w.heap.size, 0, none⟩)]) := x43.1
      subst y43
      refine wp_enter (f := 4) (args := #[.int .i64 1, .string ⟨#[]⟩, .pointer (some ⟨w.heap.size, 0, none⟩)]) (w' := W) ?_ ((clause_made (w.heap.size) 1 ⟨#[]⟩ W b0).mono ?_)
      · unfold execOp
        simp [e43, go_sem]
      · rintro e W' ⟨rfl, hb⟩
        exact ⟨_, rfl, _, rfl, ⟨rfl, fun e => absurd e (by decide), fun e => absurd e (by decide), fun e => absurd e (by decide), fun e => absurd e (by decide), fun e => absurd e (by decide), fun e => absurd e (by decide), fun e => absurd e (by decide), fun e => absurd e (by decide), fun e => absurd e (by decide), fun e => absurd e (by decide), fun e => absurd e (by decide)⟩, fun j u hd => ⟨hd.1, fun e => by obtain ⟨n4, ev, p_n4, f_n4⟩ := hd.2.1 e; exact ⟨n4, ev, p_n4, blK hb f_n4⟩, fun e => by obtain ⟨n7, ev, p_n7, f_n7⟩ := hd.2.2.1 e; exact ⟨n7, ev, p_n7, blK hb f_n7⟩, fun e => by obtain ⟨n14, ev, p_n14, f_n14⟩ := hd.2.2.2.1 e; exact ⟨n14, ev, p_n14, blK hb f_n14⟩, fun e => by obtain ⟨n19, ev, p_n19, f_n19⟩ := hd.2.2.2.2.1 e; exact ⟨n19, ev, p_n19, blK hb f_n19⟩, fun e => by obtain ⟨n26, ev, p_n26, f_n26⟩ := hd.2.2.2.2.2.1 e; exact ⟨n26, ev, p_n26, blK hb f_n26⟩, fun e => by obtain ⟨n29, ev, p_n29, f_n29⟩ := hd.2.2.2.2.2.2.1 e; exact ⟨n29, ev, p_n29, blK hb f_n29⟩, fun e => by obtain ⟨n32, ev, p_n32, f_n32⟩ := hd.2.2.2.2.2.2.2.1 e; exact ⟨n32, ev, p_n32, blK hb f_n32⟩, fun e => by obtain ⟨n35, ev, p_n35, f_n35⟩ := hd.2.2.2.2.2.2.2.2.1 e; exact ⟨n35, ev, p_n35, blK hb f_n35⟩, fun e => by obtain ⟨n42, ev, p_n42, f_n42⟩ := hd.2.2.2.2.2.2.2.2.2.1 e; exact ⟨n42, ev, p_n42, blK hb f_n42⟩, fun e => by obtain ⟨n43, n4, n7, n14, n19, n26, n29, n32, n35, n42, ev, p_n43, f_n43, p_n4, f_n4, p_n7, f_n7, p_n14, f_n14, p_n19, f_n19, p_n26, f_n26, p_n29, f_n29, p_n32, f_n32, p_n35, f_n35, p_n42, f_n42⟩ := hd.2.2.2.2.2.2.2.2.2.2.1 e; exact ⟨n43, n4, n7, n14, n19, n26, n29, n32, n35, n42, ev, p_n43, blK hb f_n43, p_n4, blK hb f_n4, p_n7, blK hb f_n7, p_n14, blK hb f_n14, p_n19, blK hb f_n19, p_n26, blK hb f_n26, p_n29, blK hb f_n29, p_n32, blK hb f_n32, p_n35, blK hb f_n35, p_n42, blK hb f_n42⟩, fun e => by obtain ⟨n43, n4, n7, n14, n19, n26, n29, n32, n35, n42, ev, p_n43, f_n43, p_n4, f_n4, p_n7, f_n7, p_n14, f_n14, p_n19, f_n19, p_n26, f_n26, p_n29, f_n29, p_n32, f_n32, p_n35, f_n35, p_n42, f_n42⟩ := hd.2.2.2.2.2.2.2.2.2.2.2 e; exact ⟨n43, n4, n7, n14, n19, n26, n29, n32, n35, n42, ev, p_n43, blK hb f_n43, p_n4, blK hb f_n4, p_n7, blK hb f_n7, p_n14, blK hb f_n14, p_n19, blK hb f_n19, p_n26, blK hb f_n26, p_n29, blK hb f_n29, p_n32, blK hb f_n32, p_n35, blK hb f_n35, p_n42, blK hb f_n42⟩⟩, g1.trans (hb.mono gz), Nat.le_trans g0 hb.size, blK hb b0⟩
    · obtain ⟨u44, e44, x44⟩ := h.new 31 _ 44 rfl rfl (haf ⟨31, .data⟩ (by simp) rfl)
      have y44 : u44 = (.agg #[.int .i64 1, .string ⟨#[]⟩, .string ⟨#[]⟩, .bool false, .int .i64 1, .int .i64 2, .int .i64 1, .string ⟨#[]⟩, .string ⟨#[]⟩, .int .i64 0, .int .i64 0, .int .i64 0, .string ⟨#[]⟩, .slice none 0 0, .slice none 0 0]) := x44.1
      subst y44
      refine wp_val (v := .slice (some ⟨W.heap.size, 0, none⟩) 1 1) (w' := W.alloc (.cells cll6 31)) ?_ ⟨_, rfl, ⟨trivial, fun e => absurd e (by decide), fun e => absurd e (by decide), fun e => absurd e (by decide), fun e => absurd e (by decide), fun e => absurd e (by decide), fun e => absurd e (by decide), fun _ => ⟨W.heap.size, rfl, g0, aNew rfl⟩, fun e => absurd e (by decide), fun e => absurd e (by decide), fun e => absurd e (by decide), fun e => absurd e (by decide)⟩, fun j u hd => ⟨hd.1, fun e => by obtain ⟨n4, ev, p_n4, f_n4⟩ := hd.2.1 e; exact ⟨n4, ev, p_n4, aOld f_n4⟩, fun e => by obtain ⟨n7, ev, p_n7, f_n7⟩ := hd.2.2.1 e; exact ⟨n7, ev, p_n7, aOld f_n7⟩, fun e => by obtain ⟨n14, ev, p_n14, f_n14⟩ := hd.2.2.2.1 e; exact ⟨n14, ev, p_n14, aOld f_n14⟩, fun e => by obtain ⟨n19, ev, p_n19, f_n19⟩ := hd.2.2.2.2.1 e; exact ⟨n19, ev, p_n19, aOld f_n19⟩, fun e => by obtain ⟨n26, ev, p_n26, f_n26⟩ := hd.2.2.2.2.2.1 e; exact ⟨n26, ev, p_n26, aOld f_n26⟩, fun e => by obtain ⟨n29, ev, p_n29, f_n29⟩ := hd.2.2.2.2.2.2.1 e; exact ⟨n29, ev, p_n29, aOld f_n29⟩, fun e => by obtain ⟨n32, ev, p_n32, f_n32⟩ := hd.2.2.2.2.2.2.2.1 e; exact ⟨n32, ev, p_n32, aOld f_n32⟩, fun e => by obtain ⟨n35, ev, p_n35, f_n35⟩ := hd.2.2.2.2.2.2.2.2.1 e; exact ⟨n35, ev, p_n35, aOld f_n35⟩, fun e => by obtain ⟨n42, ev, p_n42, f_n42⟩ := hd.2.2.2.2.2.2.2.2.2.1 e; exact ⟨n42, ev, p_n42, aOld f_n42⟩, fun e => by obtain ⟨n43, n4, n7, n14, n19, n26, n29, n32, n35, n42, ev, p_n43, f_n43, p_n4, f_n4, p_n7, f_n7, p_n14, f_n14, p_n19, f_n19, p_n26, f_n26, p_n29, f_n29, p_n32, f_n32, p_n35, f_n35, p_n42, f_n42⟩ := hd.2.2.2.2.2.2.2.2.2.2.1 e; exact ⟨n43, n4, n7, n14, n19, n26, n29, n32, n35, n42, ev, p_n43, aOld f_n43, p_n4, aOld f_n4, p_n7, aOld f_n7, p_n14, aOld f_n14, p_n19, aOld f_n19, p_n26, aOld f_n26, p_n29, aOld f_n29, p_n32, aOld f_n32, p_n35, aOld f_n35, p_n42, aOld f_n42⟩, fun e => by obtain ⟨n43, n4, n7, n14, n19, n26, n29, n32, n35, n42, ev, p_n43, f_n43, p_n4, f_n4, p_n7, f_n7, p_n14, f_n14, p_n19, f_n19, p_n26, f_n26, p_n29, f_n29, p_n32, f_n32, p_n35, f_n35, p_n42, f_n42⟩ := hd.2.2.2.2.2.2.2.2.2.2.2 e; exact ⟨n43, n4, n7, n14, n19, n26, n29, n32, n35, n42, ev, p_n43, aOld f_n43, p_n4, aOld f_n4, p_n7, aOld f_n7, p_n14, aOld f_n14, p_n19, aOld f_n19, p_n26, aOld f_n26, p_n29, aOld f_n29, p_n32, aOld f_n32, p_n35, aOld f_n35, p_n42, aOld f_n42⟩⟩, g1.alloc gz _, by simp; omega, aOld b0⟩
      unfold execOp
      simp [e44, go_sem, cll6]
    · have e3 := h.given 3 _ rfl (by kernel_rfl)
      have c_ := b0
      obtain ⟨c0, c1, c2, c3, c4, c5, c6, c7, c8, c9, c10, _, _⟩ := bk11 c_
      refine wp_val (v := .agg #[.int .i64 1, .int .i64 2, .int .i64 1, .string ⟨#[]⟩, .string ⟨#[]⟩, .int .i64 0, .int .i64 0, .int .i64 0, .string ⟨#[]⟩, .slice none 0 0, .slice none 0 0]) (w' := W) ?_ ⟨_, rfl, ⟨rfl, fun e => absurd e (by decide), fun e => absurd e (by decide), fun e => absurd e (by decide), fun e => absurd e (by decide), fun e => absurd e (by decide), fun e => absurd e (by decide), fun e => absurd e (by decide), fun e => absurd e (by decide), fun e => absurd e (by decide), fun e => absurd e (by decide), fun e => absurd e (by decide)⟩, fun _ _ h => h, g1, g0, b0⟩
      unfold execOp
      simp [e3, c0, c1, c2, c3, c4, c5, c6, c7, c8, c9, c10, go_sem]
    · obtain ⟨u46, e46, x46⟩ := h.new 33 _ 46 rfl rfl (haf ⟨33, .data⟩ (by simp) rfl)
      have y46 : u46 = (.agg #[.int .i64 1, .int .i64 2, .int .i64 1, .string ⟨#[]⟩, .string ⟨#[]⟩, .int .i64 0, .int .i64 0, .int .i64 0, .string ⟨#[]⟩, .slice none 0 0, .slice none 0 0]) := x46.1
      subst y46
      refine wp_val (v := .agg #[.int .i64 1, .string ⟨#[120]⟩, .string ⟨#[120]⟩, .bool false, .int .i64 1, .int .i64 2, .int .i64 1, .string ⟨#[]⟩, .string ⟨#[]⟩, .int .i64 0, .int .i64 0, .int .i64 0, .string ⟨#[]⟩, .slice none 0 0, .slice none 0 0]) (w' := W) ?_ ⟨_, rfl, ⟨rfl, fun e => absurd e (by decide), fun e => absurd e (by decide), fun e => absurd e (by decide), fun e => absurd e (by decide), fun e => absurd e (by decide), fun e => absurd e (by decide), fun e => absurd e (by decide), fun e => absurd e (by decide), fun e => absurd e (by decide), fun e => absurd e (by decide), fun e => absurd e (by decide)⟩, fun _ _ h => h, g1, g0, b0⟩
      unfold execOp
      simp [e46, go_sem]
    · obtain ⟨u47, e47, x47⟩ := h.new 34 _ 47 rfl rfl (haf ⟨34, .data⟩ (by simp) rfl)
      have y47 : u47 = (.agg #[.int .i64 1, .string ⟨#[120]⟩, .string ⟨#[120]⟩, .bool false, .int .i64 1, .int .i64 2, .int .i64 1, .string ⟨#[]⟩, .string ⟨#[]⟩, .int .i64 0, .int .i64 0, .int .i64 0, .string ⟨#[]⟩, .slice none 0 0, .slice none 0 0]) := x47.1
      subst y47
      refine wp_val (v := .slice (some ⟨W.heap.size, 0, none⟩) 1 1) (w' := W.alloc (.cells cll7 31)) ?_ ⟨_, rfl, ⟨trivial, fun e => absurd e (by decide), fun e => absurd e (by decide), fun e => absurd e (by decide), fun e => absurd e (by decide), fun e => absurd e (by decide), fun e => absurd e (by decide), fun e => absurd e (by decide), fun _ => ⟨W.heap.size, rfl, g0, aNew rfl⟩, fun e => absurd e (by decide), fun e => absurd e (by decide), fun e => absurd e (by decide)⟩, fun j u hd => ⟨hd.1, fun e => by obtain ⟨n4, ev, p_n4, f_n4⟩ := hd.2.1 e; exact ⟨n4, ev, p_n4, aOld f_n4⟩, fun e => by obtain ⟨n7, ev, p_n7, f_n7⟩ := hd.2.2.1 e; exact ⟨n7, ev, p_n7, aOld f_n7⟩, fun e => by obtain ⟨n14, ev, p_n14, f_n14⟩ := hd.2.2.2.1 e; exact ⟨n14, ev, p_n14, aOld f_n14⟩, fun e => by obtain ⟨n19, ev, p_n19, f_n19⟩ := hd.2.2.2.2.1 e; exact ⟨n19, ev, p_n19, aOld f_n19⟩, fun e => by obtain ⟨n26, ev, p_n26, f_n26⟩ := hd.2.2.2.2.2.1 e; exact ⟨n26, ev, p_n26, aOld f_n26⟩, fun e => by obtain ⟨n29, ev, p_n29, f_n29⟩ := hd.2.2.2.2.2.2.1 e; exact ⟨n29, ev, p_n29, aOld f_n29⟩, fun e => by obtain ⟨n32, ev, p_n32, f_n32⟩ := hd.2.2.2.2.2.2.2.1 e; exact ⟨n32, ev, p_n32, aOld f_n32⟩, fun e => by obtain ⟨n35, ev, p_n35, f_n35⟩ := hd.2.2.2.2.2.2.2.2.1 e; exact ⟨n35, ev, p_n35, aOld f_n35⟩, fun e => by obtain ⟨n42, ev, p_n42, f_n42⟩ := hd.2.2.2.2.2.2.2.2.2.1 e; exact ⟨n42, ev, p_n42, aOld f_n42⟩, fun e => by obtain ⟨n43, n4, n7, n14, n19, n26, n29, n32, n35, n42, ev, p_n43, f_n43, p_n4, f_n4, p_n7, f_n7, p_n14, f_n14, p_n19, f_n19, p_n26, f_n26, p_n29, f_n29, p_n32, f_n32, p_n35, f_n35, p_n42, f_n42⟩ := hd.2.2.2.2.2.2.2.2.2.2.1 e; exact ⟨n43, n4, n7, n14, n19, n26, n29, n32, n35, n42, ev, p_n43, aOld f_n43, p_n4, aOld f_n4, p_n7, aOld f_n7, p_n14, aOld f_n14, p_n19, aOld f_n19, p_n26, aOld f_n26, p_n29, aOld f_n29, p_n32, aOld f_n32, p_n35, aOld f_n35, p_n42, aOld f_n42⟩, fun e => by obtain ⟨n43, n4, n7, n14, n19, n26, n29, n32, n35, n42, ev, p_n43, f_n43, p_n4, f_n4, p_n7, f_n7, p_n14, f_n14, p_n19, f_n19, p_n26, f_n26, p_n29, f_n29, p_n32, f_n32, p_n35, f_n35, p_n42, f_n42⟩ := hd.2.2.2.2.2.2.2.2.2.2.2 e; exact ⟨n43, n4, n7, n14, n19, n26, n29, n32, n35, n42, ev, p_n43, aOld f_n43, p_n4, aOld f_n4, p_n7, aOld f_n7, p_n14, aOld f_n14, p_n19, aOld f_n19, p_n26, aOld f_n26, p_n29, aOld f_n29, p_n32, aOld f_n32, p_n35, aOld f_n35, p_n42, aOld f_n42⟩⟩, g1.alloc gz _, by simp; omega, aOld b0⟩
      unfold execOp
      simp [e47, go_sem, cll7]
    · have e4 := h.given 4 _ rfl (by kernel_rfl)
      refine wp_val (v := .func (.func 4) #[] #[.pointer (some ⟨w.heap.size, 0, none⟩)]) (w' := W) ?_ ⟨_, rfl, ⟨rfl, fun e => absurd e (by decide), fun e => absurd e (by decide), fun e => absurd e (by decide), fun e => absurd e (by decide), fun e => absurd e (by decide), fun e => absurd e (by decide), fun e => absurd e (by decide), fun e => absurd e (by decide), fun e => absurd e (by decide), fun e => absurd e (by decide), fun e => absurd e (by decide)⟩, fun _ _ h => h, g1, g0, b0⟩
      unfold execOp
      simp [e4, go_sem]
    · obtain ⟨u49, e49, x49⟩ := h.new 36 _ 49 rfl rfl (haf ⟨36, .data⟩ (by simp) rfl)
      have y49 : u49 = (.func (.func 4) #[] #[.pointer (some ⟨w.heap.size, 0, none⟩)]) := x49.1
      subst y49
      refine wp_enter (f := 4) (args := #[.int .i64 1, .string ⟨#[120]⟩, .pointer (some ⟨w.heap.size, 0, none⟩)]) (w' := W) ?_ ((clause_made (w.heap.size) 1 ⟨#[120]⟩ W b0).mono ?_)
      · unfold execOp
        simp [e49, go_sem]
      · rintro e W' ⟨rfl, hb⟩
        exact ⟨_, rfl, _, rfl, ⟨rfl, fun e => absurd e (by decide), fun e => absurd e (by decide), fun e => absurd e (by decide), fun e => absurd e (by decide), fun e => absurd e (by decide), fun e => absurd e (by decide), fun e => absurd e (by decide), fun e => absurd e (by decide), fun e => absurd e (by decide), fun e => absurd e (by decide), fun e => absurd e (by decide)⟩, fun j u hd => ⟨hd.1, fun e => by obtain ⟨n4, ev, p_n4, f_n4⟩ := hd.2.1 e; exact ⟨n4, ev, p_n4, blK hb f_n4⟩, fun e => by obtain ⟨n7, ev, p_n7, f_n7⟩ := hd.2.2.1 e; exact ⟨n7, ev, p_n7, blK hb f_n7⟩, fun e => by obtain ⟨n14, ev, p_n14, f_n14⟩ := hd.2.2.2.1 e; exact ⟨n14, ev, p_n14, blK hb f_n14⟩, fun e => by obtain ⟨n19, ev, p_n19, f_n19⟩ := hd.2.2.2.2.1 e; exact ⟨n19, ev, p_n19, blK hb f_n19⟩, fun e => by obtain ⟨n26, ev, p_n26, f_n26⟩ := hd.2.2.2.2.2.1 e; exact ⟨n26, ev, p_n26, blK hb f_n26⟩, fun e => by obtain ⟨n29, ev, p_n29, f_n29⟩ := hd.2.2.2.2.2.2.1 e; exact ⟨n29, ev, p_n29, blK hb f_n29⟩, fun e => by obtain ⟨n32, ev, p_n32, f_n32⟩ := hd.2.2.2.2.2.2.2.1 e; exact ⟨n32, ev, p_n32, blK hb f_n32⟩, fun e => by obtain ⟨n35, ev, p_n35, f_n35⟩ := hd.2.2.2.2.2.2.2.2.1 e; exact ⟨n35, ev, p_n35, blK hb f_n35⟩, fun e => by obtain ⟨n42, ev, p_n42, f_n42⟩ := hd.2.2.2.2.2.2.2.2.2.1 e; exact ⟨n42, ev, p_n42, blK hb f_n42⟩, fun e => by obtain ⟨n43, n4, n7, n14, n19, n26, n29, n32, n35, n42, ev, p_n43, f_n43, p_n4, f_n4, p_n7, f_n7, p_n14, f_n14, p_n19, f_n19, p_n26, f_n26, p_n29, f_n29, p_n32, f_n32, p_n35, f_n35, p_n42, f_n42⟩ := hd.2.2.2.2.2.2.2.2.2.2.1 e; exact ⟨n43, n4, n7, n14, n19, n26, n29, n32, n35, n42, ev, p_n43, blK hb f_n43, p_n4, blK hb f_n4, p_n7, blK hb f_n7, p_n14, blK hb f_n14, p_n19, blK hb f_n19, p_n26, blK hb f_n26, p_n29, blK hb f_n29, p_n32, blK hb f_n32, p_n35, blK hb f_n35, p_n42, blK hb f_n42⟩, fun e => by obtain ⟨n43, n4, n7, n14, n19, n26, n29, n32, n35, n42, ev, p_n43, f_n43, p_n4, f_n4, p_n7, f_n7, p_n14, f_n14, p_n19, f_n19, p_n26, f_n26, p_n29, f_n29, p_n32, f_n32, p_n35, f_n35, p_n42, f_n42⟩ := hd.2.2.2.2.2.2.2.2.2.2.2 e; exact ⟨n43, n4, n7, n14, n19, n26, n29, n32, n35, n42, ev, p_n43, blK hb f_n43, p_n4, blK hb f_n4, p_n7, blK hb f_n7, p_n14, blK hb f_n14, p_n19, blK hb f_n19, p_n26, blK hb f_n26, p_n29, blK hb f_n29, p_n32, blK hb f_n32, p_n35, blK hb f_n35, p_n42, blK hb f_n42⟩⟩, g1.trans (hb.mono gz), Nat.le_trans g0 hb.size, blK hb b0⟩
    · have e4 := h.given 4 _ rfl (by kernel_rfl)
      refine wp_val (v := .func (.func 4) #[] #[.pointer (some ⟨w.heap.size, 0, none⟩)]) (w' := W) ?_ ⟨_, rfl, ⟨rfl, fun e => absurd e (by decide), fun e => absurd e (by decide), fun e => absurd e (by decide), fun e => absurd e (by decide), fun e => absurd e (by decide), fun e => absurd e (by decide), fun e => absurd e (by decide), fun e => absurd e (by decide), fun e => absurd e (by decide), fun e => absurd e (by decide), fun e => absurd e (by decide)⟩, fun _ _ h => h, g1, g0, b0⟩
      unfold execOp
      simp [e4, go_sem]
    · obtain ⟨u51, e51, x51⟩ := h.new 38 _ 51 rfl rfl (haf ⟨38, .data⟩ (by simp) rfl)
      have y51 : u51 = (.func (.func 4) #[] #[.pointer (some ⟨w.heap.size, 0, none⟩)]) := x51.1
      subst y51
      refine wp_enter (f := 4) (args := #[.int .i64 3, .string ⟨#[]⟩, .pointer (some ⟨w.heap.size, 0, none⟩)]) (w' := W) ?_ ((clause_made (w.heap.size) 3 ⟨#[]⟩ W b0).mono ?_)
      · unfold execOp
        simp [e51, go_sem]
      · rintro e W' ⟨rfl, hb⟩
        exact ⟨_, rfl, _, rfl, ⟨rfl, fun e => absurd e (by decide), fun e => absurd e (by decide), fun e => absurd e (by decide), fun e => absurd e (by decide), fun e => absurd e (by decide), fun e => absurd e (by decide), fun e => absurd e (by decide), fun e => absurd e (by decide), fun e => absurd e (by decide), fun e => absurd e (by decide), fun e => absurd e (by decide)⟩, fun j u hd => ⟨hd.1, fun e => by obtain ⟨n4, ev, p_n4, f_n4⟩ := hd.2.1 e; exact ⟨n4, ev, p_n4, blK hb f_n4⟩, fun e => by obtain ⟨n7, ev, p_n7, f_n7⟩ := hd.2.2.1 e; exact ⟨n7, ev, p_n7, blK hb f_n7⟩, fun e => by obtain ⟨n14, ev, p_n14, f_n14⟩ := hd.2.2.2.1 e; exact ⟨n14, ev, p_n14, blK hb f_n14⟩, fun e => by obtain ⟨n19, ev, p_n19, f_n19⟩ := hd.2.2.2.2.1 e; exact ⟨n19, ev, p_n19, blK hb f_n19⟩, fun e => by obtain ⟨n26, ev, p_n26, f_n26⟩ := hd.2.2.2.2.2.1 e; exact ⟨n26, ev, p_n26, blK hb f_n26⟩, fun e => by obtain ⟨n29, ev, p_n29, f_n29⟩ := hd.2.2.2.2.2.2.1 e; exact ⟨n29, ev, p_n29, blK hb f_n29⟩, fun e => by obtain ⟨n32, ev, p_n32, f_n32⟩ := hd.2.2.2.2.2.2.2.1 e; exact ⟨n32, ev, p_n32, blK hb f_n32⟩, fun e => by obtain ⟨n35, ev, p_n35, f_n35⟩ := hd.2.2.2.2.2.2.2.2.1 e; exact ⟨n35, ev, p_n35, blK hb f_n35⟩, fun e => by obtain ⟨n42, ev, p_n42, f_n42⟩ := hd.2.2.2.2.2.2.2.2.2.1 e; exact ⟨n42, ev, p_n42, blK hb f_n42⟩, fun e => by obtain ⟨n43, n4, n7, n14, n19, n26, n29, n32, n35, n42, ev, p_n43, f_n43, p_n4, f_n4, p_n7, f_n7, p_n14, f_n14, p_n19, f_n19, p_n26, f_n26, p_n29, f_n29, p_n32, f_n32, p_n35, f_n35, p_n42, f_n42⟩ := hd.2.2.2.2.2.2.2.2.2.2.1 e; exact ⟨n43, n4, n7, n14, n19, n26, n29, n32, n35, n42, ev, p_n43, blK hb f_n43, p_n4, blK hb f_n4, p_n7, blK hb f_n7, p_n14, blK hb f_n14, p_n19, blK hb f_n19, p_n26, blK hb f_n26, p_n29, blK hb f_n29, p_n32, blK hb f_n32, p_n35, blK hb f_n35, p_n42, blK hb f_n42⟩, fun e => by obtain ⟨n43, n4, n7, n14, n19, n26, n29, n32, n35, n42, ev, p_n43, f_n43, p_n4, f_n4, p_n7, f_n7, p_n14, f_n14, p_n19, f_n19, p_n26, f_n26, p_n29, f_n29, p_n32, f_n32, p_n35, f_n35, p_n42, f_n42⟩ := hd.2.2.2.2.2.2.2.2.2.2.2 e; exact ⟨n43, n4, n7, n14, n19, n26, n29, n32, n35, n42, ev, p_n43, blK hb f_n43, p_n4, blK hb f_n4, p_n7, blK hb f_n7, p_n14, blK hb f_n14, p_n19, blK hb f_n19, p_n26, blK hb f_n26, p_n29, blK hb f_n29, p_n32, blK hb f_n32, p_n35, blK hb f_n35, p_n42, blK hb f_n42⟩⟩, g1.trans (hb.mono gz), Nat.le_trans g0 hb.size, blK hb b0⟩
    · have e4 := h.given 4 _ rfl (by kernel_rfl)
      refine wp_val (v := .func (.func 4) #[] #[.pointer (some ⟨w.heap.size, 0, none⟩)]) (w' := W) ?_ ⟨_, rfl, ⟨rfl, fun e => absurd e (by decide), fun e => absurd e (by decide), fun e => absurd e (by decide), fun e => absurd e (by decide), fun e => absurd e (by decide), fun e => absurd e (by decide), fun e => absurd e (by decide), fun e => absurd e (by decide), fun e => absurd e (by decide), fun e => absurd e (by decide), fun e => absurd e (by decide)⟩, fun _ _ h => h, g1, g0, b0⟩
      unfold execOp
      simp [e4, go_sem]
    · obtain ⟨u53, e53, x53⟩ := h.new 40 _ 53 rfl rfl (haf ⟨40, .data⟩ (by simp) rfl)
      have y53 : u53 = (.func (.func 4) #[] #[.pointer (some ⟨w.heap.size, 0, none⟩)]) := x53.1
      subst y53
      refine wp_enter (f := 4) (args := #[.int .i64 4, .string ⟨#[]⟩, .pointer (some ⟨w.heap.size, 0, none⟩)]) (w' := W) ?_ ((clause_made (w.heap.size) 4 ⟨#[]⟩ W b0).mono ?_)
      · unfold execOp
        simp [e53, go_sem]
      · rintro e W' ⟨rfl, hb⟩
        exact ⟨_, rfl, _, rfl, ⟨rfl, fun e => absurd e (by decide), fun e => absurd e (by decide), fun e => absurd e (by decide), fun e => absurd e (by decide), fun e => absurd e (by decide), fun e => absurd e (by decide), fun e => absurd e (by decide), fun e => absurd e (by decide), fun e => absurd e (by decide), fun e => absurd e (by decide), fun e => absurd e (by decide)⟩, fun j u hd => ⟨hd.1, fun e => by obtain ⟨n4, ev, p_n4, f_n4⟩ := hd.2.1 e; exact ⟨n4, ev, p_n4, blK hb f_n4⟩, fun e => by obtain ⟨n7, ev, p_n7, f_n7⟩ := hd.2.2.1 e; exact ⟨n7, ev, p_n7, blK hb f_n7⟩, fun e => by obtain ⟨n14, ev, p_n14, f_n14⟩ := hd.2.2.2.1 e; exact ⟨n14, ev, p_n14, blK hb f_n14⟩, fun e => by obtain ⟨n19, ev, p_n19, f_n19⟩ := hd.2.2.2.2.1 e; exact ⟨n19, ev, p_n19, blK hb f_n19⟩, fun e => by obtain ⟨n26, ev, p_n26, f_n26⟩ := hd.2.2.2.2.2.1 e; exact ⟨n26, ev, p_n26, blK hb f_n26⟩, fun e => by obtain ⟨n29, ev, p_n29, f_n29⟩ := hd.2.2.2.2.2.2.1 e; exact ⟨n29, ev, p_n29, blK hb f_n29⟩, fun e => by obtain ⟨n32, ev, p_n32, f_n32⟩ := hd.2.2.2.2.2.2.2.1 e; exact ⟨n32, ev, p_n32, blK hb f_n32⟩, fun e => by obtain ⟨n35, ev, p_n35, f_n35⟩ := hd.2.2.2.2.2.2.2.2.1 e; exact ⟨n35, ev, p_n35, blK hb f_n35⟩, fun e => by obtain ⟨n42, ev, p_n42, f_n42⟩ := hd.2.2.2.2.2.2.2.2.2.1 e; exact ⟨n42, ev, p_n42, blK hb f_n42⟩, fun e => by obtain ⟨n43, n4, n7, n14, n19, n26, n29, n32, n35, n42, ev, p_n43, f_n43, p_n4, f_n4, p_n7, f_n7, p_n14, f_n14, p_n19, f_n19, p_n26, f_n26, p_n29, f_n29, p_n32, f_n32, p_n35, f_n35, p_n42, f_n42⟩ := hd.2.2.2.2.2.2.2.2.2.2.1 e; exact ⟨n43, n4, n7, n14, n19, n26, n29, n32, n35, n42, ev, p_n43, blK hb f_n43, p_n4, blK hb f_n4, p_n7, blK hb f_n7, p_n14, blK hb f_n14, p_n19, blK hb f_n19, p_n26, blK hb f_n26, p_n29, blK hb f_n29, p_n32, blK hb f_n32, p_n35, blK hb f_n35, p_n42, blK hb f_n42⟩, fun e => by obtain ⟨n43, n4, n7, n14, n19, n26, n29, n32, n35, n42, ev, p_n43, f_n43, p_n4, f_n4, p_n7, f_n7, p_n14, f_n14, p_n19, f_n19, p_n26, f_n26, p_n29, f_n29, p_n32, f_n32, p_n35, f_n35, p_n42, f_n42⟩ := hd.2.2.2.2.2.2.2.2.2.2.2 e; exact ⟨n43, n4, n7, n14, n19, n26, n29, n32, n35, n42, ev, p_n43, blK hb f_n43, p_n4, blK hb f_n4, p_n7, blK hb f_n7, p_n14, blK hb f_n14, p_n19, blK hb f_n19, p_n26, blK hb f_n26, p_n29, blK hb f_n29, p_n32, blK hb f_n32, p_n35, blK hb f_n35, p_n42, blK hb f_n42⟩⟩, g1.trans (hb.mono gz), Nat.le_trans g0 hb.size, blK hb b0⟩
    · obtain ⟨u50, e50, x50⟩ := h.new 37 _ 50 rfl rfl (haf ⟨37, .data⟩ (by simp) rfl)
      have y50 : u50 = (.agg #[.int .i64 1, .string ⟨#[120]⟩, .string ⟨#[]⟩, .bool false, .int .i64 1, .int .i64 2, .int .i64 1, .string ⟨#[]⟩, .string ⟨#[]⟩, .int .i64 0, .int .i64 0, .int .i64 0, .string ⟨#[]⟩, .slice none 0 0, .slice none 0 0]) := x50.1
      subst y50
      obtain ⟨u52, e52, x52⟩ := h.new 39 _ 52 rfl rfl (haf ⟨39, .data⟩ (by simp) rfl)
      have y52 : u52 = (.agg #[.int .i64 3, .string ⟨#[]⟩, .string ⟨#[]⟩, .bool false, .int .i64 1, .int .i64 2, .int .i64 1, .string ⟨#[]⟩, .string ⟨#[]⟩, .int .i64 0, .int .i64 0, .int .i64 0, .string ⟨#[]⟩, .slice none 0 0, .slice none 0 0]) := x52.1
      subst y52
      obtain ⟨u54, e54, x54⟩ := h.new 41 _ 54 rfl rfl (haf ⟨41, .data⟩ (by simp) rfl)
      have y54 : u54 = (.agg #[.int .i64 4, .string ⟨#[]⟩, .string ⟨#[]⟩, .bool false, .int .i64 1, .int .i64 2, .int .i64 1, .string ⟨#[]⟩, .string ⟨#[]⟩, .int .i64 0, .int .i64 0, .int .i64 0, .string ⟨#[]⟩, .slice none 0 0, .slice none 0 0]) := x54.1
      subst y54
      refine wp_val (v := .slice (some ⟨W.heap.size, 0, none⟩) 3 3) (w' := W.alloc (.cells cll8 31)) ?_ ⟨_, rfl, ⟨trivial, fun e => absurd e (by decide), fun e => absurd e (by decide), fun e => absurd e (by decide), fun e => absurd e (by decide), fun e => absurd e (by decide), fun e => absurd e (by decide), fun e => absurd e (by decide), fun e => absurd e (by decide), fun _ => ⟨W.heap.size, rfl, g0, aNew rfl⟩, fun e => absurd e (by decide), fun e => absurd e (by decide)⟩, fun j u hd => ⟨hd.1, fun e => by obtain ⟨n4, ev, p_n4, f_n4⟩ := hd.2.1 e; exact ⟨n4, ev, p_n4, aOld f_n4⟩, fun e => by obtain ⟨n7, ev, p_n7, f_n7⟩ := hd.2.2.1 e; exact ⟨n7, ev, p_n7, aOld f_n7⟩, fun e => by obtain ⟨n14, ev, p_n14, f_n14⟩ := hd.2.2.2.1 e; exact ⟨n14, ev, p_n14, aOld f_n14⟩, fun e => by obtain ⟨n19, ev, p_n19, f_n19⟩ := hd.2.2.2.2.1 e; exact ⟨n19, ev, p_n19, aOld f_n19⟩, fun e => by obtain ⟨n26, ev, p_n26, f_n26⟩ := hd.2.2.2.2.2.1 e; exact ⟨n26, ev, p_n26, aOld f_n26⟩, fun e => by obtain ⟨n29, ev, p_n29, f_n29⟩ := hd.2.2.2.2.2.2.1 e; exact ⟨n29, ev, p_n29, aOld f_n29⟩, fun e => by obtain ⟨n32, ev, p_n32, f_n32⟩ := hd.2.2.2.2.2.2.2.1 e; exact ⟨n32, ev, p_n32, aOld f_n32⟩, fun e => by obtain ⟨n35, ev, p_n35, f_n35⟩ := hd.2.2.2.2.2.2.2.2.1 e; exact ⟨n35, ev, p_n35, aOld f_n35⟩, fun e => by obtain ⟨n42, ev, p_n42, f_n42⟩ := hd.2.2.2.2.2.2.2.2.2.1 e; exact ⟨n42, ev, p_n42, aOld f_n42⟩, fun e => by obtain ⟨n43, n4, n7, n14, n19, n26, n29, n32, n35, n42, ev, p_n43, f_n43, p_n4, f_n4, p_n7, f_n7, p_n14, f_n14, p_n19, f_n19, p_n26, f_n26, p_n29, f_n29, p_n32, f_n32, p_n35, f_n35, p_n42, f_n42⟩ := hd.2.2.2.2.2.2.2.2.2.2.1 e; exact ⟨n43, n4, n7, n14, n19, n26, n29, n32, n35, n42, ev, p_n43, aOld f_n43, p_n4, aOld f_n4, p_n7, aOld f_n7, p_n14, aOld f_n14, p_n19, aOld f_n19, p_n26, aOld f_n26, p_n29, aOld f_n29, p_n32, aOld f_n32, p_n35, aOld f_n35, p_n42, aOld f_n42⟩, fun e => by obtain ⟨n43, n4, n7, n14, n19, n26, n29, n32, n35, n42, ev, p_n43, f_n43, p_n4, f_n4, p_n7, f_n7, p_n14, f_n14, p_n19, f_n19, p_n26, f_n26, p_n29, f_n29, p_n32, f_n32, p_n35, f_n35, p_n42, f_n42⟩ := hd.2.2.2.2.2.2.2.2.2.2.2 e; exact ⟨n43, n4, n7, n14, n19, n26, n29, n32, n35, n42, ev, p_n43, aOld f_n43, p_n4, aOld f_n4, p_n7, aOld f_n7, p_n14, aOld f_n14, p_n19, aOld f_n19, p_n26, aOld f_n26, p_n29, aOld f_n29, p_n32, aOld f_n32, p_n35, aOld f_n35, p_n42, aOld f_n42⟩⟩, g1.alloc gz _, by simp; omega, aOld b0⟩
      unfold execOp
      simp [e50, e52, e54, go_sem, cll8]
    · obtain ⟨u17, e17, x17⟩ := h.new 4 _ 17 rfl rfl (haf ⟨4, .data⟩ (by simp) rfl)
      obtain ⟨n4, rfl, p_n4, f_n4⟩ := x17.2.1 rfl
      obtain ⟨u20, e20, x20⟩ := h.new 7 _ 20 rfl rfl (haf ⟨7, .data⟩ (by simp) rfl)
      obtain ⟨n7, rfl, p_n7, f_n7⟩ := x20.2.2.1 rfl
      obtain ⟨u27, e27, x27⟩ := h.new 14 _ 27 rfl rfl (haf ⟨14, .data⟩ (by simp) rfl)
      obtain ⟨n14, rfl, p_n14, f_n14⟩ := x27.2.2.2.1 rfl
      obtain ⟨u32, e32, x32⟩ := h.new 19 _ 32 rfl rfl (haf ⟨19, .data⟩ (by simp) rfl)
      obtain ⟨n19, rfl, p_n19, f_n19⟩ := x32.2.2.2.2.1 rfl
      obtain ⟨u39, e39, x39⟩ := h.new 26 _ 39 rfl rfl (haf ⟨26, .data⟩ (by simp) rfl)
      obtain ⟨n26, rfl, p_n26, f_n26⟩ := x39.2.2.2.2.2.1 rfl
      obtain ⟨u42, e42, x42⟩ := h.new 29 _ 42 rfl rfl (haf ⟨29, .data⟩ (by simp) rfl)
      obtain ⟨n29, rfl, p_n29, f_n29⟩ := x42.2.2.2.2.2.2.1 rfl
      obtain ⟨u45, e45, x45⟩ := h.new 32 _ 45 rfl rfl (haf ⟨32, .data⟩ (by simp) rfl)
      obtain ⟨n32, rfl, p_n32, f_n32⟩ := x45.2.2.2.2.2.2.2.1 rfl
      obtain ⟨u48, e48, x48⟩ := h.new 35 _ 48 rfl rfl (haf ⟨35, .data⟩ (by simp) rfl)
      obtain ⟨n35, rfl, p_n35, f_n35⟩ := x48.2.2.2.2.2.2.2.2.1 rfl
      obtain ⟨u55, e55, x55⟩ := h.new 42 _ 55 rfl rfl (haf ⟨42, .data⟩ (by simp) rfl)
      obtain ⟨n42, rfl, p_n42, f_n42⟩ := x55.2.2.2.2.2.2.2.2.2.1 rfl
      refine wp_val (v := .slice (some ⟨W.heap.size, 0, none⟩) 9 9) (w' := W.alloc (.cells #[.slice (some ⟨n4, 0, none⟩) 2 2, .slice (some ⟨n7, 0, none⟩) 1 1, .slice (some ⟨n14, 0, none⟩) 3 3, .slice (some ⟨n19, 0, none⟩) 2 2, .slice (some ⟨n26, 0, none⟩) 3 3, .slice (some ⟨n29, 0, none⟩) 1 1, .slice (some ⟨n32, 0, none⟩) 1 1, .slice (some ⟨n35, 0, none⟩) 1 1, .slice (some ⟨n42, 0, none⟩) 3 3] 27)) ?_ ⟨_, rfl, ⟨trivial, fun e => absurd e (by decide), fun e => absurd e (by decide), fun e => absurd e (by decide), fun e => absurd e (by decide), fun e => absurd e (by decide), fun e => absurd e (by decide), fun e => absurd e (by decide), fun e => absurd e (by decide), fun e => absurd e (by decide), fun _ => ⟨W.heap.size, n4, n7, n14, n19, n26, n29, n32, n35, n42, rfl, g0, aNew rfl, p_n4, aOld f_n4, p_n7, aOld f_n7, p_n14, aOld f_n14, p_n19, aOld f_n19, p_n26, aOld f_n26, p_n29, aOld f_n29, p_n32, aOld f_n32, p_n35, aOld f_n35, p_n42, aOld f_n42⟩, fun e => absurd e (by decide)⟩, fun j u hd => ⟨hd.1, fun e => by obtain ⟨n4, ev, p_n4, f_n4⟩ := hd.2.1 e; exact ⟨n4, ev, p_n4, aOld f_n4⟩, fun e => by obtain ⟨n7, ev, p_n7, f_n7⟩ := hd.2.2.1 e; exact ⟨n7, ev, p_n7, aOld f_n7⟩, fun e => by obtain ⟨n14, ev, p_n14, f_n14⟩ := hd.2.2.2.1 e; exact ⟨n14, ev, p_n14, aOld f_n14⟩, fun e => by obtain ⟨n19, ev, p_n19, f_n19⟩ := hd.2.2.2.2.1 e; exact ⟨n19, ev, p_n19, aOld f_n19⟩, fun e => by obtain ⟨n26, ev, p_n26, f_n26⟩ := hd.2.2.2.2.2.1 e; exact ⟨n26, ev, p_n26, aOld f_n26⟩, fun e => by obtain ⟨n29, ev, p_n29, f_n29⟩ := hd.2.2.2.2.2.2.1 e; exact ⟨n29, ev, p_n29, aOld f_n29⟩, fun e => by obtain ⟨n32, ev, p_n32, f_n32⟩ := hd.2.2.2.2.2.2.2.1 e; exact ⟨n32, ev, p_n32, aOld f_n32⟩, fun e => by obtain ⟨n35, ev, p_n35, f_n35⟩ := hd.2.2.2.2.2.2.2.2.1 e; exact ⟨n35, ev, p_n35, aOld f_n35⟩, fun e => by obtain ⟨n42, ev, p_n42, f_n42⟩ := hd.2.2.2.2.2.2.2.2.2.1 e; exact ⟨n42, ev, p_n42, aOld f_n42⟩, fun e => by obtain ⟨n43, n4, n7, n14, n19, n26, n29, n32, n35, n42, ev, p_n43, f_n43, p_n4, f_n4, p_n7, f_n7, p_n14, f_n14, p_n19, f_n19, p_n26, f_n26, p_n29, f_n29, p_n32, f_n32, p_n35, f_n35, p_n42, f_n42⟩ := hd.2.2.2.2.2.2.2.2.2.2.1 e; exact ⟨n43, n4, n7, n14, n19, n26, n29, n32, n35, n42, ev, p_n43, aOld f_n43, p_n4, aOld f_n4, p_n7, aOld f_n7, p_n14, aOld f_n14, p_n19, aOld f_n19, p_n26, aOld f_n26, p_n29, aOld f_n29, p_n32, aOld f_n32, p_n35, aOld f_n35, p_n42, aOld f_n42⟩, fun e => by obtain ⟨n43, n4, n7, n14, n19, n26, n29, n32, n35, n42, ev, p_n43, f_n43, p_n4, f_n4, p_n7, f_n7, p_n14, f_n14, p_n19, f_n19, p_n26, f_n26, p_n29, f_n29, p_n32, f_n32, p_n35, f_n35, p_n42, f_n42⟩ := hd.2.2.2.2.2.2.2.2.2.2.2 e; exact ⟨n43, n4, n7, n14, n19, n26, n29, n32, n35, n42, ev, p_n43, aOld f_n43, p_n4, aOld f_n4, p_n7, aOld f_n7, p_n14, aOld f_n14, p_n19, aOld f_n19, p_n26, aOld f_n26, p_n29, aOld f_n29, p_n32, aOld f_n32, p_n35, aOld f_n35, p_n42, aOld f_n42⟩⟩, g1.alloc gz _, by simp; omega, aOld b0⟩
      unfold execOp
      simp [e17, e20, e27, e32, e39, e42, e45, e48, e55, go_sem]
    · obtain ⟨u56, e56, x56⟩ := h.new 43 _ 56 rfl rfl (haf ⟨43, .phase⟩ (by simp) rfl)
      obtain ⟨n43, n4, n7, n14, n19, n26, n29, n32, n35, n42, rfl, p_n43, f_n43, p_n4, f_n4, p_n7, f_n7, p_n14, f_n14, p_n19, f_n19, p_n26, f_n26, p_n29, f_n29, p_n32, f_n32, p_n35, f_n35, p_n42, f_n42⟩ := x56.2.2.2.2.2.2.2.2.2.2.1 rfl
      refine wp_val (v := .slice (some ⟨n43, 0, none⟩) 9 9) (w' := W) ?_ ⟨_, rfl, ⟨trivial, fun e => absurd e (by decide), fun e => absurd e (by decide), fun e => absurd e (by decide), fun e => absurd e (by decide), fun e => absurd e (by decide), fun e => absurd e (by decide), fun e => absurd e (by decide), fun e => absurd e (by decide), fun e => absurd e (by decide), fun e => absurd e (by decide), fun _ => ⟨n43, n4, n7, n14, n19, n26, n29, n32, n35, n42, rfl, p_n43, f_n43, p_n4, f_n4, p_n7, f_n7, p_n14, f_n14, p_n19, f_n19, p_n26, f_n26, p_n29, f_n29, p_n32, f_n32, p_n35, f_n35, p_n42, f_n42⟩⟩, fun _ _ h => h, g1, g0, b0⟩
      unfold execOp
      simp [e56, go_sem]
  intro v W2 hv hs hg
  obtain ⟨g1, g0, b0⟩ := hg
  obtain ⟨ax, lx0, lx1, lx2, lx3, lx4, lx5, lx6, lx7, lx8, e44, p_ax, f_ax, p_lx0, f_lx0, p_lx1, f_lx1, p_lx2, f_lx2, p_lx3, f_lx3, p_lx4, f_lx4, p_lx5, f_lx5, p_lx6, f_lx6, p_lx7, f_lx7, p_lx8, f_lx8⟩ := (hv 44 _ 5 rfl rfl).2.2.2.2.2.2.2.2.2.2.2 rfl
  simp only [putAll, e44, Act.put, List.setIfInBounds_toArray, List.set_cons_succ, List.set_cons_zero]
  generalize v 0 = y0, v 1 = y1, v 2 = y2, v 3 = y3, v 4 = y4, v 5 = y5, v 6 = y6, v 7 = y7, v 8 = y8, v 9 = y9, v 10 = y10, v 11 = y11, v 12 = y12, v 13 = y13, v 14 = y14, v 15 = y15, v 16 = y16, v 17 = y17, v 18 = y18, v 19 = y19, v 20 = y20, v 21 = y21, v 22 = y22, v 23 = y23, v 24 = y24, v 25 = y25, v 26 = y26, v 27 = y27, v 28 = y28, v 29 = y29, v 30 = y30, v 31 = y31, v 32 = y32, v 33 = y33, v 34 = y34, v 35 = y35, v 36 = y36, v 37 = y37, v 38 = y38, v 39 = y39, v 40 = y40, v 41 = y41, v 42 = y42, v 43 = y43 at *
  have HB2 := hidC g1
  have HO2 := hidC b0
  have F_ax := hidC f_ax
  have F_lx0 := hidC f_lx0
  have F_lx1 := hidC f_lx1
  have F_lx2 := hidC f_lx2
  have F_lx3 := hidC f_lx3
  have F_lx4 := hidC f_lx4
  have F_lx5 := hidC f_lx5
  have F_lx6 := hidC f_lx6
  have F_lx7 := hidC f_lx7
  have F_lx8 := hidC f_lx8
  clear hv hs g1 b0 e44 f_ax f_lx0 f_lx1 f_lx2 f_lx3 f_lx4 f_lx5 f_lx6 f_lx7 f_lx8 HBW1 HO
  go_upto_region 6 with (go_at_call 5; refine (CP.out _).mono ?_; rintro e w5 ⟨rfl, hw5⟩; obtain rfl := hw5.symm; clear CP)
  obtain ⟨w6, hw6⟩ : ∃ W, W = W2.alloc (.cells #[.int .i64 4, .int .i64 4, .int .i64 4, .int .i64 4, .int .i64 4, .int .i64 3, .int .i64 10, .int .i64 7, .int .i64 0] 34) := ⟨_, rfl⟩
  obtain ⟨eb, heb⟩ : ∃ b, b = W2.heap.size := ⟨_, rfl⟩
  have HBw6 : Hid (Below w.heap.size w w6) := by rw [hw6]; exact HB2.out.alloc (by omega) _
  have HE6 : Hid (w6.heap[eb]? = some (.cells #[.int .i64 4, .int .i64 4, .int .i64 4, .int .i64 4, .int .i64 4, .int .i64 3, .int .i64 10, .int .i64 7, .int .i64 0] 34)) := by rw [hw6]; exact aNew heb.symm
  have HO6 : Hid (w6.heap[w.heap.size]? = some (.cells #[.int .i64 1, .int .i64 2, .int .i64 1, .string ⟨#[]⟩, .string ⟨#[]⟩, .int .i64 0, .int .i64 0, .int .i64 0, .string ⟨#[]⟩, .slice none 0 0, .slice none 0 0] 29)) := by rw [hw6]; exact aOld HO2.out
  have HA6 : Hid (w6.heap[ax]? = some (.cells #[.slice (some ⟨lx0, 0, none⟩) 2 2, .slice (some ⟨lx1, 0, none⟩) 1 1, .slice (some ⟨lx2, 0, none⟩) 3 3, .slice (some ⟨lx3, 0, none⟩) 2 2, .slice (some ⟨lx4, 0, none⟩) 3 3, .slice (some ⟨lx5, 0, none⟩) 1 1, .slice (some ⟨lx6, 0, none⟩) 1 1, .slice (some ⟨lx7, 0, none⟩) 1 1, .slice (some ⟨lx8, 0, none⟩) 3 3] 27)) := by rw [hw6]; exact aOld F_ax.out
  have HX0 : Hid (w6.heap[lx0]? = some (.cells cll0 31)) := by rw [hw6]; exact aOld F_lx0.out
  have hl0 : lx0 < w6.heap.size := (Array.getElem?_eq_some_iff.1 HX0.out).1
  have HX1 : Hid (w6.heap[lx1]? = some (.cells cll1 31)) := by rw [hw6]; exact aOld F_lx1.out
  have hl1 : lx1 < w6.heap.size := (Array.getElem?_eq_some_iff.1 HX1.out).1
  have HX2 : Hid (w6.heap[lx2]? = some (.cells cll2 31)) := by rw [hw6]; exact aOld F_lx2.out
  have hl2 : lx2 < w6.heap.size := (Array.getElem?_eq_some_iff.1 HX2.out).1
  have HX3 : Hid (w6.heap[lx3]? = some (.cells cll3 31)) := by rw [hw6]; exact aOld F_lx3.out
  have hl3 : lx3 < w6.heap.size := (Array.getElem?_eq_some_iff.1 HX3.out).1
  have HX4 : Hid (w6.heap[lx4]? = some (.cells cll4 31)) := by rw [hw6]; exact aOld F_lx4.out
  have hl4 : lx4 < w6.heap.size := (Array.getElem?_eq_some_iff.1 HX4.out).1
  have HX5 : Hid (w6.heap[lx5]? = some (.cells cll5 31)) := by rw [hw6]; exact aOld F_lx5.out
  have hl5 : lx5 < w6.heap.size := (Array.getElem?_eq_some_iff.1 HX5.out).1
  have HX6 : Hid (w6.heap[lx6]? = some (.cells cll6 31)) := by rw [hw6]; exact aOld F_lx6.out
  have hl6 : lx6 < w6.heap.size := (Array.getElem?_eq_some_iff.1 HX6.out).1
  have HX7 : Hid (w6.heap[lx7]? = some (.cells cll7 31)) := by rw [hw6]; exact aOld F_lx7.out
  have hl7 : lx7 < w6.heap.size := (Array.getElem?_eq_some_iff.1 HX7.out).1
  have HX8 : Hid (w6.heap[lx8]? = some (.cells cll8 31)) := by rw [hw6]; exact aOld F_lx8.out
  have hl8 : lx8 < w6.heap.size := (Array.getElem?_eq_some_iff.1 HX8.out).1
  rw [← hw6, ← heb]
  have hax : ax < w6.heap.size := (Array.getElem?_eq_some_iff.1 HA6.out).1
  have heb6 : eb < w6.heap.size := (Array.getElem?_eq_some_iff.1 HE6.out).1
  have hz6 : w.heap.size < w6.heap.size := (Array.getElem?_eq_some_iff.1 HO6.out).1
  clear hw6 heb HB2 HO2 F_ax F_lx0 F_lx1 F_lx2 F_lx3 F_lx4 F_lx5 F_lx6 F_lx7 F_lx8 g0 hz1 p_ax p_lx0 p_lx1 p_lx2 p_lx3 p_lx4 p_lx5 p_lx6 p_lx7 p_lx8
  obtain rfl | rfl | rfl | rfl | rfl | rfl | rfl | rfl | rfl : r = 0 ∨ r = 1 ∨ r = 2 ∨ r = 3 ∨ r = 4 ∨ r = 5 ∨ r = 6 ∨ r = 7 ∨ r = 8 := by omega
  · have HL6 := HX0
    clear HX0 HX1 HX2 HX3 HX4 HX5 HX6 HX7 HX8
    refine wp_region_slots (by kernel_rfl) (fun j v W => (match j with | 0 => v = (.slice (some ⟨ax, 0, none⟩) 9 9) | 1 => v = (.int .i64 0) | 2 => v = (.pointer (some ⟨ax, 0, none⟩)) | 3 => v = (.slice (some ⟨lx0, 0, none⟩) 2 2) | 4 => v = (.agg #[.int .i64 1, .int .i64 2, .int .i64 1, .string ⟨#[]⟩, .string ⟨#[]⟩, .int .i64 0, .int .i64 0, .int .i64 0, .string ⟨#[]⟩, .slice none 0 0, .slice none 0 0]) | 7 => v = (.tuple #[.agg #[.int .i64 0, .int .i64 0, .int .i64 0, .string ⟨#[]⟩, .string ⟨#[]⟩, .string ⟨#[]⟩, .int .i64 0, .int .i64 0, .int .i64 0, .string ⟨#[]⟩, .slice none 0 0], .int .i64 4]) | 8 => v = (.tuple #[.agg #[.int .i64 0, .int .i64 0, .int .i64 0, .string ⟨#[]⟩, .string ⟨#[]⟩, .string ⟨#[]⟩, .int .i64 0, .int .i64 0, .int .i64 0, .string ⟨#[]⟩, .slice none 0 0], .int .i64 4]) | 9 => v = (.agg #[.int .i64 0, .int .i64 0, .int .i64 0, .string ⟨#[]⟩, .string ⟨#[]⟩, .string ⟨#[]⟩, .int .i64 0, .int .i64 0, .int .i64 0, .string ⟨#[]⟩, .slice none 0 0]) | 10 => v = (.int .i64 4) | 13 => v = (.int .i64 4) | _ => True) ∧ (j = 5 → ∃ n5 : Nat, v = (.slice (some ⟨n5, 0, none⟩) 1 1) ∧ w6.heap.size ≤ n5 ∧ W.heap[n5]? = some (.cells #[.int .i64 1, .int .i64 2, .int .i64 1, .string ⟨#[]⟩, .string ⟨#[]⟩, .int .i64 0, .int .i64 0, .int .i64 0, .string ⟨#[]⟩, .slice none 0 0, .slice none 0 0] 29)) ∧ (j = 6 → ∃ n5 : Nat, v = (.agg #[.int .i64 28, .int .i64 0, .int .i64 0, .string ⟨#[]⟩, .string ⟨#[]⟩, .int .i64 0, .int .i64 0, .int .i64 0, .string ⟨#[]⟩, .slice (some ⟨n5, 0, none⟩) 1 1, .slice (some ⟨lx0, 0, none⟩) 2 2]) ∧ w6.heap.size ≤ n5 ∧ W.heap[n5]? = some (.cells #[.int .i64 1, .int .i64 2, .int .i64 1, .string ⟨#[]⟩, .string ⟨#[]⟩, .int .i64 0, .int .i64 0, .int .i64 0, .string ⟨#[]⟩, .slice none 0 0, .slice none 0 0] 29))) (fun l a W => Below w.heap.size w W ∧ w6.heap.size ≤ W.heap.size ∧ W.heap[w.heap.size]? = some (.cells #[.int .i64 1, .int .i64 2, .int .i64 1, .string ⟨#[]⟩, .string ⟨#[]⟩, .int .i64 0, .int .i64 0, .int .i64 0, .string ⟨#[]⟩, .slice none 0 0, .slice none 0 0] 29) ∧ W.heap[ax]? = some (.cells #[.slice (some ⟨lx0, 0, none⟩) 2 2, .slice (some ⟨lx1, 0, none⟩) 1 1, .slice (some ⟨lx2, 0, none⟩) 3 3, .slice (some ⟨lx3, 0, none⟩) 2 2, .slice (some ⟨lx4, 0, none⟩) 3 3, .slice (some ⟨lx5, 0, none⟩) 1 1, .slice (some ⟨lx6, 0, none⟩) 1 1, .slice (some ⟨lx7, 0, none⟩) 1 1, .slice (some ⟨lx8, 0, none⟩) 3 3] 27) ∧ W.heap[lx0]? = some (.cells cll0 31) ∧ W.heap[eb]? = some (.cells #[.int .i64 4, .int .i64 4, .int .i64 4, .int .i64 4, .int .i64 4, .int .i64 3, .int .i64 10, .int .i64 7, .int .i64 0] 34) ∧ (l.getD 11 false = true → ∃ T11, a.tmps[8]? = some (.pointer (some ⟨T11, 0, none⟩)) ∧ w6.heap.size ≤ T11 ∧ (l.getD 12 false = false → W.heap[T11]? = some (.cells #[.int .i64 0, .int .i64 0, .int .i64 0, .string ⟨#[]⟩, .string ⟨#[]⟩, .string ⟨#[]⟩, .int .i64 0, .int .i64 0, .int .i64 0, .string ⟨#[]⟩, .slice none 0 0] 39)))) (by kernel_rfl) (by kernel_rfl) ⟨(HBw6.out).trans ⟨rfl, rfl, rfl, Nat.le_refl _, fun _ _ => rfl⟩, Nat.le_refl _, HO6.out, HA6.out, HL6.out, HE6.out, fun e7 => by rw [Array.getD_eq_getD_getElem?, Array.getElem?_replicate] at e7; split at e7 <;> cases e7⟩ ?_ ?_
    · intro l a W i o hsz h ho hl haf
      obtain ⟨g1, g0, b0, b1, b2, b3, q11⟩ := h.more
      have gz : w.heap.size ≤ W.heap.size := Nat.le_trans (by first | exact Nat.le_refl _ | omega) g0
      have hi : i < 14 := (Array.getElem?_eq_some_iff.1 ho).1
      obtain rfl | rfl | rfl | rfl | rfl | rfl | rfl | rfl | rfl | rfl | rfl | rfl | rfl | rfl : i = 0 ∨ i = 1 ∨ i = 2 ∨ i = 3 ∨ i = 4 ∨ i = 5 ∨ i = 6 ∨ i = 7 ∨ i = 8 ∨ i = 9 ∨ i = 10 ∨ i = 11 ∨ i = 12 ∨ i = 13 := by omega
      all_goals (obtain rfl := Option.some.inj ho; rw [if_pos (want_none rfl)])
      · have e5 := h.given 5 _ rfl (by kernel_rfl)
        refine wp_val (v := .slice (some ⟨ax, 0, none⟩) 9 9) (w' := W) ?_ ⟨_, rfl, ⟨rfl, fun e => absurd e (by decide), fun e => absurd e (by decide)⟩, fun _ _ h => h, g1, g0, b0, b1, b2, b3, (fun e7 => by rw [set_other_get (by decide)] at e7; obtain ⟨T, t1, t2, t3⟩ := q11 e7; exact ⟨T, (put_other (by decide)).trans t1, t2, fun e8 => (t3 ((set_other_get (show 0 ≠ 12 by decide)).symm.trans e8))⟩)⟩
        unfold execOp
        simp [e5, go_sem]
      · have e7 := h.given 7 _ rfl (by kernel_rfl)
        refine wp_val (v := .int .i64 0) (w' := W) ?_ ⟨_, rfl, ⟨rfl, fun e => absurd e (by decide), fun e => absurd e (by decide)⟩, fun _ _ h => h, g1, g0, b0, b1, b2, b3, (fun e7 => by rw [set_other_get (by decide)] at e7; obtain ⟨T, t1, t2, t3⟩ := q11 e7; exact ⟨T, (put_other (by decide)).trans t1, t2, fun e8 => (t3 ((set_other_get (show 1 ≠ 12 by decide)).symm.trans e8))⟩)⟩
        unfold execOp
        simp [e7, go_sem]
      · obtain ⟨u63, e63, x63⟩ := h.new 0 _ 63 rfl rfl (haf ⟨0, .data⟩ (by simp) rfl)
        have y63 : u63 = (.slice (some ⟨ax, 0, none⟩) 9 9) := x63.1
        subst y63
        obtain ⟨u64, e64, x64⟩ := h.new 1 _ 64 rfl rfl (haf ⟨1, .data⟩ (by simp) rfl)
        have y64 : u64 = (.int .i64 0) := x64.1
        subst y64
        refine wp_val (v := .pointer (some ⟨ax, 0, none⟩)) (w' := W) ?_ ⟨_, rfl, ⟨rfl, fun e => absurd e (by decide), fun e => absurd e (by decide)⟩, fun _ _ h => h, g1, g0, b0, b1, b2, b3, (fun e7 => by rw [set_other_get (by decide)] at e7; obtain ⟨T, t1, t2, t3⟩ := q11 e7; exact ⟨T, (put_other (by decide)).trans t1, t2, fun e8 => (t3 ((set_other_get (show 2 ≠ 12 by decide)).symm.trans e8))⟩)⟩
        unfold execOp
        simp [e63, e64, go_sem]
      · obtain ⟨u65, e65, x65⟩ := h.new 2 _ 65 rfl rfl (haf ⟨2, .data⟩ (by simp) rfl)
        have y65 : u65 = (.pointer (some ⟨ax, 0, none⟩)) := x65.1
        subst y65
        have c_ := b1
        have c0 := (Lib.cell_of_heap c_ 0).trans rfl
        refine wp_val (v := .slice (some ⟨lx0, 0, none⟩) 2 2) (w' := W) ?_ ⟨_, rfl, ⟨rfl, fun e => absurd e (by decide), fun e => absurd e (by decide)⟩, fun _ _ h => h, g1, g0, b0, b1, b2, b3, (fun e7 => by rw [set_other_get (by decide)] at e7; obtain ⟨T, t1, t2, t3⟩ := q11 e7; exact ⟨T, (put_other (by decide)).trans t1, t2, fun e8 => (t3 ((set_other_get (show 3 ≠ 12 by decide)).symm.trans e8))⟩)⟩
        unfold execOp
        simp [e65, c0, go_sem]
      · have e3 := h.given 3 _ rfl (by kernel_rfl)
        have c_ := b0
        obtain ⟨c0, c1, c2, c3, c4, c5, c6, c7, c8, c9, c10, _, _⟩ := bk11 c_
        refine wp_val (v := .agg #[.int .i64 1, .int .i64 2, .int .i64 1, .string ⟨#[]⟩, .string ⟨#[]⟩, .int .i64 0, .int .i64 0, .int .i64 0, .string ⟨#[]⟩, .slice none 0 0, .slice none 0 0]) (w' := W) ?_ ⟨_, rfl, ⟨rfl, fun e => absurd e (by decide), fun e => absurd e (by decide)⟩, fun _ _ h => h, g1, g0, b0, b1, b2, b3, (fun e7 => by rw [set_other_get (by decide)] at e7; obtain ⟨T, t1, t2, t3⟩ := q11 e7; exact ⟨T, (put_other (by decide)).trans t1, t2, fun e8 => (t3 ((set_other_get (show 4 ≠ 12 by decide)).symm.trans e8))⟩)⟩
        unfold execOp
        simp [e3, c0, c1, c2, c3, c4, c5, c6, c7, c8, c9, c10, go_sem]
      · obtain ⟨u67, e67, x67⟩ := h.new 4 _ 67 rfl rfl (haf ⟨4, .data⟩ (by simp) rfl)
        have y67 : u67 = (.agg #[.int .i64 1, .int .i64 2, .int .i64 1, .string ⟨#[]⟩, .string ⟨#[]⟩, .int .i64 0, .int .i64 0, .int .i64 0, .string ⟨#[]⟩, .slice none 0 0, .slice none 0 0]) := x67.1
        subst y67
        refine wp_val (v := .slice (some ⟨W.heap.size, 0, none⟩) 1 1) (w' := W.alloc (.cells #[.int .i64 1, .int .i64 2, .int .i64 1, .string ⟨#[]⟩, .string ⟨#[]⟩, .int .i64 0, .int .i64 0, .int .i64 0, .string ⟨#[]⟩, .slice none 0 0, .slice none 0 0] 29)) ?_ ⟨_, rfl, ⟨trivial, fun _ => ⟨W.heap.size, rfl, g0, aNew rfl⟩, fun e => absurd e (by decide)⟩, fun j u hd => ⟨hd.1, fun e => by obtain ⟨n5, ev, p_n5, f_n5⟩ := hd.2.1 e; exact ⟨n5, ev, p_n5, aOld f_n5⟩, fun e => by obtain ⟨n5, ev, p_n5, f_n5⟩ := hd.2.2 e; exact ⟨n5, ev, p_n5, aOld f_n5⟩⟩, g1.alloc gz _, by simp; omega, aOld b0, aOld b1, aOld b2, aOld b3, (fun e7 => by rw [set_other_get (by decide)] at e7; obtain ⟨T, t1, t2, t3⟩ := q11 e7; exact ⟨T, (put_other (by decide)).trans t1, t2, fun e8 => aOld (t3 ((set_other_get (show 5 ≠ 12 by decide)).symm.trans e8))⟩)⟩
        unfold execOp
        simp [e67, go_sem]
      · obtain ⟨u66, e66, x66⟩ := h.new 3 _ 66 rfl rfl (haf ⟨3, .data⟩ (by simp) rfl)
        have y66 : u66 = (.slice (some ⟨lx0, 0, none⟩) 2 2) := x66.1
        subst y66
        obtain ⟨u68, e68, x68⟩ := h.new 5 _ 68 rfl rfl (haf ⟨5, .data⟩ (by simp) rfl)
        obtain ⟨n5, rfl, p_n5, f_n5⟩ := x68.2.1 rfl
        refine wp_val (v := .agg #[.int .i64 28, .int .i64 0, .int .i64 0, .string ⟨#[]⟩, .string ⟨#[]⟩, .int .i64 0, .int .i64 0, .int .i64 0, .string ⟨#[]⟩, .slice (some ⟨n5, 0, none⟩) 1 1, .slice (some ⟨lx0, 0, none⟩) 2 2]) (w' := W) ?_ ⟨_, rfl, ⟨trivial, fun e => absurd e (by decide), fun _ => ⟨n5, rfl, p_n5, f_n5⟩⟩, fun _ _ h => h, g1, g0, b0, b1, b2, b3, (fun e7 => by rw [set_other_get (by decide)] at e7; obtain ⟨T, t1, t2, t3⟩ := q11 e7; exact ⟨T, (put_other (by decide)).trans t1, t2, fun e8 => (t3 ((set_other_get (show 6 ≠ 12 by decide)).symm.trans e8))⟩)⟩
        unfold execOp
        simp [e66, e68, go_sem]
      · obtain ⟨u69, e69, x69⟩ := h.new 6 _ 69 rfl rfl (haf ⟨6, .data⟩ (by simp) rfl)
        obtain ⟨n5, rfl, p_n5, f_n5⟩ := x69.2.2 rfl
        refine wp_enter (f := 6) (args := #[.agg #[.int .i64 28, .int .i64 0, .int .i64 0, .string ⟨#[]⟩, .string ⟨#[]⟩, .int .i64 0, .int .i64 0, .int .i64 0, .string ⟨#[]⟩, .slice (some ⟨n5, 0, none⟩) 1 1, .slice (some ⟨lx0, 0, none⟩) 2 2]]) (w' := W) ?_ ((low_0 n5 lx0 W b2).mono ?_)
        · unfold execOp
          simp [e69, go_sem]
        · rintro e W' ⟨rfl, hb⟩
          exact ⟨_, rfl, _, rfl, ⟨rfl, fun e => absurd e (by decide), fun e => absurd e (by decide)⟩, fun j u hd => ⟨hd.1, fun e => by obtain ⟨n5, ev, p_n5, f_n5⟩ := hd.2.1 e; exact ⟨n5, ev, p_n5, blK hb f_n5⟩, fun e => by obtain ⟨n5, ev, p_n5, f_n5⟩ := hd.2.2 e; exact ⟨n5, ev, p_n5, blK hb f_n5⟩⟩, g1.trans (hb.mono gz), Nat.le_trans g0 hb.size, blK hb b0, blK hb b1, blK hb b2, blK hb b3, (fun e7 => by rw [set_other_get (by decide)] at e7; obtain ⟨T, t1, t2, t3⟩ := q11 e7; exact ⟨T, (put_other (by decide)).trans t1, t2, fun e8 => blK hb ((t3 ((set_other_get (show 7 ≠ 12 by decide)).symm.trans e8)))⟩)⟩
      · obtain ⟨u70, e70, x70⟩ := h.new 7 _ 70 rfl rfl (haf ⟨7, .data⟩ (by simp) rfl)
        have y70 : u70 = (.tuple #[.agg #[.int .i64 0, .int .i64 0, .int .i64 0, .string ⟨#[]⟩, .string ⟨#[]⟩, .string ⟨#[]⟩, .int .i64 0, .int .i64 0, .int .i64 0, .string ⟨#[]⟩, .slice none 0 0], .int .i64 4]) := x70.1
        subst y70
        refine wp_val (v := .tuple #[.agg #[.int .i64 0, .int .i64 0, .int .i64 0, .string ⟨#[]⟩, .string ⟨#[]⟩, .string ⟨#[]⟩, .int .i64 0, .int .i64 0, .int .i64 0, .string ⟨#[]⟩, .slice none 0 0], .int .i64 4]) (w' := W) ?_ ⟨_, rfl, ⟨rfl, fun e => absurd e (by decide), fun e => absurd e (by decide)⟩, fun _ _ h => h, g1, g0, b0, b1, b2, b3, (fun e7 => by rw [set_other_get (by decide)] at e7; obtain ⟨T, t1, t2, t3⟩ := q11 e7; exact ⟨T, (put_other (by decide)).trans t1, t2, fun e8 => (t3 ((set_other_get (show 8 ≠ 12 by decide)).symm.trans e8))⟩)⟩
        unfold execOp
        simp [e70, go_sem]
      · obtain ⟨u62, e62, x62⟩ := h.new 8 _ 62 rfl rfl (haf ⟨8, .data⟩ (by simp) rfl)
        have y62 : u62 = (.tuple #[.agg #[.int .i64 0, .int .i64 0, .int .i64 0, .string ⟨#[]⟩, .string ⟨#[]⟩, .string ⟨#[]⟩, .int .i64 0, .int .i64 0, .int .i64 0, .string ⟨#[]⟩, .slice none 0 0], .int .i64 4]) := x62.1
        subst y62
        refine wp_val (v := .agg #[.int .i64 0, .int .i64 0, .int .i64 0, .string ⟨#[]⟩, .string ⟨#[]⟩, .string ⟨#[]⟩, .int .i64 0, .int .i64 0, .int .i64 0, .string ⟨#[]⟩, .slice none 0 0]) (w' := W) ?_ ⟨_, rfl, ⟨rfl, fun e => absurd e (by decide), fun e => absurd e (by decide)⟩, fun _ _ h => h, g1, g0, b0, b1, b2, b3, (fun e7 => by rw [set_other_get (by decide)] at e7; obtain ⟨T, t1, t2, t3⟩ := q11 e7; exact ⟨T, (put_other (by decide)).trans t1, t2, fun e8 => (t3 ((set_other_get (show 9 ≠ 12 by decide)).symm.trans e8))⟩)⟩
        unfold execOp
        simp [e62, go_sem]
      · obtain ⟨u62, e62, x62⟩ := h.new 8 _ 62 rfl rfl (haf ⟨8, .data⟩ (by simp) rfl)
        have y62 : u62 = (.tuple #[.agg #[.int .i64 0, .int .i64 0, .int .i64 0, .string ⟨#[]⟩, .string ⟨#[]⟩, .string ⟨#[]⟩, .int .i64 0, .int .i64 0, .int .i64 0, .string ⟨#[]⟩, .slice none 0 0], .int .i64 4]) := x62.1
        subst y62
        refine wp_val (v := .int .i64 4) (w' := W) ?_ ⟨_, rfl, ⟨rfl, fun e => absurd e (by decide), fun e => absurd e (by decide)⟩, fun _ _ h => h, g1, g0, b0, b1, b2, b3, (fun e7 => by rw [set_other_get (by decide)] at e7; obtain ⟨T, t1, t2, t3⟩ := q11 e7; exact ⟨T, (put_other (by decide)).trans t1, t2, fun e8 => (t3 ((set_other_get (show 10 ≠ 12 by decide)).symm.trans e8))⟩)⟩
        unfold execOp
        simp [e62, go_sem]
      · have m12 := h.later 12 11 _ ⟨11, .phase⟩ rfl (by simp) rfl rfl hl
        refine wp_val (v := .pointer (some ⟨W.heap.size, 0, none⟩)) (w' := W.alloc (.cells #[.int .i64 0, .int .i64 0, .int .i64 0, .string ⟨#[]⟩, .string ⟨#[]⟩, .string ⟨#[]⟩, .int .i64 0, .int .i64 0, .int .i64 0, .string ⟨#[]⟩, .slice none 0 0] 39)) ?_ ⟨_, rfl, ⟨trivial, fun e => absurd e (by decide), fun e => absurd e (by decide)⟩, fun j u hd => ⟨hd.1, fun e => by obtain ⟨n5, ev, p_n5, f_n5⟩ := hd.2.1 e; exact ⟨n5, ev, p_n5, aOld f_n5⟩, fun e => by obtain ⟨n5, ev, p_n5, f_n5⟩ := hd.2.2 e; exact ⟨n5, ev, p_n5, aOld f_n5⟩⟩, g1.alloc gz _, by simp; omega, aOld b0, aOld b1, aOld b2, aOld b3, (fun _ => ⟨W.heap.size, put_this (by rw [h.size]; exact (by decide : (8 : Nat) < 79)), g0, fun _ => aNew rfl⟩)⟩
        unfold execOp
        simp [go_sem]
      · obtain ⟨T11, t1_11, t2_11, t3_11⟩ := q11 (haf ⟨11, .phase⟩ (by simp) rfl)
        obtain ⟨u71, e71, x71⟩ := h.new 9 _ 71 rfl rfl (haf ⟨9, .phase⟩ (by simp) rfl)
        have y71 : u71 = (.agg #[.int .i64 0, .int .i64 0, .int .i64 0, .string ⟨#[]⟩, .string ⟨#[]⟩, .string ⟨#[]⟩, .int .i64 0, .int .i64 0, .int .i64 0, .string ⟨#[]⟩, .slice none 0 0]) := x71.1
        subst y71
        have m12 : l.getD 12 false = false := by rw [Array.getD_eq_getD_getElem?] at hl ⊢; cases hx : l[12]? with | none => rfl | some bb => rw [hx] at hl; exact hl
        have c_ := t3_11 m12
        obtain ⟨z0, z1, z2, z3, z4, z5, z6, z7, z8, z9, z10, zf, _⟩ := bk11 c_
        obtain ⟨W', hW'⟩ : ∃ V, V = (((((((((((W).setCell ⟨T11, 0, none⟩ (.int .i64 0)).setCell ⟨T11, 1, none⟩ (.int .i64 0)).setCell ⟨T11, 2, none⟩ (.int .i64 0)).setCell ⟨T11, 3, none⟩ (.string ⟨#[]⟩)).setCell ⟨T11, 4, none⟩ (.string ⟨#[]⟩)).setCell ⟨T11, 5, none⟩ (.string ⟨#[]⟩)).setCell ⟨T11, 6, none⟩ (.int .i64 0)).setCell ⟨T11, 7, none⟩ (.int .i64 0)).setCell ⟨T11, 8, none⟩ (.int .i64 0)).setCell ⟨T11, 9, none⟩ (.string ⟨#[]⟩)).setCell ⟨T11, 10, none⟩ (.slice none 0 0) := ⟨_, rfl⟩
        have hP : W' = putL W (T11) 0 [.int .i64 0, .int .i64 0, .int .i64 0, .string ⟨#[]⟩, .string ⟨#[]⟩, .string ⟨#[]⟩, .int .i64 0, .int .i64 0, .int .i64 0, .string ⟨#[]⟩, .slice none 0 0] := hW'
        refine wp_skip (w' := W') ?_ ⟨undef, rfl, ⟨trivial, fun e => absurd e (by decide), fun e => absurd e (by decide)⟩, fun j u hd => ⟨hd.1, fun e => by obtain ⟨n5, ev, p_n5, f_n5⟩ := hd.2.1 e; exact ⟨n5, ev, p_n5, (by rw [hP]; exact (putL_other (blk_ne c_ f_n5 (by decide)) _ _ _).trans (f_n5))⟩, fun e => by obtain ⟨n5, ev, p_n5, f_n5⟩ := hd.2.2 e; exact ⟨n5, ev, p_n5, (by rw [hP]; exact (putL_other (blk_ne c_ f_n5 (by decide)) _ _ _).trans (f_n5))⟩⟩, (by rw [hP]; exact putL_below (by omega) _ _ _ g1), Nat.le_trans g0 (by rw [hP]; exact (putL_below (B := 0) (w0 := W) (Nat.zero_le _) _ _ _ (Below.refl _ _)).size), (by rw [hP]; exact (putL_other (by omega) _ _ _).trans (b0)), (by rw [hP]; exact (putL_other (by omega) _ _ _).trans (b1)), (by rw [hP]; exact (putL_other (by omega) _ _ _).trans (b2)), (by rw [hP]; exact (putL_other (by omega) _ _ _).trans (b3)), (fun _ => ⟨T11, t1_11, t2_11, fun e8 => absurd ((set_this_get (i := 12) (n := 14) hsz (by decide)).symm.trans e8) (by decide)⟩)⟩
        rw [hW']
        clear hP hW'
        unfold execOp
        simp [t1_11, e71, z0, z1, z2, z3, z4, z5, z6, z7, z8, z9, z10, zf, go_sem]
      · obtain ⟨u72, e72, x72⟩ := h.new 10 _ 72 rfl rfl (haf ⟨10, .phase⟩ (by simp) rfl)
        have y72 : u72 = (.int .i64 4) := x72.1
        subst y72
        refine wp_val (v := .int .i64 4) (w' := W) ?_ ⟨_, rfl, ⟨rfl, fun e => absurd e (by decide), fun e => absurd e (by decide)⟩, fun _ _ h => h, g1, g0, b0, b1, b2, b3, (fun e7 => by rw [set_other_get (by decide)] at e7; obtain ⟨T, t1, t2, t3⟩ := q11 e7; exact ⟨T, (put_other (by decide)).trans t1, t2, fun e8 => (t3 ((set_other_get (show 13 ≠ 12 by decide)).symm.trans e8))⟩)⟩
        unfold execOp
        simp [e72, go_sem]
    · intro v W7 hv hs hg
      obtain ⟨g1, g0, b0, b1, b2, b3, q11⟩ := hg
      have d13 : v 13 = .int .i64 4 := (hv 13 _ 9 rfl rfl).1
      simp only [putAll, d13]
      have cE : W7.cell? ⟨eb, 0, none⟩ = some (.int .i64 4) := (Lib.cell_of_heap b3 0).trans rfl
      have HB7 := hidC g1
      clear hv hs d13 g1 g0 b0 b1 b2 b3 q11 HL6 HA6 HE6 HO6 HBw6
      go_wp2_with fail
      go_ret
      exact ⟨rfl, HB7.out⟩
  · have HL6 := HX1
    clear HX0 HX1 HX2 HX3 HX4 HX5 HX6 HX7 HX8
    refine wp_region_slots (by kernel_rfl) (fun j v W => (match j with | 0 => v = (.slice (some ⟨ax, 0, none⟩) 9 9) | 1 => v = (.int .i64 1) | 2 => v = (.pointer (some ⟨ax, 1, none⟩)) | 3 => v = (.slice (some ⟨lx1, 0, none⟩) 1 1) | 4 => v = (.agg #[.int .i64 1, .int .i64 2, .int .i64 1, .string ⟨#[]⟩, .string ⟨#[]⟩, .int .i64 0, .int .i64 0, .int .i64 0, .string ⟨#[]⟩, .slice none 0 0, .slice none 0 0]) | 7 => v = (.tuple #[.agg #[.int .i64 0, .int .i64 0, .int .i64 0, .string ⟨#[]⟩, .string ⟨#[]⟩, .string ⟨#[]⟩, .int .i64 0, .int .i64 0, .int .i64 0, .string ⟨#[]⟩, .slice none 0 0], .int .i64 4]) | 8 => v = (.tuple #[.agg #[.int .i64 0, .int .i64 0, .int .i64 0, .string ⟨#[]⟩, .string ⟨#[]⟩, .string ⟨#[]⟩, .int .i64 0, .int .i64 0, .int .i64 0, .string ⟨#[]⟩, .slice none 0 0], .int .i64 4]) | 9 => v = (.agg #[.int .i64 0, .int .i64 0, .int .i64 0, .string ⟨#[]⟩, .string ⟨#[]⟩, .string ⟨#[]⟩, .int .i64 0, .int .i64 0, .int .i64 0, .string ⟨#[]⟩, .slice none 0 0]) | 10 => v = (.int .i64 4) | 13 => v = (.int .i64 4) | _ => True) ∧ (j = 5 → ∃ n5 : Nat, v = (.slice (some ⟨n5, 0, none⟩) 1 1) ∧ w6.heap.size ≤ n5 ∧ W.heap[n5]? = some (.cells #[.int .i64 1, .int .i64 2, .int .i64 1, .string ⟨#[]⟩, .string ⟨#[]⟩, .int .i64 0, .int .i64 0, .int .i64 0, .string ⟨#[]⟩, .slice none 0 0, .slice none 0 0] 29)) ∧ (j = 6 → ∃ n5 : Nat, v = (.agg #[.int .i64 28, .int .i64 0, .int .i64 0, .string ⟨#[]⟩, .string ⟨#[]⟩, .int .i64 0, .int .i64 0, .int .i64 0, .string ⟨#[]⟩, .slice (some ⟨n5, 0, none⟩) 1 1, .slice (some ⟨lx1, 0, none⟩) 1 1]) ∧ w6.heap.size ≤ n5 ∧ W.heap[n5]? = some (.cells #[.int .i64 1, .int .i64 2, .int .i64 1, .string ⟨#[]⟩, .string ⟨#[]⟩, .int .i64 0, .int .i64 0, .int .i64 0, .string ⟨#[]⟩, .slice none 0 0, .slice none 0 0] 29))) (fun l a W => Below w.heap.size w W ∧ w6.heap.size ≤ W.heap.size ∧ W.heap[w.heap.size]? = some (.cells #[.int .i64 1, .int .i64 2, .int .i64 1, .string ⟨#[]⟩, .string ⟨#[]⟩, .int .i64 0, .int .i64 0, .int .i64 0, .string ⟨#[]⟩, .slice none 0 0, .slice none 0 0] 29) ∧ W.heap[ax]? = some (.cells #[.slice (some ⟨lx0, 0, none⟩) 2 2, .slice (some ⟨lx1, 0, none⟩) 1 1, .slice (some ⟨lx2, 0, none⟩) 3 3, .slice (some ⟨lx3, 0, none⟩) 2 2, .slice (some ⟨lx4, 0, none⟩) 3 3, .slice (some ⟨lx5, 0, none⟩) 1 1, .slice (some ⟨lx6, 0, none⟩) 1 1, .slice (some ⟨lx7, 0, none⟩) 1 1, .slice (some ⟨lx8, 0, none⟩) 3 3] 27) ∧ W.heap[lx1]? = some (.cells cll1 31) ∧ W.heap[eb]? = some (.cells #[.int .i64 4, .int .i64 4, .int .i64 4, .int .i64 4, .int .i64 4, .int .i64 3, .int .i64 10, .int .i64 7, .int .i64 0] 34) ∧ (l.getD 11 false = true → ∃ T11, a.tmps[8]? = some (.pointer (some ⟨T11, 0, none⟩)) ∧ w6.heap.size ≤ T11 ∧ (l.getD 12 false = false → W.heap[T11]? = some (.cells #[.int .i64 0, .int .i64 0, .int .i64 0, .string ⟨#[]⟩, .string ⟨#[]⟩, .string ⟨#[]⟩, .int .i64 0, .int .i64 0, .int .i64 0, .string ⟨#[]⟩, .slice none 0 0] 39)))) (by kernel_rfl) (by kernel_rfl) ⟨(HBw6.out).trans ⟨rfl, rfl, rfl, Nat.le_refl _, fun _ _ => rfl⟩, Nat.le_refl _, HO6.out, HA6.out, HL6.out, HE6.out, fun e7 => by rw [Array.getD_eq_getD_getElem?, Array.getElem?_replicate] at e7; split at e7 <;> cases e7⟩ ?_ ?_
    · intro l a W i o hsz h ho hl haf
      obtain ⟨g1, g0, b0, b1, b2, b3, q11⟩ := h.more
      have gz : w.heap.size ≤ W.heap.size := Nat.le_trans (by first | exact Nat.le_refl _ | omega) g0
      have hi : i < 14 := (Array.getElem?_eq_some_iff.1 ho).1
      obtain rfl | rfl | rfl | rfl | rfl | rfl | rfl | rfl | rfl | rfl | rfl | rfl | rfl | rfl : i = 0 ∨ i = 1 ∨ i = 2 ∨ i = 3 ∨ i = 4 ∨ i = 5 ∨ i = 6 ∨ i = 7 ∨ i = 8 ∨ i = 9 ∨ i = 10 ∨ i = 11 ∨ i = 12 ∨ i = 13 := by omega
      all_goals (obtain rfl := Option.some.inj ho; rw [if_pos (want_none rfl)])
      · have e5 := h.given 5 _ rfl (by kernel_rfl)
        refine wp_val (v := .slice (some ⟨ax, 0, none⟩) 9 9) (w' := W) ?_ ⟨_, rfl, ⟨rfl, fun e => absurd e (by decide), fun e => absurd e (by decide)⟩, fun _ _ h => h, g1, g0, b0, b1, b2, b3, (fun e7 => by rw [set_other_get (by decide)] at e7; obtain ⟨T, t1, t2, t3⟩ := q11 e7; exact ⟨T, (put_other (by decide)).trans t1, t2, fun e8 => (t3 ((set_other_get (show 0 ≠ 12 by decide)).symm.trans e8))⟩)⟩
        unfold execOp
        simp [e5, go_sem]
      · have e7 := h.given 7 _ rfl (by kernel_rfl)
        refine wp_val (v := .int .i64 1) (w' := W) ?_ ⟨_, rfl, ⟨rfl, fun e => absurd e (by decide), fun e => absurd e (by decide)⟩, fun _ _ h => h, g1, g0, b0, b1, b2, b3, (fun e7 => by rw [set_other_get (by decide)] at e7; obtain ⟨T, t1, t2, t3⟩ := q11 e7; exact ⟨T, (put_other (by decide)).trans t1, t2, fun e8 => (t3 ((set_other_get (show 1 ≠ 12 by decide)).symm.trans e8))⟩)⟩
        unfold execOp
        simp [e7, go_sem]
      · obtain ⟨u63, e63, x63⟩ := h.new 0 _ 63 rfl rfl (haf ⟨0, .data⟩ (by simp) rfl)
        have y63 : u63 = (.slice (some ⟨ax, 0, none⟩) 9 9) := x63.1
        subst y63
        obtain ⟨u64, e64, x64⟩ := h.new 1 _ 64 rfl rfl (haf ⟨1, .data⟩ (by simp) rfl)
        have y64 : u64 = (.int .i64 1) := x64.1
        subst y64
        refine wp_val (v := .pointer (some ⟨ax, 1, none⟩)) (w' := W) ?_ ⟨_, rfl, ⟨rfl, fun e => absurd e (by decide), fun e => absurd e (by decide)⟩, fun _ _ h => h, g1, g0, b0, b1, b2, b3, (fun e7 => by rw [set_other_get (by decide)] at e7; obtain ⟨T, t1, t2, t3⟩ := q11 e7; exact ⟨T, (put_other (by decide)).trans t1, t2, fun e8 => (t3 ((set_other_get (show 2 ≠ 12 by decide)).symm.trans e8))⟩)⟩
        unfold execOp
        simp [e63, e64, go_sem]
      · obtain ⟨u65, e65, x65⟩ := h.new 2 _ 65 rfl rfl (haf ⟨2, .data⟩ (by simp) rfl)
        have y65 : u65 = (.pointer (some ⟨ax, 1, none⟩)) := x65.1
        subst y65
        have c_ := b1
        have c0 := (Lib.cell_of_heap c_ 1).trans rfl
        refine wp_val (v := .slice (some ⟨lx1, 0, none⟩) 1 1) (w' := W) ?_ ⟨_, rfl, ⟨rfl, fun e => absurd e (by decide), fun e => absurd e (by decide)⟩, fun _ _ h => h, g1, g0, b0, b1, b2, b3, (fun e7 => by rw [set_other_get (by decide)] at e7; obtain ⟨T, t1, t2, t3⟩ := q11 e7; exact ⟨T, (put_other (by decide)).trans t1, t2, fun e8 => (t3 ((set_other_get (show 3 ≠ 12 by decide)).symm.trans e8))⟩)⟩
        unfold execOp
        simp [e65, c0, go_sem]
      · have e3 := h.given 3 _ rfl (by kernel_rfl)
        have c_ := b0
        obtain ⟨c0, c1, c2, c3, c4, c5, c6, c7, c8, c9, c10, _, _⟩ := bk11 c_
        refine wp_val (v := .agg #[.int .i64 1, .int .i64 2, .int .i64 1, .string ⟨#[]⟩, .string ⟨#[]⟩, .int .i64 0, .int .i64 0, .int .i64 0, .string ⟨#[]⟩, .slice none 0 0, .slice none 0 0]) (w' := W) ?_ ⟨_, rfl, ⟨rfl, fun e => absurd e (by decide), fun e => absurd e (by decide)⟩, fun _ _ h => h, g1, g0, b0, b1, b2, b3, (fun e7 => by rw [set_other_get (by decide)] at e7; obtain ⟨T, t1, t2, t3⟩ := q11 e7; exact ⟨T, (put_other (by decide)).trans t1, t2, fun e8 => (t3 ((set_other_get (show 4 ≠ 12 by decide)).symm.trans e8))⟩)⟩
        unfold execOp
        simp [e3, c0, c1, c2, c3, c4, c5, c6, c7, c8, c9, c10, go_sem]
      · obtain ⟨u67, e67, x67⟩ := h.new 4 _ 67 rfl rfl (haf ⟨4, .data⟩ (by simp) rfl)
        have y67 : u67 = (.agg #[.int .i64 1, .int .i64 2, .int .i64 1, .string ⟨#[]⟩, .string ⟨#[]⟩, .int .i64 0, .int .i64 0, .int .i64 0, .string ⟨#[]⟩, .slice none 0 0, .slice none 0 0]) := x67.1
        subst y67
        refine wp_val (v := .slice (some ⟨W.heap.size, 0, none⟩) 1 1) (w' := W.alloc (.cells #[.int .i64 1, .int .i64 2, .int .i64 1, .string ⟨#[]⟩, .string ⟨#[]⟩, .int .i64 0, .int .i64 0, .int .i64 0, .string ⟨#[]⟩, .slice none 0 0, .slice none 0 0] 29)) ?_ ⟨_, rfl, ⟨trivial, fun _ => ⟨W.heap.size, rfl, g0, aNew rfl⟩, fun e => absurd e (by decide)⟩, fun j u hd => ⟨hd.1, fun e => by obtain ⟨n5, ev, p_n5, f_n5⟩ := hd.2.1 e; exact ⟨n5, ev, p_n5, aOld f_n5⟩, fun e => by obtain ⟨n5, ev, p_n5, f_n5⟩ := hd.2.2 e; exact ⟨n5, ev, p_n5, aOld f_n5⟩⟩, g1.alloc gz _, by simp; omega, aOld b0, aOld b1, aOld b2, aOld b3, (fun e7 => by rw [set_other_get (by decide)] at e7; obtain ⟨T, t1, t2, t3⟩ := q11 e7; exact ⟨T, (put_other (by decide)).trans t1, t2, fun e8 => aOld (t3 ((set_other_get (show 5 ≠ 12 by decide)).symm.trans e8))⟩)⟩
        unfold execOp
        simp [e67, go_sem]
      · obtain ⟨u66, e66, x66⟩ := h.new 3 _ 66 rfl rfl (haf ⟨3, .data⟩ (by simp) rfl)
        have y66 : u66 = (.slice (some ⟨lx1, 0, none⟩) 1 1) := x66.1
        subst y66
        obtain ⟨u68, e68, x68⟩ := h.new 5 _ 68 rfl rfl (haf ⟨5, .data⟩ (by simp) rfl)
        obtain ⟨n5, rfl, p_n5, f_n5⟩ := x68.2.1 rfl
        refine wp_val (v := .agg #[.int .i64 28, .int .i64 0, .int .i64 0, .string ⟨#[]⟩, .string ⟨#[]⟩, .int .i64 0, .int .i64 0, .int .i64 0, .string ⟨#[]⟩, .slice (some ⟨n5, 0, none⟩) 1 1, .slice (some ⟨lx1, 0, none⟩) 1 1]) (w' := W) ?_ ⟨_, rfl, ⟨trivial, fun e => absurd e (by decide), fun _ => ⟨n5, rfl, p_n5, f_n5⟩⟩, fun _ _ h => h, g1, g0, b0, b1, b2, b3, (fun e7 => by rw [set_other_get (by decide)] at e7; obtain ⟨T, t1, t2, t3⟩ := q11 e7; exact ⟨T, (put_other (by decide)).trans t1, t2, fun e8 => (t3 ((set_other_get (show 6 ≠ 12 by decide)).symm.trans e8))⟩)⟩
        unfold execOp
        simp [e66, e68, go_sem]
      · obtain ⟨u69, e69, x69⟩ := h.new 6 _ 69 rfl rfl (haf ⟨6, .data⟩ (by simp) rfl)
        obtain ⟨n5, rfl, p_n5, f_n5⟩ := x69.2.2 rfl
        refine wp_enter (f := 6) (args := #[.agg #[.int .i64 28, .int .i64 0, .int .i64 0, .string ⟨#[]⟩, .string ⟨#[]⟩, .int .i64 0, .int .i64 0, .int .i64 0, .string ⟨#[]⟩, .slice (some ⟨n5, 0, none⟩) 1 1, .slice (some ⟨lx1, 0, none⟩) 1 1]]) (w' := W) ?_ ((low_1 n5 lx1 W b2).mono ?_)
        · unfold execOp
          simp [e69, go_sem]
        · rintro e W' ⟨rfl, hb⟩
          exact ⟨_, rfl, _, rfl, ⟨rfl, fun e => absurd e (by decide), fun e => absurd e (by decide)⟩, fun j u hd => ⟨hd.1, fun e => by obtain ⟨n5, ev, p_n5, f_n5⟩ := hd.2.1 e; exact ⟨n5, ev, p_n5, blK hb f_n5⟩, fun e => by obtain ⟨n5, ev, p_n5, f_n5⟩ := hd.2.2 e; exact ⟨n5, ev, p_n5, blK hb f_n5⟩⟩, g1.trans (hb.mono gz), Nat.le_trans g0 hb.size, blK hb b0, blK hb b1, blK hb b2, blK hb b3, (fun e7 => by rw [set_other_get (by decide)] at e7; obtain ⟨T, t1, t2, t3⟩ := q11 e7; exact ⟨T, (put_other (by decide)).trans t1, t2, fun e8 => blK hb ((t3 ((set_other_get (show 7 ≠ 12 by decide)).symm.trans e8)))⟩)⟩
      · obtain ⟨u70, e70, x70⟩ := h.new 7 _ 70 rfl rfl (haf ⟨7, .data⟩ (by simp) rfl)
        have y70 : u70 = (.tuple #[.agg #[.int .i64 0, .int .i64 0, .int .i64 0, .string ⟨#[]⟩, .string ⟨#[]⟩, .string ⟨#[]⟩, .int .i64 0, .int .i64 0, .int .i64 0, .string ⟨#[]⟩, .slice none 0 0], .int .i64 4]) := x70.1
        subst y70
        refine wp_val (v := .tuple #[.agg #[.int .i64 0, .int .i64 0, .int .i64 0, .string ⟨#[]⟩, .string ⟨#[]⟩, .string ⟨#[]⟩, .int .i64 0, .int .i64 0, .int .i64 0, .string ⟨#[]⟩, .slice none 0 0], .int .i64 4]) (w' := W) ?_ ⟨_, rfl, ⟨rfl, fun e => absurd e (by decide), fun e => absurd e (by decide)⟩, fun _ _ h => h, g1, g0, b0, b1, b2, b3, (fun e7 => by rw [set_other_get (by decide)] at e7; obtain ⟨T, t1, t2, t3⟩ := q11 e7; exact ⟨T, (put_other (by decide)).trans t1, t2, fun e8 => (t3 ((set_other_get (show 8 ≠ 12 by decide)).symm.trans e8))⟩)⟩
        unfold execOp
        simp [e70, go_sem]
      · obtain ⟨u62, e62, x62⟩ := h.new 8 _ 62 rfl rfl (haf ⟨8, .data⟩ (by simp) rfl)
        have y62 : u62 = (.tuple #[.agg #[.int .i64 0, .int .i64 0, .int .i64 0, .string ⟨#[]⟩, .string ⟨#[]⟩, .string ⟨#[]⟩, .int .i64 0, .int .i64 0, .int .i64 0, .string ⟨#[]⟩, .slice none 0 0], .int .i64 4]) := x62.1
        subst y62
        refine wp_val (v := .agg #[.int .i64 0, .int .i64 0, .int .i64 0, .string ⟨#[]⟩, .string ⟨#[]⟩, .string ⟨#[]⟩, .int .i64 0, .int .i64 0, .int .i64 0, .string ⟨#[]⟩, .slice none 0 0]) (w' := W) ?_ ⟨_, rfl, ⟨rfl, fun e => absurd e (by decide), fun e => absurd e (by decide)⟩, fun _ _ h => h, g1, g0, b0, b1, b2, b3, (fun e7 => by rw [set_other_get (by decide)] at e7; obtain ⟨T, t1, t2, t3⟩ := q11 e7; exact ⟨T, (put_other (by decide)).trans t1, t2, fun e8 => (t3 ((set_other_get (show 9 ≠ 12 by decide)).symm.trans e8))⟩)⟩
        unfold execOp
        simp [e62, go_sem]
      · obtain ⟨u62, e62, x62⟩ := h.new 8 _ 62 rfl rfl (haf ⟨8, .data⟩ (by simp) rfl)
        have y62 : u62 = (.tuple #[.agg #[.int .i64 0, .int .i64 0, .int .i64 0, .string ⟨#[]⟩, .string ⟨#[]⟩, .string ⟨#[]⟩, .int .i64 0, .int .i64 0, .int .i64 0, .string ⟨#[]⟩, .slice none 0 0], .int .i64 4]) := x62.1
        subst y62
        refine wp_val (v := .int .i64 4) (w' := W) ?_ ⟨_, rfl, ⟨rfl, fun e => absurd e (by decide), fun e => absurd e (by decide)⟩, fun _ _ h => h, g1, g0, b0, b1, b2, b3, (fun e7 => by rw [set_other_get (by decide)] at e7; obtain ⟨T, t1, t2, t3⟩ := q11 e7; exact ⟨T, (put_other (by decide)).trans t1, t2, fun e8 => (t3 ((set_other_get (show 10 ≠ 12 by decide)).symm.trans e8))⟩)⟩
        unfold execOp
        simp [e62, go_sem]
      · have m12 := h.later 12 11 _ ⟨11, .phase⟩ rfl (by simp) rfl rfl hl
        refine wp_val (v := .pointer (some ⟨W.heap.size, 0, none⟩)) (w' := W.alloc (.cells #[.int .i64 0, .int .i64 0, .int .i64 0, .string ⟨#[]⟩, .string ⟨#[]⟩, .string ⟨#[]⟩, .int .i64 0, .int .i64 0, .int .i64 0, .string ⟨#[]⟩, .slice none 0 0] 39)) ?_ ⟨_, rfl, ⟨trivial, fun e => absurd e (by decide), fun e => absurd e (by decide)⟩, fun j u hd => ⟨hd.1, fun e => by obtain ⟨n5, ev, p_n5, f_n5⟩ := hd.2.1 e; exact ⟨n5, ev, p_n5, aOld f_n5⟩, fun e => by obtain ⟨n5, ev, p_n5, f_n5⟩ := hd.2.2 e; exact ⟨n5, ev, p_n5, aOld f_n5⟩⟩, g1.alloc gz _, by simp; omega, aOld b0, aOld b1, aOld b2, aOld b3, (fun _ => ⟨W.heap.size, put_this (by rw [h.size]; exact (by decide : (8 : Nat) < 79)), g0, fun _ => aNew rfl⟩)⟩
        unfold execOp
        simp [go_sem]
      · obtain ⟨T11, t1_11, t2_11, t3_11⟩ := q11 (haf ⟨11, .phase⟩ (by simp) rfl)
        obtain ⟨u71, e71, x71⟩ := h.new 9 _ 71 rfl rfl (haf ⟨9, .phase⟩ (by simp) rfl)
        have y71 : u71 = (.agg #[.int .i64 0, .int .i64 0, .int .i64 0, .string ⟨#[]⟩, .string ⟨#[]⟩, .string ⟨#[]⟩, .int .i64 0, .int .i64 0, .int .i64 0, .string ⟨#[]⟩, .slice none 0 0]) := x71.1
        subst y71
        have m12 : l.getD 12 false = false := by rw [Array.getD_eq_getD_getElem?] at hl ⊢; cases hx : l[12]? with | none => rfl | some bb => rw [hx] at hl; exact hl
        have c_ := t3_11 m12
        obtain ⟨z0, z1, z2, z3, z4, z5, z6, z7, z8, z9, z10, zf, _⟩ := bk11 c_
        obtain ⟨W', hW'⟩ : ∃ V, V = (((((((((((W).setCell ⟨T11, 0, none⟩ (.int .i64 0)).setCell ⟨T11, 1, none⟩ (.int .i64 0)).setCell ⟨T11, 2, none⟩ (.int .i64 0)).setCell ⟨T11, 3, none⟩ (.string ⟨#[]⟩)).setCell ⟨T11, 4, none⟩ (.string ⟨#[]⟩)).setCell ⟨T11, 5, none⟩ (.string ⟨#[]⟩)).setCell ⟨T11, 6, none⟩ (.int .i64 0)).setCell ⟨T11, 7, none⟩ (.int .i64 0)).setCell ⟨T11, 8, none⟩ (.int .i64 0)).setCell ⟨T11, 9, none⟩ (.string ⟨#[]⟩)).setCell ⟨T11, 10, none⟩ (.slice none 0 0) := ⟨_, rfl⟩
        have hP : W' = putL W (T11) 0 [.int .i64 0, .int .i64 0, .int .i64 0, .string ⟨#[]⟩, .string ⟨#[]⟩, .string ⟨#[]⟩, .int .i64 0, .int .i64 0, .int .i64 0, .string ⟨#[]⟩, .slice none 0 0] := hW'
        refine wp_skip (w' := W') ?_ ⟨undef, rfl, ⟨trivial, fun e => absurd e (by decide), fun e => absurd e (by decide)⟩, fun j u hd => ⟨hd.1, fun e => by obtain ⟨n5, ev, p_n5, f_n5⟩ := hd.2.1 e; exact ⟨n5, ev, p_n5, (by rw [hP]; exact (putL_other (blk_ne c_ f_n5 (by decide)) _ _ _).trans (f_n5))⟩, fun e => by obtain ⟨n5, ev, p_n5, f_n5⟩ := hd.2.2 e; exact ⟨n5, ev, p_n5, (by rw [hP]; exact (putL_other (blk_ne c_ f_n5 (by decide)) _ _ _).trans (f_n5))⟩⟩, (by rw [hP]; exact putL_below (by omega) _ _ _ g1), Nat.le_trans g0 (by rw [hP]; exact (putL_below (B := 0) (w0 := W) (Nat.zero_le _) _ _ _ (Below.refl _ _)).size), (by rw [hP]; exact (putL_other (by omega) _ _ _).trans (b0)), (by rw [hP]; exact (putL_other (by omega) _ _ _).trans (b1)), (by rw [hP]; exact (putL_other (by omega) _ _ _).trans (b2)), (by rw [hP]; exact (putL_other (by omega) _ _ _).trans (b3)), (fun _ => ⟨T11, t1_11, t2_11, fun e8 => absurd ((set_this_get (i := 12) (n := 14) hsz (by decide)).symm.trans e8) (by decide)⟩)⟩
        rw [hW']
        clear hP hW'
        unfold execOp
        simp [t1_11, e71, z0, z1, z2, z3, z4, z5, z6, z7, z8, z9, z10, zf, go_sem]
      · obtain ⟨u72, e72, x72⟩ := h.new 10 _ 72 rfl rfl (haf ⟨10, .phase⟩ (by simp) rfl)
        have y72 : u72 = (.int .i64 4) := x72.1
        subst y72
        refine wp_val (v := .int .i64 4) (w' := W) ?_ ⟨_, rfl, ⟨rfl, fun e => absurd e (by decide), fun e => absurd e (by decide)⟩, fun _ _ h => h, g1, g0, b0, b1, b2, b3, (fun e7 => by rw [set_other_get (by decide)] at e7; obtain ⟨T, t1, t2, t3⟩ := q11 e7; exact ⟨T, (put_other (by decide)).trans t1, t2, fun e8 => (t3 ((set_other_get (show 13 ≠ 12 by decide)).symm.trans e8))⟩)⟩
        unfold execOp
        simp [e72, go_sem]
    · intro v W7 hv hs hg
      obtain ⟨g1, g0, b0, b1, b2, b3, q11⟩ := hg
      have d13 : v 13 = .int .i64 4 := (hv 13 _ 9 rfl rfl).1
      simp only [putAll, d13]
      have cE : W7.cell? ⟨eb, 1, none⟩ = some (.int .i64 4) := (Lib.cell_of_heap b3 1).trans rfl
      have HB7 := hidC g1
      clear hv hs d13 g1 g0 b0 b1 b2 b3 q11 HL6 HA6 HE6 HO6 HBw6
      go_wp2_with fail
      go_ret
      exact ⟨rfl, HB7.out⟩
  · have HL6 := HX2
    clear HX0 HX1 HX2 HX3 HX4 HX5 HX6 HX7 HX8
    refine wp_region_slots (by kernel_rfl) (fun j v W => (match j with | 0 => v = (.slice (some ⟨ax, 0, none⟩) 9 9) | 1 => v = (.int .i64 2) | 2 => v = (.pointer (some ⟨ax, 2, none⟩)) | 3 => v = (.slice (some ⟨lx2, 0, none⟩) 3 3) | 4 => v = (.agg #[.int .i64 1, .int .i64 2, .int .i64 1, .string ⟨#[]⟩, .string ⟨#[]⟩, .int .i64 0, .int .i64 0, .int .i64 0, .string ⟨#[]⟩, .slice none 0 0, .slice none 0 0]) | 7 => v = (.tuple #[.agg #[.int .i64 0, .int .i64 0, .int .i64 0, .string ⟨#[]⟩, .string ⟨#[]⟩, .string ⟨#[]⟩, .int .i64 0, .int .i64 0, .int .i64 0, .string ⟨#[]⟩, .slice none 0 0], .int .i64 4]) | 8 => v = (.tuple #[.agg #[.int .i64 0, .int .i64 0, .int .i64 0, .string ⟨#[]⟩, .string ⟨#[]⟩, .string ⟨#[]⟩, .int .i64 0, .int .i64 0, .int .i64 0, .string ⟨#[]⟩, .slice none 0 0], .int .i64 4]) | 9 => v = (.agg #[.int .i64 0, .int .i64 0, .int .i64 0, .string ⟨#[]⟩, .string ⟨#[]⟩, .string ⟨#[]⟩, .int .i64 0, .int .i64 0, .int .i64 0, .string ⟨#[]⟩, .slice none 0 0]) | 10 => v = (.int .i64 4) | 13 => v = (.int .i64 4) | _ => True) ∧ (j = 5 → ∃ n5 : Nat, v = (.slice (some ⟨n5, 0, none⟩) 1 1) ∧ w6.heap.size ≤ n5 ∧ W.heap[n5]? = some (.cells #[.int .i64 1, .int .i64 2, .int .i64 1, .string ⟨#[]⟩, .string ⟨#[]⟩, .int .i64 0, .int .i64 0, .int .i64 0, .string ⟨#[]⟩, .slice none 0 0, .slice none 0 0] 29)) ∧ (j = 6 → ∃ n5 : Nat, v = (.agg #[.int .i64 28, .int .i64 0, .int .i64 0, .string ⟨#[]⟩, .string ⟨#[]⟩, .int .i64 0, .int .i64 0, .int .i64 0, .string ⟨#[]⟩, .slice (some ⟨n5, 0, none⟩) 1 1, .slice (some ⟨lx2, 0, none⟩) 3 3]) ∧ w6.heap.size ≤ n5 ∧ W.heap[n5]? = some (.cells #[.int .i64 1, .int .i64 2, .int .i64 1, .string ⟨#[]⟩, .string ⟨#[]⟩, .int .i64 0, .int .i64 0, .int .i64 0, .string ⟨#[]⟩, .slice none 0 0, .slice none 0 0] 29))) (fun l a W => Below w.heap.size w W ∧ w6.heap.size ≤ W.heap.size ∧ W.heap[w.heap.size]? = some (.cells #[.int .i64 1, .int .i64 2, .int .i64 1, .string ⟨#[]⟩, .string ⟨#[]⟩, .int .i64 0, .int .i64 0, .int .i64 0, .string ⟨#[]⟩, .slice none 0 0, .slice none 0 0] 29) ∧ W.heap[ax]? = some (.cells #[.slice (some ⟨lx0, 0, none⟩) 2 2, .slice (some ⟨lx1, 0, none⟩) 1 1, .slice (some ⟨lx2, 0, none⟩) 3 3, .slice (some ⟨lx3, 0, none⟩) 2 2, .slice (some ⟨lx4, 0, none⟩) 3 3, .slice (some ⟨lx5, 0, none⟩) 1 1, .slice (some ⟨lx6, 0, none⟩) 1 1, .slice (some ⟨lx7, 0, none⟩) 1 1, .slice (some ⟨lx8, 0, none⟩) 3 3] 27) ∧ W.heap[lx2]? = some (.cells cll2 31) ∧ W.heap[eb]? = some (.cells #[.int .i64 4, .int .i64 4, .int .i64 4, .int .i64 4, .int .i64 4, .int .i64 3, .int .i64 10, .int .i64 7, .int .i64 0] 34) ∧ (l.getD 11 false = true → ∃ T11, a.tmps[8]? = some (.pointer (some ⟨T11, 0, none⟩)) ∧ w6.heap.size ≤ T11 ∧ (l.getD 12 false = false → W.heap[T11]? = some (.cells #[.int .i64 0, .int .i64 0, .int .i64 0, .string ⟨#[]⟩, .string ⟨#[]⟩, .string ⟨#[]⟩, .int .i64 0, .int .i64 0, .int .i64 0, .string ⟨#[]⟩, .slice none 0 0] 39)))) (by kernel_rfl) (by kernel_rfl) ⟨(HBw6.out).trans ⟨rfl, rfl, rfl, Nat.le_refl _, fun _ _ => rfl⟩, Nat.le_refl _, HO6.out, HA6.out, HL6.out, HE6.out, fun e7 => by rw [Array.getD_eq_getD_getElem?, Array.getElem?_replicate] at e7; split at e7 <;> cases e7⟩ ?_ ?_
    · intro l a W i o hsz h ho hl haf
      obtain ⟨g1, g0, b0, b1, b2, b3, q11⟩ := h.more
      have gz : w.heap.size ≤ W.heap.size := Nat.le_trans (by first | exact Nat.le_refl _ | omega) g0
      have hi : i < 14 := (Array.getElem?_eq_some_iff.1 ho).1
      obtain rfl | rfl | rfl | rfl | rfl | rfl | rfl | rfl | rfl | rfl | rfl | rfl | rfl | rfl : i = 0 ∨ i = 1 ∨ i = 2 ∨ i = 3 ∨ i = 4 ∨ i = 5 ∨ i = 6 ∨ i = 7 ∨ i = 8 ∨ i = 9 ∨ i = 10 ∨ i = 11 ∨ i = 12 ∨ i = 13 := by omega
      all_goals (obtain rfl := Option.some.inj ho; rw [if_pos (want_none rfl)])
      · have e5 := h.given 5 _ rfl (by kernel_rfl)
        refine wp_val (v := .slice (some ⟨ax, 0, none⟩) 9 9) (w' := W) ?_ ⟨_, rfl, ⟨rfl, fun e => absurd e (by decide), fun e => absurd e (by decide)⟩, fun _ _ h => h, g1, g0, b0, b1, b2, b3, (fun e7 => by rw [set_other_get (by decide)] at e7; obtain ⟨T, t1, t2, t3⟩ := q11 e7; exact ⟨T, (put_other (by decide)).trans t1, t2, fun e8 => (t3 ((set_other_get (show 0 ≠ 12 by decide)).symm.trans e8))⟩)⟩
        unfold execOp
        simp [e5, go_sem]
      · have e7 := h.given 7 _ rfl (by kernel_rfl)
        refine wp_val (v := .int .i64 2) (w' := W) ?_ ⟨_, rfl, ⟨rfl, fun e => absurd e (by decide), fun e => absurd e (by decide)⟩, fun _ _ h => h, g1, g0, b0, b1, b2, b3, (fun e7 => by rw [set_other_get (by decide)] at e7; obtain ⟨T, t1, t2, t3⟩ := q11 e7; exact ⟨T, (put_other (by decide)).trans t1, t2, fun e8 => (t3 ((set_other_get (show 1 ≠ 12 by decide)).symm.trans e8))⟩)⟩
        unfold execOp
        simp [e7, go_sem]
      · obtain ⟨u63, e63, x63⟩ := h.new 0 _ 63 rfl rfl (haf ⟨0, .data⟩ (by simp) rfl)
        have y63 : u63 = (.slice (some ⟨ax, 0, none⟩) 9 9) := x63.1
        subst y63
        obtain ⟨u64, e64, x64⟩ := h.new 1 _ 64 rfl rfl (haf ⟨1, .data⟩ (by simp) rfl)
        have y64 : u64 = (.int .i64 2) := x64.1
        subst y64
        refine wp_val (v := .pointer (some ⟨ax, 2, none⟩)) (w' := W) ?_ ⟨_, rfl, ⟨rfl, fun e => absurd e (by decide), fun e => absurd e (by decide)⟩, fun _ _ h => h, g1, g0, b0, b1, b2, b3, (fun e7 => by rw [set_other_get (by decide)] at e7; obtain ⟨T, t1, t2, t3⟩ := q11 e7; exact ⟨T, (put_other (by decide)).trans t1, t2, fun e8 => (t3 ((set_other_get (show 2 ≠ 12 by decide)).symm.trans e8))⟩)⟩
        unfold execOp
        simp [e63, e64, go_sem]
      · obtain ⟨u65, e65, x65⟩ := h.new 2 _ 65 rfl rfl (haf ⟨2, .data⟩ (by simp) rfl)
        have y65 : u65 = (.pointer (some ⟨ax, 2, none⟩)) := x65.1
        subst y65
        have c_ := b1
        have c0 := (Lib.cell_of_heap c_ 2).trans rfl
        refine wp_val (v := .slice (some ⟨lx2, 0, none⟩) 3 3) (w' := W) ?_ ⟨_, rfl, ⟨rfl, fun e => absurd e (by decide), fun e => absurd e (by decide)⟩, fun _ _ h => h, g1, g0, b0, b1, b2, b3, (fun e7 => by rw [set_other_get (by decide)] at e7; obtain ⟨T, t1, t2, t3⟩ := q11 e7; exact ⟨T, (put_other (by decide)).trans t1, t2, fun e8 => (t3 ((set_other_get (show 3 ≠ 12 by decide)).symm.trans e8))⟩)⟩
        unfold execOp
        simp [e65, c0, go_sem]
      · have e3 := h.given 3 _ rfl (by kernel_rfl)
        have c_ := b0
        obtain ⟨c0, c1, c2, c3, c4, c5, c6, c7, c8, c9, c10, _, _⟩ := bk11 c_
        refine wp_val (v := .agg #[.int .i64 1, .int .i64 2, .int .i64 1, .string ⟨#[]⟩, .string ⟨#[]⟩, .int .i64 0, .int .i64 0, .int .i64 0, .string ⟨#[]⟩, .slice none 0 0, .slice none 0 0]) (w' := W) ?_ ⟨_, rfl, ⟨rfl, fun e => absurd e (by decide), fun e => absurd e (by decide)⟩, fun _ _ h => h, g1, g0, b0, b1, b2, b3, (fun e7 => by rw [set_other_get (by decide)] at e7; obtain ⟨T, t1, t2, t3⟩ := q11 e7; exact ⟨T, (put_other (by decide)).trans t1, t2, fun e8 => (t3 ((set_other_get (show 4 ≠ 12 by decide)).symm.trans e8))⟩)⟩
        unfold execOp
        simp [e3, c0, c1, c2, c3, c4, c5, c6, c7, c8, c9, c10, go_sem]
      · obtain ⟨u67, e67, x67⟩ := h.new 4 _ 67 rfl rfl (haf ⟨4, .data⟩ (by simp) rfl)
        have y67 : u67 = (.agg #[.int .i64 1, .int .i64 2, .int .i64 1, .string ⟨#[]⟩, .string ⟨#[]⟩, .int .i64 0, .int .i64 0, .int .i64 0, .string ⟨#[]⟩, .slice none 0 0, .slice none 0 0]) := x67.1
        subst y67
        refine wp_val (v := .slice (some ⟨W.heap.size, 0, none⟩) 1 1) (w' := W.alloc (.cells #[.int .i64 1, .int .i64 2, .int .i64 1, .string ⟨#[]⟩, .string ⟨#[]⟩, .int .i64 0, .int .i64 0, .int .i64 0, .string ⟨#[]⟩, .slice none 0 0, .slice none 0 0] 29)) ?_ ⟨_, rfl, ⟨trivial, fun _ => ⟨W.heap.size, rfl, g0, aNew rfl⟩, fun e => absurd e (by decide)⟩, fun j u hd => ⟨hd.1, fun e => by obtain ⟨n5, ev, p_n5, f_n5⟩ := hd.2.1 e; exact ⟨n5, ev, p_n5, aOld f_n5⟩, fun e => by obtain ⟨n5, ev, p_n5, f_n5⟩ := hd.2.2 e; exact ⟨n5, ev, p_n5, aOld f_n5⟩⟩, g1.alloc gz _, by simp; omega, aOld b0, aOld b1, aOld b2, aOld b3, (fun e7 => by rw [set_other_get (by decide)] at e7; obtain ⟨T, t1, t2, t3⟩ := q11 e7; exact ⟨T, (put_other (by decide)).trans t1, t2, fun e8 => aOld (t3 ((set_other_get (show 5 ≠ 12 by decide)).symm.trans e8))⟩)⟩
        unfold execOp
        simp [e67, go_sem]
      · obtain ⟨u66, e66, x66⟩ := h.new 3 _ 66 rfl rfl (haf ⟨3, .data⟩ (by simp) rfl)
        have y66 : u66 = (.slice (some ⟨lx2, 0, none⟩) 3 3) := x66.1
        subst y66
        obtain ⟨u68, e68, x68⟩ := h.new 5 _ 68 rfl rfl (haf ⟨5, .data⟩ (by simp) rfl)
        obtain ⟨n5, rfl, p_n5, f_n5⟩ := x68.2.1 rfl
        refine wp_val (v := .agg #[.int .i64 28, .int .i64 0, .int .i64 0, .string ⟨#[]⟩, .string ⟨#[]⟩, .int .i64 0, .int .i64 0, .int .i64 0, .string ⟨#[]⟩, .slice (some ⟨n5, 0, none⟩) 1 1, .slice (some ⟨lx2, 0, none⟩) 3 3]) (w' := W) ?_ ⟨_, rfl, ⟨trivial, fun e => absurd e (by decide), fun _ => ⟨n5, rfl, p_n5, f_n5⟩⟩, fun _ _ h => h, g1, g0, b0, b1, b2, b3, (fun e7 => by rw [set_other_get (by decide)] at e7; obtain ⟨T, t1, t2, t3⟩ := q11 e7; exact ⟨T, (put_other (by decide)).trans t1, t2, fun e8 => (t3 ((set_other_get (show 6 ≠ 12 by decide)).symm.trans e8))⟩)⟩
        unfold execOp
        simp [e66, e68, go_sem]
      · obtain ⟨u69, e69, x69⟩ := h.new 6 _ 69 rfl rfl (haf ⟨6, .data⟩ (by simp) rfl)
        obtain ⟨n5, rfl, p_n5, f_n5⟩ := x69.2.2 rfl
        refine wp_enter (f := 6) (args := #[.agg #[.int .i64 28, .int .i64 0, .int .i64 0, .string ⟨#[]⟩, .string ⟨#[]⟩, .int .i64 0, .int .i64 0, .int .i64 0, .string ⟨#[]⟩, .slice (some ⟨n5, 0, none⟩) 1 1, .slice (some ⟨lx2, 0, none⟩) 3 3]]) (w' := W) ?_ ((low_2 n5 lx2 W b2).mono ?_)
        · unfold execOp
          simp [e69, go_sem]
        · rintro e W' ⟨rfl, hb⟩
          exact ⟨_, rfl, _, rfl, ⟨rfl, fun e => absurd e (by decide), fun e => absurd e (by decide)⟩, fun j u hd => ⟨hd.1, fun e => by obtain ⟨n5, ev, p_n5, f_n5⟩ := hd.2.1 e; exact ⟨n5, ev, p_n5, blK hb f_n5⟩, fun e => by obtain ⟨n5, ev, p_n5, f_n5⟩ := hd.2.2 e; exact ⟨n5, ev, p_n5, blK hb f_n5⟩⟩, g1.trans (hb.mono gz), Nat.le_trans g0 hb.size, blK hb b0, blK hb b1, blK hb b2, blK hb b3, (fun e7 => by rw [set_other_get (by decide)] at e7; obtain ⟨T, t1, t2, t3⟩ := q11 e7; exact ⟨T, (put_other (by decide)).trans t1, t2, fun e8 => blK hb ((t3 ((set_other_get (show 7 ≠ 12 by decide)).symm.trans e8)))⟩)⟩
      · obtain ⟨u70, e70, x70⟩ := h.new 7 _ 70 rfl rfl (haf ⟨7, .data⟩ (by simp) rfl)
        have y70 : u70 = (.tuple #[.agg #[.int .i64 0, .int .i64 0, .int .i64 0, .string ⟨#[]⟩, .string ⟨#[]⟩, .string ⟨#[]⟩, .int .i64 0, .int .i64 0, .int .i64 0, .string ⟨#[]⟩, .slice none 0 0], .int .i64 4]) := x70.1
        subst y70
        refine wp_val (v := .tuple #[.agg #[.int .i64 0, .int .i64 0, .int .i64 0, .string ⟨#[]⟩, .string ⟨#[]⟩, .string ⟨#[]⟩, .int .i64 0, .int .i64 0, .int .i64 0, .string ⟨#[]⟩, .slice none 0 0], .int .i64 4]) (w' := W) ?_ ⟨_, rfl, ⟨rfl, fun e => absurd e (by decide), fun e => absurd e (by decide)⟩, fun _ _ h => h, g1, g0, b0, b1, b2, b3, (fun e7 => by rw [set_other_get (by decide)] at e7; obtain ⟨T, t1, t2, t3⟩ := q11 e7; exact ⟨T, (put_other (by decide)).trans t1, t2, fun e8 => (t3 ((set_other_get (show 8 ≠ 12 by decide)).symm.trans e8))⟩)⟩
        unfold execOp
        simp [e70, go_sem]
      · obtain ⟨u62, e62, x62⟩ := h.new 8 _ 62 rfl rfl (haf ⟨8, .data⟩ (by simp) rfl)
        have y62 : u62 = (.tuple #[.agg #[.int .i64 0, .int .i64 0, .int .i64 0, .string ⟨#[]⟩, .string ⟨#[]⟩, .string ⟨#[]⟩, .int .i64 0, .int .i64 0, .int .i64 0, .string ⟨#[]⟩, .slice none 0 0], .int .i64 4]) := x62.1
        subst y62
        refine wp_val (v := .agg #[.int .i64 0, .int .i64 0, .int .i64 0, .string ⟨#[]⟩, .string ⟨#[]⟩, .string ⟨#[]⟩, .int .i64 0, .int .i64 0, .int .i64 0, .string ⟨#[]⟩, .slice none 0 0]) (w' := W) ?_ ⟨_, rfl, ⟨rfl, fun e => absurd e (by decide), fun e => absurd e (by decide)⟩, fun _ _ h => h, g1, g0, b0, b1, b2, b3, (fun e7 => by rw [set_other_get (by decide)] at e7; obtain ⟨T, t1, t2, t3⟩ := q11 e7; exact ⟨T, (put_other (by decide)).trans t1, t2, fun e8 => (t3 ((set_other_get (show 9 ≠ 12 by decide)).symm.trans e8))⟩)⟩
        unfold execOp
        simp [e62, go_sem]
      · obtain ⟨u62, e62, x62⟩ := h.new 8 _ 62 rfl rfl (haf ⟨8, .data⟩ (by simp) rfl)
        have y62 : u62 = (.tuple #[.agg #[.int .i64 0, .int .i64 0, .int .i64 0, .string ⟨#[]⟩, .string ⟨#[]⟩, .string ⟨#[]⟩, .int .i64 0, .int .i64 0, .int .i64 0, .string ⟨#[]⟩, .slice none 0 0], .int .i64 4]) := x62.1
        subst y62
        refine wp_val (v := .int .i64 4) (w' := W) ?_ ⟨_, rfl, ⟨rfl, fun e => absurd e (by decide), fun e => absurd e (by decide)⟩, fun _ _ h => h, g1, g0, b0, b1, b2, b3, (fun e7 => by rw [set_other_get (by decide)] at e7; obtain ⟨T, t1, t2, t3⟩ := q11 e7; exact ⟨T, (put_other (by decide)).trans t1, t2, fun e8 => (t3 ((set_other_get (show 10 ≠ 12 by decide)).symm.trans e8))⟩)⟩
        unfold execOp
        simp [e62, go_sem]
      · have m12 := h.later 12 11 _ ⟨11, .phase⟩ rfl (by simp) rfl rfl hl
        refine wp_val (v := .pointer (some ⟨W.heap.size, 0, none⟩)) (w' := W.alloc (.cells #[.int .i64 0, .int .i64 0, .int .i64 0, .string ⟨#[]⟩, .string ⟨#[]⟩, .string ⟨#[]⟩, .int .i64 0, .int .i64 0, .int .i64 0, .string ⟨#[]⟩, .slice none 0 0] 39)) ?_ ⟨_, rfl, ⟨trivial, fun e => absurd e (by decide), fun e => absurd e (by decide)⟩, fun j u hd => ⟨hd.1, fun e => by obtain ⟨n5, ev, p_n5, f_n5⟩ := hd.2.1 e; exact ⟨n5, ev, p_n5, aOld f_n5⟩, fun e => by obtain ⟨n5, ev, p_n5, f_n5⟩ := hd.2.2 e; exact ⟨n5, ev, p_n5, aOld f_n5⟩⟩, g1.alloc gz _, by simp; omega, aOld b0, aOld b1, aOld b2, aOld b3, (fun _ => ⟨W.heap.size, put_this (by rw [h.size]; exact (by decide : (8 : Nat) < 79)), g0, fun _ => aNew rfl⟩)⟩
        unfold execOp
        simp [go_sem]
      · obtain ⟨T11, t1_11, t2_11, t3_11⟩ := q11 (haf ⟨11, .phase⟩ (by simp) rfl)
        obtain ⟨u71, e71, x71⟩ := h.new 9 _ 71 rfl rfl (haf ⟨9, .phase⟩ (by simp) rfl)
        have y71 : u71 = (.agg #[.int .i64 0, .int .i64 0, .int .i64 0, .string ⟨#[]⟩, .string ⟨#[]⟩, .string ⟨#[]⟩, .int .i64 0, .int .i64 0, .int .i64 0, .string ⟨#[]⟩, .slice none 0 0]) := x71.1
        subst y71
        have m12 : l.getD 12 false = false := by rw [Array.getD_eq_getD_getElem?] at hl ⊢; cases hx : l[12]? with | none => rfl | some bb => rw [hx] at hl; exact hl
        have c_ := t3_11 m12
        obtain ⟨z0, z1, z2, z3, z4, z5, z6, z7, z8, z9, z10, zf, _⟩ := bk11 c_
        obtain ⟨W', hW'⟩ : ∃ V, V = (((((((((((W).setCell ⟨T11, 0, none⟩ (.int .i64 0)).setCell ⟨T11, 1, none⟩ (.int .i64 0)).setCell ⟨T11, 2, none⟩ (.int .i64 0)).setCell ⟨T11, 3, none⟩ (.string ⟨#[]⟩)).setCell ⟨T11, 4, none⟩ (.string ⟨#[]⟩)).setCell ⟨T11, 5, none⟩ (.string ⟨#[]⟩)).setCell ⟨T11, 6, none⟩ (.int .i64 0)).setCell ⟨T11, 7, none⟩ (.int .i64 0)).setCell ⟨T11, 8, none⟩ (.int .i64 0)).setCell ⟨T11, 9, none⟩ (.string ⟨#[]⟩)).setCell ⟨T11, 10, none⟩ (.slice none 0 0) := ⟨_, rfl⟩
        have hP : W' = putL W (T11) 0 [.int .i64 0, .int .i64 0, .int .i64 0, .string ⟨#[]⟩, .string ⟨#[]⟩, .string ⟨#[]⟩, .int .i64 0, .int .i64 0, .int .i64 0, .string ⟨#[]⟩, .slice none 0 0] := hW'
        refine wp_skip (w' := W') ?_ ⟨undef, rfl, ⟨trivial, fun e => absurd e (by decide), fun e => absurd e (by decide)⟩, fun j u hd => ⟨hd.1, fun e => by obtain ⟨n5, ev, p_n5, f_n5⟩ := hd.2.1 e; exact ⟨n5, ev, p_n5, (by rw [hP]; exact (putL_other (blk_ne c_ f_n5 (by decide)) _ _ _).trans (f_n5))⟩, fun e => by obtain ⟨n5, ev, p_n5, f_n5⟩ := hd.2.2 e; exact ⟨n5, ev, p_n5, (by rw [hP]; exact (putL_other (blk_ne c_ f_n5 (by decide)) _ _ _).trans (f_n5))⟩⟩, (by rw [hP]; exact putL_below (by omega) _ _ _ g1), Nat.le_trans g0 (by rw [hP]; exact (putL_below (B := 0) (w0 := W) (Nat.zero_le _) _ _ _ (Below.refl _ _)).size), (by rw [hP]; exact (putL_other (by omega) _ _ _).trans (b0)), (by rw [hP]; exact (putL_other (by omega) _ _ _).trans (b1)), (by rw [hP]; exact (putL_other (by omega) _ _ _).trans (b2)), (by rw [hP]; exact (putL_other (by omega) _ _ _).trans (b3)), (fun _ => ⟨T11, t1_11, t2_11, fun e8 => absurd ((set_this_get (i := 12) (n := 14) hsz (by decide)).symm.trans e8) (by decide)⟩)⟩
        rw [hW']
        clear hP hW'
        unfold execOp
        simp [t1_11, e71, z0, z1, z2, z3, z4, z5, z6, z7, z8, z9, z10, zf, go_sem]
      · obtain ⟨u72, e72, x72⟩ := h.new 10 _ 72 rfl rfl (haf ⟨10, .phase⟩ (by simp) rfl)
        have y72 : u72 = (.int .i64 4) := x72.1
        subst y72
        refine wp_val (v := .int .i64 4) (w' := W) ?_ ⟨_, rfl, ⟨rfl, fun e => absurd e (by decide), fun e => absurd e (by decide)⟩, fun _ _ h => h, g1, g0, b0, b1, b2, b3, (fun e7 => by rw [set_other_get (by decide)] at e7; obtain ⟨T, t1, t2, t3⟩ := q11 e7; exact ⟨T, (put_other (by decide)).trans t1, t2, fun e8 => (t3 ((set_other_get (show 13 ≠ 12 by decide)).symm.trans e8))⟩)⟩
        unfold execOp
        simp [e72, go_sem]
    · intro v W7 hv hs hg
      obtain ⟨g1, g0, b0, b1, b2, b3, q11⟩ := hg
      have d13 : v 13 = .int .i64 4 := (hv 13 _ 9 rfl rfl).1
      simp only [putAll, d13]
      have cE : W7.cell? ⟨eb, 2, none⟩ = some (.int .i64 4) := (Lib.cell_of_heap b3 2).trans rfl
      have HB7 := hidC g1
      clear hv hs d13 g1 g0 b0 b1 b2 b3 q11 HL6 HA6 HE6 HO6 HBw6
      go_wp2_with fail
      go_ret
      exact ⟨rfl, HB7.out⟩
  · have HL6 := HX3
    clear HX0 HX1 HX2 HX3 HX4 HX5 HX6 HX7 HX8
    refine wp_region_slots (by kernel_rfl) (fun j v W => (match j with | 0 => v = (.slice (some ⟨ax, 0, none⟩) 9 9) | 1 => v = (.int .i64 3) | 2 => v = (.pointer (some ⟨ax, 3, none⟩)) | 3 => v = (.slice (some ⟨lx3, 0, none⟩) 2 2) | 4 => v = (.agg #[.int .i64 1, .int .i64 2, .int .i64 1, .string ⟨#[]⟩, .string ⟨#[]⟩, .int .i64 0, .int .i64 0, .int .i64 0, .string ⟨#[]⟩, .slice none 0 0, .slice none 0 0]) | 7 => v = (.tuple #[.agg #[.int .i64 0, .int .i64 0, .int .i64 0, .string ⟨#[]⟩, .string ⟨#[]⟩, .string ⟨#[]⟩, .int .i64 0, .int .i64 0, .int .i64 0, .string ⟨#[]⟩, .slice none 0 0], .int .i64 4]) | 8 => v = (.tuple #[.agg #[.int .i64 0, .int .i64 0, .int .i64 0, .string ⟨#[]⟩, .string ⟨#[]⟩, .string ⟨#[]⟩, .int .i64 0, .int .i64 0, .int .i64 0, .string ⟨#[]⟩, .slice none 0 0], .int .i64 4]) | 9 => v = (.agg #[.int .i64 0, .int .i64 0, .int .i64 0, .string ⟨#[]⟩, .string ⟨#[]⟩, .string ⟨#[]⟩, .int .i64 0, .int .i64 0, .int .i64 0, .string ⟨#[]⟩, .slice none 0 0]) | 10 => v = (.int .i64 4) | 13 => v = (.int .i64 4) | _ => True) ∧ (j = 5 → ∃ n5 : Nat, v = (.slice (some ⟨n5, 0, none⟩) 1 1) ∧ w6.heap.size ≤ n5 ∧ W.heap[n5]? = some (.cells #[.int .i64 1, .int .i64 2, .int .i64 1, .string ⟨#[]⟩, .string ⟨#[]⟩, .int .i64 0, .int .i64 0, .int .i64 0, .string ⟨#[]⟩, .slice none 0 0, .slice none 0 0] 29)) ∧ (j = 6 → ∃ n5 : Nat, v = (.agg #[.int .i64 28, .int .i64 0, .int .i64 0, .string ⟨#[]⟩, .string ⟨#[]⟩, .int .i64 0, .int .i64 0, .int .i64 0, .string ⟨#[]⟩, .slice (some ⟨n5, 0, none⟩) 1 1, .slice (some ⟨lx3, 0, none⟩) 2 2]) ∧ w6.heap.size ≤ n5 ∧ W.heap[n5]? = some (.cells #[.int .i64 1, .int .i64 2, .int .i64 1, .string ⟨#[]⟩, .string ⟨#[]⟩, .int .i64 0, .int .i64 0, .int .i64 0, .string ⟨#[]⟩, .slice none 0 0, .slice none 0 0] 29))) (fun l a W => Below w.heap.size w W ∧ w6.heap.size ≤ W.heap.size ∧ W.heap[w.heap.size]? = some (.cells #[.int .i64 1, .int .i64 2, .int .i64 1, .string ⟨#[]⟩, .string ⟨#[]⟩, .int .i64 0, .int .i64 0, .int .i64 0, .string ⟨#[]⟩, .slice none 0 0, .slice none 0 0] 29) ∧ W.heap[ax]? = some (.cells #[.slice (some ⟨lx0, 0, none⟩) 2 2, .slice (some ⟨lx1, 0, none⟩) 1 1, .slice (some ⟨lx2, 0, none⟩) 3 3, .slice (some ⟨lx3, 0, none⟩) 2 2, .slice (some ⟨lx4, 0, none⟩) 3 3, .slice (some ⟨lx5, 0, none⟩) 1 1, .slice (some ⟨lx6, 0, none⟩) 1 1, .slice (some ⟨lx7, 0, none⟩) 1 1, .slice (some ⟨lx8, 0, none⟩) 3 3] 27) ∧ W.heap[lx3]? = some (.cells cll3 31) ∧ W.heap[eb]? = some (.cells #[.int .i64 4, .int .i64 4, .int .i64 4, .int .i64 4, .int .i64 4, .int .i64 3, .int .i64 10, .int .i64 7, .int .i64 0] 34) ∧ (l.getD 11 false = true → ∃ T11, a.tmps[8]? = some (.pointer (some ⟨T11, 0, none⟩)) ∧ w6.heap.size ≤ T11 ∧ (l.getD 12 false = false → W.heap[T11]? = some (.cells #[.int .i64 0, .int .i64 0, .int .i64 0, .string ⟨#[]⟩, .string ⟨#[]⟩, .string ⟨#[]⟩, .int .i64 0, .int .i64 0, .int .i64 0, .string ⟨#[]⟩, .slice none 0 0] 39)))) (by kernel_rfl) (by kernel_rfl) ⟨(HBw6.out).trans ⟨rfl, rfl, rfl, Nat.le_refl _, fun _ _ => rfl⟩, Nat.le_refl _, HO6.out, HA6.out, HL6.out, HE6.out, fun e7 => by rw [Array.getD_eq_getD_getElem?, Array.getElem?_replicate] at e7; split at e7 <;> cases e7⟩ ?_ ?_
    · intro l a W i o hsz h ho hl haf
      obtain ⟨g1, g0, b0, b1, b2, b3, q11⟩ := h.more
      have gz : w.heap.size ≤ W.heap.size := Nat.le_trans (by first | exact Nat.le_refl _ | omega) g0
      have hi : i < 14 := (Array.getElem?_eq_some_iff.1 ho).1
      obtain rfl | rfl | rfl | rfl | rfl | rfl | rfl | rfl | rfl | rfl | rfl | rfl | rfl | rfl : i = 0 ∨ i = 1 ∨ i = 2 ∨ i = 3 ∨ i = 4 ∨ i = 5 ∨ i = 6 ∨ i = 7 ∨ i = 8 ∨ i = 9 ∨ i = 10 ∨ i = 11 ∨ i = 12 ∨ i = 13 := by omega
      all_goals (obtain rfl := Option.some.inj ho; rw [if_pos (want_none rfl)])
      · have e5 := h.given 5 _ rfl (by kernel_rfl)
        refine wp_val (v := .slice (some ⟨ax, 0, none⟩) 9 9) (w' := W) ?_ ⟨_, rfl, ⟨rfl, fun e => absurd e (by decide), fun e => absurd e (by decide)⟩, fun _ _ h => h, g1, g0, b0, b1, b2, b3, (fun e7 => by rw [set_other_get (by decide)] at e7; obtain ⟨T, t1, t2, t3⟩ := q11 e7; exact ⟨T, (put_other (by decide)).trans t1, t2, fun e8 => (t3 ((set_other_get (show 0 ≠ 12 by decide)).symm.trans e8))⟩)⟩
        unfold execOp
        simp [e5, go_sem]
      · have e7 := h.given 7 _ rfl (by kernel_rfl)
        refine wp_val (v := .int .i64 3) (w' := W) ?_ ⟨_, rfl, ⟨rfl, fun e => absurd e (by decide), fun e => absurd e (by decide)⟩, fun _ _ h => h, g1, g0, b0, b1, b2, b3, (fun e7 => by rw [set_other_get (by decide)] at e7; obtain ⟨T, t1, t2, t3⟩ := q11 e7; exact ⟨T, (put_other (by decide)).trans t1, t2, fun e8 => (t3 ((set_other_get (show 1 ≠ 12 by decide)).symm.trans e8))⟩)⟩
        unfold execOp
        simp [e7, go_sem]
      · obtain ⟨u63, e63, x63⟩ := h.new 0 _ 63 rfl rfl (haf ⟨0, .data⟩ (by simp) rfl)
        have y63 : u63 = (.slice (some ⟨ax, 0, none⟩) 9 9) := x63.1
        subst y63
        obtain ⟨u64, e64, x64⟩ := h.new 1 _ 64 rfl rfl (haf ⟨1, .data⟩ (by simp) rfl)
        have y64 : u64 = (.int .i64 3) := x64.1
        subst y64
        refine wp_val (v := .pointer (some ⟨ax, 3, none⟩)) (w' := W) ?_ ⟨_, rfl, ⟨rfl, fun e => absurd e (by decide), fun e => absurd e (by decide)⟩, fun _ _ h => h, g1, g0, b0, b1, b2, b3, (fun e7 => by rw [set_other_get (by decide)] at e7; obtain ⟨T, t1, t2, t3⟩ := q11 e7; exact ⟨T, (put_other (by decide)).trans t1, t2, fun e8 => (t3 ((set_other_get (show 2 ≠ 12 by decide)).symm.trans e8))⟩)⟩
        unfold execOp
        simp [e63, e64, go_sem]
      · obtain ⟨u65, e65, x65⟩ := h.new 2 _ 65 rfl rfl (haf ⟨2, .data⟩ (by simp) rfl)
        have y65 : u65 = (.pointer (some ⟨ax, 3, none⟩)) := x65.1
        subst y65
        have c_ := b1
        have c0 := (Lib.cell_of_heap c_ 3).trans rfl
        refine wp_val (v := .slice (some ⟨lx3, 0, none⟩) 2 2) (w' := W) ?_ ⟨_, rfl, ⟨rfl, fun e => absurd e (by decide), fun e => absurd e (by decide)⟩, fun _ _ h => h, g1, g0, b0, b1, b2, b3, (fun e7 => by rw [set_other_get (by decide)] at e7; obtain ⟨T, t1, t2, t3⟩ := q11 e7; exact ⟨T, (put_other (by decide)).trans t1, t2, fun e8 => (t3 ((set_other_get (show 3 ≠ 12 by decide)).symm.trans e8))⟩)⟩
        unfold execOp
        simp [e65, c0, go_sem]
      · have e3 := h.given 3 _ rfl (by kernel_rfl)
        have c_ := b0
        obtain ⟨c0, c1, c2, c3, c4, c5, c6, c7, c8, c9, c10, _, _⟩ := bk11 c_
        refine wp_val (v := .agg #[.int .i64 1, .int .i64 2, .int .i64 1, .string ⟨#[]⟩, .string ⟨#[]⟩, .int .i64 0, .int .i64 0, .int .i64 0, .string ⟨#[]⟩, .slice none 0 0, .slice none 0 0]) (w' := W) ?_ ⟨_, rfl, ⟨rfl, fun e => absurd e (by decide), fun e => absurd e (by decide)⟩, fun _ _ h => h, g1, g0, b0, b1, b2, b3, (fun e7 => by rw [set_other_get (by decide)] at e7; obtain ⟨T, t1, t2, t3⟩ := q11 e7; exact ⟨T, (put_other (by decide)).trans t1, t2, fun e8 => (t3 ((set_other_get (show 4 ≠ 12 by decide)).symm.trans e8))⟩)⟩
        unfold execOp
        simp [e3, c0, c1, c2, c3, c4, c5, c6, c7, c8, c9, c10, go_sem]
      · obtain ⟨u67, e67, x67⟩ := h.new 4 _ 67 rfl rfl (haf ⟨4, .data⟩ (by simp) rfl)
        have y67 : u67 = (.agg #[.int .i64 1, .int .i64 2, .int .i64 1, .string ⟨#[]⟩, .string ⟨#[]⟩, .int .i64 0, .int .i64 0, .int .i64 0, .string ⟨#[]⟩, .slice none 0 0, .slice none 0 0]) := x67.1
        subst y67
        refine wp_val (v := .slice (some ⟨W.heap.size, 0, none⟩) 1 1) (w' := W.alloc (.cells #[.int .i64 1, .int .i64 2, .int .i64 1, .string ⟨#[]⟩, .string ⟨#[]⟩, .int .i64 0, .int .i64 0, .int .i64 0, .string ⟨#[]⟩, .slice none 0 0, .slice none 0 0] 29)) ?_ ⟨_, rfl, ⟨trivial, fun _ => ⟨W.heap.size, rfl, g0, aNew rfl⟩, fun e => absurd e (by decide)⟩, fun j u hd => ⟨hd.1, fun e => by obtain ⟨n5, ev, p_n5, f_n5⟩ := hd.2.1 e; exact ⟨n5, ev, p_n5, aOld f_n5⟩, fun e => by obtain ⟨n5, ev, p_n5, f_n5⟩ := hd.2.2 e; exact ⟨n5, ev, p_n5, aOld f_n5⟩⟩, g1.alloc gz _, by simp; omega, aOld b0, aOld b1, aOld b2, aOld b3, (fun e7 => by rw [set_other_get (by decide)] at e7; obtain ⟨T, t1, t2, t3⟩ := q11 e7; exact ⟨T, (put_other (by decide)).trans t1, t2, fun e8 => aOld (t3 ((set_other_get (show 5 ≠ 12 by decide)).symm.trans e8))⟩)⟩
        unfold execOp
        simp [e67, go_sem]
      · obtain ⟨u66, e66, x66⟩ := h.new 3 _ 66 rfl rfl (haf ⟨3, .data⟩ (by simp) rfl)
        have y66 : u66 = (.slice (some ⟨lx3, 0, none⟩) 2 2) := x66.1
        subst y66
        obtain ⟨u68, e68, x68⟩ := h.new 5 _ 68 rfl rfl (haf ⟨5, .data⟩ (by simp) rfl)
        obtain ⟨n5, rfl, p_n5, f_n5⟩ := x68.2.1 rfl
        refine wp_val (v := .agg #[.int .i64 28, .int .i64 0, .int .i64 0, .string ⟨#[]⟩, .string ⟨#[]⟩, .int .i64 0, .int .i64 0, .int .i64 0, .string ⟨#[]⟩, .slice (some ⟨n5, 0, none⟩) 1 1, .slice (some ⟨lx3, 0, none⟩) 2 2]) (w' := W) ?_ ⟨_, rfl, ⟨trivial, fun e => absurd e (by decide), fun _ => ⟨n5, rfl, p_n5, f_n5⟩⟩, fun _ _ h => h, g1, g0, b0, b1, b2, b3, (fun e7 => by rw [set_other_get (by decide)] at e7; obtain ⟨T, t1, t2, t3⟩ := q11 e7; exact ⟨T, (put_other (by decide)).trans t1, t2, fun e8 => (t3 ((set_other_get (show 6 ≠ 12 by decide)).symm.trans e8))⟩)⟩
        unfold execOp
        simp [e66, e68, go_sem]
      · obtain ⟨u69, e69, x69⟩ := h.new 6 _ 69 rfl rfl (haf ⟨6, .data⟩ (by simp) rfl)
        obtain ⟨n5, rfl, p_n5, f_n5⟩ := x69.2.2 rfl
        refine wp_enter (f := 6) (args := #[.agg #[.int .i64 28, .int .i64 0, .int .i64 0, .string ⟨#[]⟩, .string ⟨#[]⟩, .int .i64 0, .int .i64 0, .int .i64 0, .string ⟨#[]⟩, .slice (some ⟨n5, 0, none⟩) 1 1, .slice (some ⟨lx3, 0, none⟩) 2 2]]) (w' := W) ?_ ((low_3 n5 lx3 W b2).mono ?_)
        · unfold execOp
          simp [e69, go_sem]
        · rintro e W' ⟨rfl, hb⟩
          exact ⟨_, rfl, _, rfl, ⟨rfl, fun e => absurd e (by decide), fun e => absurd e (by decide)⟩, fun j u hd => ⟨hd.1, fun e => by obtain ⟨n5, ev, p_n5, f_n5⟩ := hd.2.1 e; exact ⟨n5, ev, p_n5, blK hb f_n5⟩, fun e => by obtain ⟨n5, ev, p_n5, f_n5⟩ := hd.2.2 e; exact ⟨n5, ev, p_n5, blK hb f_n5⟩⟩, g1.trans (hb.mono gz), Nat.le_trans g0 hb.size, blK hb b0, blK hb b1, blK hb b2, blK hb b3, (fun e7 => by rw [set_other_get (by decide)] at e7; obtain ⟨T, t1, t2, t3⟩ := q11 e7; exact ⟨T, (put_other (by decide)).trans t1, t2, fun e8 => blK hb ((t3 ((set_other_get (show 7 ≠ 12 by decide)).symm.trans e8)))⟩)⟩
      · obtain ⟨u70, e70, x70⟩ := h.new 7 _ 70 rfl rfl (haf ⟨7, .data⟩ (by simp) rfl)
        have y70 : u70 = (.tuple #[.agg #[.int .i64 0, .int .i64 0, .int .i64 0, .string ⟨#[]⟩, .string ⟨#[]⟩, .string ⟨#[]⟩, .int .i64 0, .int .i64 0, .int .i64 0, .string ⟨#[]⟩, .slice none 0 0], .int .i64 4]) := x70.1
        subst y70
        refine wp_val (v := .tuple #[.agg #[.int .i64 0, .int .i64 0, .int .i64 0, .string ⟨#[]⟩, .string ⟨#[]⟩, .string ⟨#[]⟩, .int .i64 0, .int .i64 0, .int .i64 0, .string ⟨#[]⟩, .slice none 0 0], .int .i64 4]) (w' := W) ?_ ⟨_, rfl, ⟨rfl, fun e => absurd e (by decide), fun e => absurd e (by decide)⟩, fun _ _ h => h, g1, g0, b0, b1, b2, b3, (fun e7 => by rw [set_other_get (by decide)] at e7; obtain ⟨T, t1, t2, t3⟩ := q11 e7; exact ⟨T, (put_other (by decide)).trans t1, t2, fun e8 => (t3 ((set_other_get (show 8 ≠ 12 by decide)).symm.trans e8))⟩)⟩
        unfold execOp
        simp [e70, go_sem]
      · obtain ⟨u62, e62, x62⟩ := h.new 8 _ 62 rfl rfl (haf ⟨8, .data⟩ (by simp) rfl)
        have y62 : u62 = (.tuple #[.agg #[.int .i64 0, .int .i64 0, .int .i64 0, .string ⟨#[]⟩, .string ⟨#[]⟩, .string ⟨#[]⟩, .int .i64 0, .int .i64 0, .int .i64 0, .string ⟨#[]⟩, .slice none 0 0], .int .i64 4]) := x62.1
        subst y62
        refine wp_val (v := .agg #[.int .i64 0, .int .i64 0, .int .i64 0, .string ⟨#[]⟩, .string ⟨#[]⟩, .string ⟨#[]⟩, .int .i64 0, .int .i64 0, .int .i64 0, .string ⟨#[]⟩, .slice none 0 0]) (w' := W) ?_ ⟨_, rfl, ⟨rfl, fun e => absurd e (by decide), fun e => absurd e (by decide)⟩, fun _ _ h => h, g1, g0, b0, b1, b2, b3, (fun e7 => by rw [set_other_get (by decide)] at e7; obtain ⟨T, t1, t2, t3⟩ := q11 e7; exact ⟨T, (put_other (by decide)).trans t1, t2, fun e8 => (t3 ((set_other_get (show 9 ≠ 12 by decide)).symm.trans e8))⟩)⟩
        unfold execOp
        simp [e62, go_sem]
      · obtain ⟨u62, e62, x62⟩ := h.new 8 _ 62 rfl rfl (haf ⟨8, .data⟩ (by simp) rfl)
        have y62 : u62 = (.tuple #[.agg #[.int .i64 0, .int .i64 0, .int .i64 0, .string ⟨#[]⟩, .string ⟨#[]⟩, .string ⟨#[]⟩, .int .i64 0, .int .i64 0, .int .i64 0, .string ⟨#[]⟩, .slice none 0 0], .int .i64 4]) := x62.1
        subst y62
        refine wp_val (v := .int .i64 4) (w' := W) ?_ ⟨_, rfl, ⟨rfl, fun e => absurd e (by decide), fun e => absurd e (by decide)⟩, fun _ _ h => h, g1, g0, b0, b1, b2, b3, (fun e7 => by rw [set_other_get (by decide)] at e7; obtain ⟨T, t1, t2, t3⟩ := q11 e7; exact ⟨T, (put_other (by decide)).trans t1, t2, fun e8 => (t3 ((set_other_get (show 10 ≠ 12 by decide)).symm.trans e8))⟩)⟩
        unfold execOp
        simp [e62, go_sem]
      · have m12 := h.later 12 11 _ ⟨11, .phase⟩ rfl (by simp) rfl rfl hl
        refine wp_val (v := .pointer (some ⟨W.heap.size, 0, none⟩)) (w' := W.alloc (.cells #[.int .i64 0, .int .i64 0, .int .i64 0, .string ⟨#[]⟩, .string ⟨#[]⟩, .string ⟨#[]⟩, .int .i64 0, .int .i64 0, .int .i64 0, .string ⟨#[]⟩, .slice none 0 0] 39)) ?_ ⟨_, rfl, ⟨trivial, fun e => absurd e (by decide), fun e => absurd e (by decide)⟩, fun j u hd => ⟨hd.1, fun e => by obtain ⟨n5, ev, p_n5, f_n5⟩ := hd.2.1 e; exact ⟨n5, ev, p_n5, aOld f_n5⟩, fun e => by obtain ⟨n5, ev, p_n5, f_n5⟩ := hd.2.2 e; exact ⟨n5, ev, p_n5, aOld f_n5⟩⟩, g1.alloc gz _, by simp; omega, aOld b0, aOld b1, aOld b2, aOld b3, (fun _ => ⟨W.heap.size, put_this (by rw [h.size]; exact (by decide : (8 : Nat) < 79)), g0, fun _ => aNew rfl⟩)⟩
        unfold execOp
        simp [go_sem]
      · obtain ⟨T11, t1_11, t2_11, t3_11⟩ := q11 (haf ⟨11, .phase⟩ (by simp) rfl)
        obtain ⟨u71, e71, x71⟩ := h.new 9 _ 71 rfl rfl (haf ⟨9, .phase⟩ (by simp) rfl)
        have y71 : u71 = (.agg #[.int .i64 0, .int .i64 0, .int .i64 0, .string ⟨#[]⟩, .string ⟨#[]⟩, .string ⟨#[]⟩, .int .i64 0, .int .i64 0, .int .i64 0, .string ⟨#[]⟩, .slice none 0 0]) := x71.1
        subst y71
        have m12 : l.getD 12 false = false := by rw [Array.getD_eq_getD_getElem?] at hl ⊢; cases hx : l[12]? with | none => rfl | some bb => rw [hx] at hl; exact hl
        have c_ := t3_11 m12
        obtain ⟨z0, z1, z2, z3, z4, z5, z6, z7, z8, z9, z10, zf, _⟩ := bk11 c_
        obtain ⟨W', hW'⟩ : ∃ V, V = (((((((((((W).setCell ⟨T11, 0, none⟩ (.int .i64 0)).setCell ⟨T11, 1, none⟩ (.int .i64 0)).setCell ⟨T11, 2, none⟩ (.int .i64 0)).setCell ⟨T11, 3, none⟩ (.string ⟨#[]⟩)).setCell ⟨T11, 4, none⟩ (.string ⟨#[]⟩)).setCell ⟨T11, 5, none⟩ (.string ⟨#[]⟩)).setCell ⟨T11, 6, none⟩ (.int .i64 0)).setCell ⟨T11, 7, none⟩ (.int .i64 0)).setCell ⟨T11, 8, none⟩ (.int .i64 0)).setCell ⟨T11, 9, none⟩ (.string ⟨#[]⟩)).setCell ⟨T11, 10, none⟩ (.slice none 0 0) := ⟨_, rfl⟩
        have hP : W' = putL W (T11) 0 [.int .i64 0, .int .i64 0, .int .i64 0, .string ⟨#[]⟩, .string ⟨#[]⟩, .string ⟨#[]⟩, .int .i64 0, .int .i64 0, .int .i64 0, .string ⟨#[]⟩, .slice none 0 0] := hW'
        refine wp_skip (w' := W') ?_ ⟨undef, rfl, ⟨trivial, fun e => absurd e (by decide), fun e => absurd e (by decide)⟩, fun j u hd => ⟨hd.1, fun e => by obtain ⟨n5, ev, p_n5, f_n5⟩ := hd.2.1 e; exact ⟨n5, ev, p_n5, (by rw [hP]; exact (putL_other (blk_ne c_ f_n5 (by decide)) _ _ _).trans (f_n5))⟩, fun e => by obtain ⟨n5, ev, p_n5, f_n5⟩ := hd.2.2 e; exact ⟨n5, ev, p_n5, (by rw [hP]; exact (putL_other (blk_ne c_ f_n5 (by decide)) _ _ _).trans (f_n5))⟩⟩, (by rw [hP]; exact putL_below (by omega) _ _ _ g1), Nat.le_trans g0 (by rw [hP]; exact (putL_below (B := 0) (w0 := W) (Nat.zero_le _) _ _ _ (Below.refl _ _)).size), (by rw [hP]; exact (putL_other (by omega) _ _ _).trans (b0)), (by rw [hP]; exact (putL_other (by omega) _ _ _).trans (b1)), (by rw [hP]; exact (putL_other (by omega) _ _ _).trans (b2)), (by rw [hP]; exact (putL_other (by omega) _ _ _).trans (b3)), (fun _ => ⟨T11, t1_11, t2_11, fun e8 => absurd ((set_this_get (i := 12) (n := 14) hsz (by decide)).symm.trans e8) (by decide)⟩)⟩
        rw [hW']
        clear hP hW'
        unfold execOp
        simp [t1_11, e71, z0, z1, z2, z3, z4, z5, z6, z7, z8, z9, z10, zf, go_sem]
      · obtain ⟨u72, e72, x72⟩ := h.new 10 _ 72 rfl rfl (haf ⟨10, .phase⟩ (by simp) rfl)
        have y72 : u72 = (.int .i64 4) := x72.1
        subst y72
        refine wp_val (v := .int .i64 4) (w' := W) ?_ ⟨_, rfl, ⟨rfl, fun e => absurd e (by decide), fun e => absurd e (by decide)⟩, fun _ _ h => h, g1, g0, b0, b1, b2, b3, (fun e7 => by rw [set_other_get (by decide)] at e7; obtain ⟨T, t1, t2, t3⟩ := q11 e7; exact ⟨T, (put_other (by decide)).trans t1, t2, fun e8 => (t3 ((set_other_get (show 13 ≠ 12 by decide)).symm.trans e8))⟩)⟩
        unfold execOp
        simp [e72, go_sem]
    · intro v W7 hv hs hg
      obtain ⟨g1, g0, b0, b1, b2, b3, q11⟩ := hg
      have d13 : v 13 = .int .i64 4 := (hv 13 _ 9 rfl rfl).1
      simp only [putAll, d13]
      have cE : W7.cell? ⟨eb, 3, none⟩ = some (.int .i64 4) := (Lib.cell_of_heap b3 3).trans rfl
      have HB7 := hidC g1
      clear hv hs d13 g1 g0 b0 b1 b2 b3 q11 HL6 HA6 HE6 HO6 HBw6
      go_wp2_with fail
      go_ret
      exact ⟨rfl, HB7.out⟩
  · have HL6 := HX4
    clear HX0 HX1 HX2 HX3 HX4 HX5 HX6 HX7 HX8
    refine wp_region_slots (by kernel_rfl) (fun j v W => (match j with | 0 => v = (.slice (some ⟨ax, 0, none⟩) 9 9) | 1 => v = (.int .i64 4) | 2 => v = (.pointer (some ⟨ax, 4, none⟩)) | 3 => v = (.slice (some ⟨lx4, 0, none⟩) 3 3) | 4 => v = (.agg #[.int .i64 1, .int .i64 2, .int .i64 1, .string ⟨#[]⟩, .string ⟨#[]⟩, .int .i64 0, .int .i64 0, .int .i64 0, .string ⟨#[]⟩, .slice none 0 0, .slice none 0 0]) | 7 => v = (.tuple #[.agg #[.int .i64 0, .int .i64 0, .int .i64 0, .string ⟨#[]⟩, .string ⟨#[]⟩, .string ⟨#[]⟩, .int .i64 0, .int .i64 0, .int .i64 0, .string ⟨#[]⟩, .slice none 0 0], .int .i64 4]) | 8 => v = (.tuple #[.agg #[.int .i64 0, .int .i64 0, .int .i64 0, .string ⟨#[]⟩, .string ⟨#[]⟩, .string ⟨#[]⟩, .int .i64 0, .int .i64 0, .int .i64 0, .string ⟨#[]⟩, .slice none 0 0], .int .i64 4]) | 9 => v = (.agg #[.int .i64 0, .int .i64 0, .int .i64 0, .string ⟨#[]⟩, .string ⟨#[]⟩, .string ⟨#[]⟩, .int .i64 0, .int .i64 0, .int .i64 0, .string ⟨#[]⟩, .slice none 0 0]) | 10 => v = (.int .i64 4) | 13 => v = (.int .i64 4) | _ => True) ∧ (j = 5 → ∃ n5 : Nat, v = (.slice (some ⟨n5, 0, none⟩) 1 1) ∧ w6.heap.size ≤ n5 ∧ W.heap[n5]? = some (.cells #[.int .i64 1, .int .i64 2, .int .i64 1, .string ⟨#[]⟩, .string ⟨#[]⟩, .int .i64 0, .int .i64 0, .int .i64 0, .string ⟨#[]⟩, .slice none 0 0, .slice none 0 0] 29)) ∧ (j = 6 → ∃ n5 : Nat, v = (.agg #[.int .i64 28, .int .i64 0, .int .i64 0, .string ⟨#[]⟩, .string ⟨#[]⟩, .int .i64 0, .int .i64 0, .int .i64 0, .string ⟨#[]⟩, .slice (some ⟨n5, 0, none⟩) 1 1, .slice (some ⟨lx4, 0, none⟩) 3 3]) ∧ w6.heap.size ≤ n5 ∧ W.heap[n5]? = some (.cells #[.int .i64 1, .int .i64 2, .int .i64 1, .string ⟨#[]⟩, .string ⟨#[]⟩, .int .i64 0, .int .i64 0, .int .i64 0, .string ⟨#[]⟩, .slice none 0 0, .slice none 0 0] 29))) (fun l a W => Below w.heap.size w W ∧ w6.heap.size ≤ W.heap.size ∧ W.heap[w.heap.size]? = some (.cells #[.int .i64 1, .int .i64 2, .int .i64 1, .string ⟨#[]⟩, .string ⟨#[]⟩, .int .i64 0, .int .i64 0, .int .i64 0, .string ⟨#[]⟩, .slice none 0 0, .slice none 0 0] 29) ∧ W.heap[ax]? = some (.cells #[.slice (some ⟨lx0, 0, none⟩) 2 2, .slice (some ⟨lx1, 0, none⟩) 1 1, .slice (some ⟨lx2, 0, none⟩) 3 3, .slice (some ⟨lx3, 0, none⟩) 2 2, .slice (some ⟨lx4, 0, none⟩) 3 3, .slice (some ⟨lx5, 0, none⟩) 1 1, .slice (some ⟨lx6, 0, none⟩) 1 1, .slice (some ⟨lx7, 0, none⟩) 1 1, .slice (some ⟨lx8, 0, none⟩) 3 3] 27) ∧ W.heap[lx4]? = some (.cells cll4 31) ∧ W.heap[eb]? = some (.cells #[.int .i64 4, .int .i64 4, .int .i64 4, .int .i64 4, .int .i64 4, .int .i64 3, .int .i64 10, .int .i64 7, .int .i64 0] 34) ∧ (l.getD 11 false = true → ∃ T11, a.tmps[8]? = some (.pointer (some ⟨T11, 0, none⟩)) ∧ w6.heap.size ≤ T11 ∧ (l.getD 12 false = false → W.heap[T11]? = some (.cells #[.int .i64 0, .int .i64 0, .int .i64 0, .string ⟨#[]⟩, .string ⟨#[]⟩, .string ⟨#[]⟩, .int .i64 0, .int .i64 0, .int .i64 0, .string ⟨#[]⟩, .slice none 0 0] 39)))) (by kernel_rfl) (by kernel_rfl) ⟨(HBw6.out).trans ⟨rfl, rfl, rfl, Nat.le_refl _, fun _ _ => rfl⟩, Nat.le_refl _, HO6.out, HA6.out, HL6.out, HE6.out, fun e7 => by rw [Array.getD_eq_getD_getElem?, Array.getElem?_replicate] at e7; split at e7 <;> cases e7⟩ ?_ ?_
    · intro l a W i o hsz h ho hl haf
      obtain ⟨g1, g0, b0, b1, b2, b3, q11⟩ := h.more
      have gz : w.heap.size ≤ W.heap.size := Nat.le_trans (by first | exact Nat.le_refl _ | omega) g0
      have hi : i < 14 := (Array.getElem?_eq_some_iff.1 ho).1
      obtain rfl | rfl | rfl | rfl | rfl | rfl | rfl | rfl | rfl | rfl | rfl | rfl | rfl | rfl : i = 0 ∨ i = 1 ∨ i = 2 ∨ i = 3 ∨ i = 4 ∨ i = 5 ∨ i = 6 ∨ i = 7 ∨ i = 8 ∨ i = 9 ∨ i = 10 ∨ i = 11 ∨ i = 12 ∨ i = 13 := by omega
      all_goals (obtain rfl := Option.some.inj ho; rw [if_pos (want_none rfl)])
      · have e5 := h.given 5 _ rfl (by kernel_rfl)
        refine wp_val (v := .slice (some ⟨ax, 0, none⟩) 9 9) (w' := W) ?_ ⟨_, rfl, ⟨rfl, fun e => absurd e (by decide), fun e => absurd e (by decide)⟩, fun _ _ h => h, g1, g0, b0, b1, b2, b3, (fun e7 => by rw [set_other_get (by decide)] at e7; obtain ⟨T, t1, t2, t3⟩ := q11 e7; exact ⟨T, (put_other (by decide)).trans t1, t2, fun e8 => (t3 ((set_other_get (show 0 ≠ 12 by decide)).symm.trans e8))⟩)⟩
        unfold execOp
        simp [e5, go_sem]
      · have e7 := h.given 7 _ rfl (by kernel_rfl)
        refine wp_val (v := .int .i64 4) (w' := W) ?_ ⟨_, rfl, ⟨rfl, fun e => absurd e (by decide), fun e => absurd e (by decide)⟩, fun _ _ h => h, g1, g0, b0, b1, b2, b3, (fun e7 => by rw [set_other_get (by decide)] at e7; obtain ⟨T, t1, t2, t3⟩ := q11 e7; exact ⟨T, (put_other (by decide)).trans t1, t2, fun e8 => (t3 ((set_other_get (show 1 ≠ 12 by decide)).symm.trans e8))⟩)⟩
        unfold execOp
        simp [e7, go_sem]
      · obtain ⟨u63, e63, x63⟩ := h.new 0 _ 63 rfl rfl (haf ⟨0, .data⟩ (by simp) rfl)
        have y63 : u63 = (.slice (some ⟨ax, 0, none⟩) 9 9) := x63.1
        subst y63
        obtain ⟨u64, e64, x64⟩ := h.new 1 _ 64 rfl rfl (haf ⟨1, .data⟩ (by simp) rfl)
        have y64 : u64 = (.int .i64 4) := x64.1
        subst y64
        refine wp_val (v := .pointer (some ⟨ax, 4, none⟩)) (w' := W) ?_ ⟨_, rfl, ⟨rfl, fun e => absurd e (by decide), fun e => absurd e (by decide)⟩, fun _ _ h => h, g1, g0, b0, b1, b2, b3, (fun e7 => by rw [set_other_get (by decide)] at e7; obtain ⟨T, t1, t2, t3⟩ := q11 e7; exact ⟨T, (put_other (by decide)).trans t1, t2, fun e8 => (t3 ((set_other_get (show 2 ≠ 12 by decide)).symm.trans e8))⟩)⟩
        unfold execOp
        simp [e63, e64, go_sem]
      · obtain ⟨u65, e65, x65⟩ := h.new 2 _ 65 rfl rfl (haf ⟨2, .data⟩ (by simp) rfl)
        have y65 : u65 = (.pointer (some ⟨ax, 4, none⟩)) := x65.1
        subst y65
        have c_ := b1
        have c0 := (Lib.cell_of_heap c_ 4).trans rfl
        refine wp_val (v := .slice (some ⟨lx4, 0, none⟩) 3 3) (w' := W) ?_ ⟨_, rfl, ⟨rfl, fun e => absurd e (by decide), fun e => absurd e (by decide)⟩, fun _ _ h => h, g1, g0, b0, b1, b2, b3, (fun e7 => by rw [set_other_get (by decide)] at e7; obtain ⟨T, t1, t2, t3⟩ := q11 e7; exact ⟨T, (put_other (by decide)).trans t1, t2, fun e8 => (t3 ((set_other_get (show 3 ≠ 12 by decide)).symm.trans e8))⟩)⟩
        unfold execOp
        simp [e65, c0, go_sem]
      · have e3 := h.given 3 _ rfl (by kernel_rfl)
        have c_ := b0
        obtain ⟨c0, c1, c2, c3, c4, c5, c6, c7, c8, c9, c10, _, _⟩ := bk11 c_
        refine wp_val (v := .agg #[.int .i64 1, .int .i64 2, .int .i64 1, .string ⟨#[]⟩, .string ⟨#[]⟩, .int .i64 0, .int .i64 0, .int .i64 0, .string ⟨#[]⟩, .slice none 0 0, .slice none 0 0]) (w' := W) ?_ ⟨_, rfl, ⟨rfl, fun e => absurd e (by decide), fun e => absurd e (by decide)⟩, fun _ _ h => h, g1, g0, b0, b1, b2, b3, (fun e7 => by rw [set_other_get (by decide)] at e7; obtain ⟨T, t1, t2, t3⟩ := q11 e7; exact ⟨T, (put_other (by decide)).trans t1, t2, fun e8 => (t3 ((set_other_get (show 4 ≠ 12 by decide)).symm.trans e8))⟩)⟩
        unfold execOp
        simp [e3, c0, c1, c2, c3, c4, c5, c6, c7, c8, c9, c10, go_sem]
      · obtain ⟨u67, e67, x67⟩ := h.new 4 _ 67 rfl rfl (haf ⟨4, .data⟩ (by simp) rfl)
        have y67 : u67 = (.agg #[.int .i64 1, .int .i64 2, .int .i64 1, .string ⟨#[]⟩, .string ⟨#[]⟩, .int .i64 0, .int .i64 0, .int .i64 0, .string ⟨#[]⟩, .slice none 0 0, .slice none 0 0]) := x67.1
        subst y67
        refine wp_val (v := .slice (some ⟨W.heap.size, 0, none⟩) 1 1) (w' := W.alloc (.cells #[.int .i64 1, .int .i64 2, .int .i64 1, .string ⟨#[]⟩, .string ⟨#[]⟩, .int .i64 0, .int .i64 0, .int .i64 0, .string ⟨#[]⟩, .slice none 0 0, .slice none 0 0] 29)) ?_ ⟨_, rfl, ⟨trivial, fun _ => ⟨W.heap.size, rfl, g0, aNew rfl⟩, fun e => absurd e (by decide)⟩, fun j u hd => ⟨hd.1, fun e => by obtain ⟨n5, ev, p_n5, f_n5⟩ := hd.2.1 e; exact ⟨n5, ev, p_n5, aOld f_n5⟩, fun e => by obtain ⟨n5, ev, p_n5, f_n5⟩ := hd.2.2 e; exact ⟨n5, ev, p_n5, aOld f_n5⟩⟩, g1.alloc gz _, by simp; omega, aOld b0, aOld b1, aOld b2, aOld b3, (fun e7 => by rw [set_other_get (by decide)] at e7; obtain ⟨T, t1, t2, t3⟩ := q11 e7; exact ⟨T, (put_other (by decide)).trans t1, t2, fun e8 => aOld (t3 ((set_other_get (show 5 ≠ 12 by decide)).symm.trans e8))⟩)⟩
        unfold execOp
        simp [e67, go_sem]
      · obtain ⟨u66, e66, x66⟩ := h.new 3 _ 66 rfl rfl (haf ⟨3, .data⟩ (by simp) rfl)
        have y66 : u66 = (.slice (some ⟨lx4, 0, none⟩) 3 3) := x66.1
        subst y66
        obtain ⟨u68, e68, x68⟩ := h.new 5 _ 68 rfl rfl (haf ⟨5, .data⟩ (by simp) rfl)
        obtain ⟨n5, rfl, p_n5, f_n5⟩ := x68.2.1 rfl
        refine wp_val (v := .agg #[.int .i64 28, .int .i64 0, .int .i64 0, .string ⟨#[]⟩, .string ⟨#[]⟩, .int .i64 0, .int .i64 0, .int .i64 0, .string ⟨#[]⟩, .slice (some ⟨n5, 0, none⟩) 1 1, .slice (some ⟨lx4, 0, none⟩) 3 3]) (w' := W) ?_ ⟨_, rfl, ⟨trivial, fun e => absurd e (by decide), fun _ => ⟨n5, rfl, p_n5, f_n5⟩⟩, fun _ _ h => h, g1, g0, b0, b1, b2, b3, (fun e7 => by rw [set_other_get (by decide)] at e7; obtain ⟨T, t1, t2, t3⟩ := q11 e7; exact ⟨T, (put_other (by decide)).trans t1, t2, fun e8 => (t3 ((set_other_get (show 6 ≠ 12 by decide)).symm.trans e8))⟩)⟩
        unfold execOp
        simp [e66, e68, go_sem]
      · obtain ⟨u69, e69, x69⟩ := h.new 6 _ 69 rfl rfl (haf ⟨6, .data⟩ (by simp) rfl)
        obtain ⟨n5, rfl, p_n5, f_n5⟩ := x69.2.2 rfl
        refine wp_enter (f := 6) (args := #[.agg #[.int .i64 28, .int .i64 0, .int .i64 0, .string ⟨#[]⟩, .string ⟨#[]⟩, .int .i64 0, .int .i64 0, .int .i64 0, .string ⟨#[]⟩, .slice (some ⟨n5, 0, none⟩) 1 1, .slice (some ⟨lx4, 0, none⟩) 3 3]]) (w' := W) ?_ ((low_4 n5 lx4 W b2).mono ?_)
        · unfold execOp
          simp [e69, go_sem]
        · rintro e W' ⟨rfl, hb⟩
          exact ⟨_, rfl, _, rfl, ⟨rfl, fun e => absurd e (by decide), fun e => absurd e (by decide)⟩, fun j u hd => ⟨hd.1, fun e => by obtain ⟨n5, ev, p_n5, f_n5⟩ := hd.2.1 e; exact ⟨n5, ev, p_n5, blK hb f_n5⟩, fun e => by obtain ⟨n5, ev, p_n5, f_n5⟩ := hd.2.2 e; exact ⟨n5, ev, p_n5, blK hb f_n5⟩⟩, g1.trans (hb.mono gz), Nat.le_trans g0 hb.size, blK hb b0, blK hb b1, blK hb b2, blK hb b3, (fun e7 => by rw [set_other_get (by decide)] at e7; obtain ⟨T, t1, t2, t3⟩ := q11 e7; exact ⟨T, (put_other (by decide)).trans t1, t2, fun e8 => blK hb ((t3 ((set_other_get (show 7 ≠ 12 by decide)).symm.trans e8)))⟩)⟩
      · obtain ⟨u70, e70, x70⟩ := h.new 7 _ 70 rfl rfl (haf ⟨7, .data⟩ (by simp) rfl)
        have y70 : u70 = (.tuple #[.agg #[.int .i64 0, .int .i64 0, .int .i64 0, .string ⟨#[]⟩, .string ⟨#[]⟩, .string ⟨#[]⟩, .int .i64 0, .int .i64 0, .int .i64 0, .string ⟨#[]⟩, .slice none 0 0], .int .i64 4]) := x70.1
        subst y70
        refine wp_val (v := .tuple #[.agg #[.int .i64 0, .int .i64 0, .int .i64 0, .string ⟨#[]⟩, .string ⟨#[]⟩, .string ⟨#[]⟩, .int .i64 0, .int .i64 0, .int .i64 0, .string ⟨#[]⟩, .slice none 0 0], .int .i64 4]) (w' := W) ?_ ⟨_, rfl, ⟨rfl, fun e => absurd e (by decide), fun e => absurd e (by decide)⟩, fun _ _ h => h, g1, g0, b0, b1, b2, b3, (fun e7 => by rw [set_other_get (by decide)] at e7; obtain ⟨T, t1, t2, t3⟩ := q11 e7; exact ⟨T, (put_other (by decide)).trans t1, t2, fun e8 => (t3 ((set_other_get (show 8 ≠ 12 by decide)).symm.trans e8))⟩)⟩
        unfold execOp
        simp [e70, go_sem]
      · obtain ⟨u62, e62, x62⟩ := h.new 8 _ 62 rfl rfl (haf ⟨8, .data⟩ (by simp) rfl)
        have y62 : u62 = (.tuple #[.agg #[.int .i64 0, .int .i64 0, .int .i64 0, .string ⟨#[]⟩, .string ⟨#[]⟩, .string ⟨#[]⟩, .int .i64 0, .int .i64 0, .int .i64 0, .string ⟨#[]⟩, .slice none 0 0], .int .i64 4]) := x62.1
        subst y62
        refine wp_val (v := .agg #[.int .i64 0, .int .i64 0, .int .i64 0, .string ⟨#[]⟩, .string ⟨#[]⟩, .string ⟨#[]⟩, .int .i64 0, .int .i64 0, .int .i64 0, .string ⟨#[]⟩, .slice none 0 0]) (w' := W) ?_ ⟨_, rfl, ⟨rfl, fun e => absurd e (by decide), fun e => absurd e (by decide)⟩, fun _ _ h => h, g1, g0, b0, b1, b2, b3, (fun e7 => by rw [set_other_get (by decide)] at e7; obtain ⟨T, t1, t2, t3⟩ := q11 e7; exact ⟨T, (put_other (by decide)).trans t1, t2, fun e8 => (t3 ((set_other_get (show 9 ≠ 12 by decide)).symm.trans e8))⟩)⟩
        unfold execOp
        simp [e62, go_sem]
      · obtain ⟨u62, e62, x62⟩ := h.new 8 _ 62 rfl rfl (haf ⟨8, .data⟩ (by simp) rfl)
        have y62 : u62 = (.tuple #[.agg #[.int .i64 0, .int .i64 0, .int .i64 0, .string ⟨#[]⟩, .string ⟨#[]⟩, .string ⟨#[]⟩, .int .i64 0, .int .i64 0, .int .i64 0, .string ⟨#[]⟩, .slice none 0 0], .int .i64 4]) := x62.1
        subst y62
        refine wp_val (v := .int .i64 4) (w' := W) ?_ ⟨_, rfl, ⟨rfl, fun e => absurd e (by decide), fun e => absurd e (by decide)⟩, fun _ _ h => h, g1, g0, b0, b1, b2, b3, (fun e7 => by rw [set_other_get (by decide)] at e7; obtain ⟨T, t1, t2, t3⟩ := q11 e7; exact ⟨T, (put_other (by decide)).trans t1, t2, fun e8 => (t3 ((set_other_get (show 10 ≠ 12 by decide)).symm.trans e8))⟩)⟩
        unfold execOp
        simp [e62, go_sem]
      · have m12 := h.later 12 11 _ ⟨11, .phase⟩ rfl (by simp) rfl rfl hl
        refine wp_val (v := .pointer (some ⟨W.heap.size, 0, none⟩)) (w' := W.alloc (.cells #[.int .i64 0, .int .i64 0, .int .i64 0, .string ⟨#[]⟩, .string ⟨#[]⟩, .string ⟨#[]⟩, .int .i64 0, .int .i64 0, .int .i64 0, .string ⟨#[]⟩, .slice none 0 0] 39)) ?_ ⟨_, rfl, ⟨trivial, fun e => absurd e (by decide), fun e => absurd e (by decide)⟩, fun j u hd => ⟨hd.1, fun e => by obtain ⟨n5, ev, p_n5, f_n5⟩ := hd.2.1 e; exact ⟨n5, ev, p_n5, aOld f_n5⟩, fun e => by obtain ⟨n5, ev, p_n5, f_n5⟩ := hd.2.2 e; exact ⟨n5, ev, p_n5, aOld f_n5⟩⟩, g1.alloc gz _, by simp; omega, aOld b0, aOld b1, aOld b2, aOld b3, (fun _ => ⟨W.heap.size, put_this (by rw [h.size]; exact (by decide : (8 : Nat) < 79)), g0, fun _ => aNew rfl⟩)⟩
        unfold execOp
        simp [go_sem]
      · obtain ⟨T11, t1_11, t2_11, t3_11⟩ := q11 (haf ⟨11, .phase⟩ (by simp) rfl)
        obtain ⟨u71, e71, x71⟩ := h.new 9 _ 71 rfl rfl (haf ⟨9, .phase⟩ (by simp) rfl)
        have y71 : u71 = (.agg #[.int .i64 0, .int .i64 0, .int .i64 0, .string ⟨#[]⟩, .string ⟨#[]⟩, .string ⟨#[]⟩, .int .i64 0, .int .i64 0, .int .i64 0, .string ⟨#[]⟩, .slice none 0 0]) := x71.1
        subst y71
        have m12 : l.getD 12 false = false := by rw [Array.getD_eq_getD_getElem?] at hl ⊢; cases hx : l[12]? with | none => rfl | some bb => rw [hx] at hl; exact hl
        have c_ := t3_11 m12
        obtain ⟨z0, z1, z2, z3, z4, z5, z6, z7, z8, z9, z10, zf, _⟩ := bk11 c_
        obtain ⟨W', hW'⟩ : ∃ V, V = (((((((((((W).setCell ⟨T11, 0, none⟩ (.int .i64 0)).setCell ⟨T11, 1, none⟩ (.int .i64 0)).setCell ⟨T11, 2, none⟩ (.int .i64 0)).setCell ⟨T11, 3, none⟩ (.string ⟨#[]⟩)).setCell ⟨T11, 4, none⟩ (.string ⟨#[]⟩)).setCell ⟨T11, 5, none⟩ (.string ⟨#[]⟩)).setCell ⟨T11, 6, none⟩ (.int .i64 0)).setCell ⟨T11, 7, none⟩ (.int .i64 0)).setCell ⟨T11, 8, none⟩ (.int .i64 0)).setCell ⟨T11, 9, none⟩ (.string ⟨#[]⟩)).setCell ⟨T11, 10, none⟩ (.slice none 0 0) := ⟨_, rfl⟩
        have hP : W' = putL W (T11) 0 [.int .i64 0, .int .i64 0, .int .i64 0, .string ⟨#[]⟩, .string ⟨#[]⟩, .string ⟨#[]⟩, .int .i64 0, .int .i64 0, .int .i64 0, .string ⟨#[]⟩, .slice none 0 0] := hW'
        refine wp_skip (w' := W') ?_ ⟨undef, rfl, ⟨trivial, fun e => absurd e (by decide), fun e => absurd e (by decide)⟩, fun j u hd => ⟨hd.1, fun e => by obtain ⟨n5, ev, p_n5, f_n5⟩ := hd.2.1 e; exact ⟨n5, ev, p_n5, (by rw [hP]; exact (putL_other (blk_ne c_ f_n5 (by decide)) _ _ _).trans (f_n5))⟩, fun e => by obtain ⟨n5, ev, p_n5, f_n5⟩ := hd.2.2 e; exact ⟨n5, ev, p_n5, (by rw [hP]; exact (putL_other (blk_ne c_ f_n5 (by decide)) _ _ _).trans (f_n5))⟩⟩, (by rw [hP]; exact putL_below (by omega) _ _ _ g1), Nat.le_trans g0 (by rw [hP]; exact (putL_below (B := 0) (w0 := W) (Nat.zero_le _) _ _ _ (Below.refl _ _)).size), (by rw [hP]; exact (putL_other (by omega) _ _ _).trans (b0)), (by rw [hP]; exact (putL_other (by omega) _ _ _).trans (b1)), (by rw [hP]; exact (putL_other (by omega) _ _ _).trans (b2)), (by rw [hP]; exact (putL_other (by omega) _ _ _).trans (b3)), (fun _ => ⟨T11, t1_11, t2_11, fun e8 => absurd ((set_this_get (i := 12) (n := 14) hsz (by decide)).symm.trans e8) (by decide)⟩)⟩
        rw [hW']
        clear hP hW'
        unfold execOp
        simp [t1_11, e71, z0, z1, z2, z3, z4, z5, z6, z7, z8, z9, z10, zf, go_sem]
      · obtain ⟨u72, e72, x72⟩ := h.new 10 _ 72 rfl rfl (haf ⟨10, .phase⟩ (by simp) rfl)
        have y72 : u72 = (.int .i64 4) := x72.1
        subst y72
        refine wp_val (v := .int .i64 4) (w' := W) ?_ ⟨_, rfl, ⟨rfl, fun e => absurd e (by decide), fun e => absurd e (by decide)⟩, fun _ _ h => h, g1, g0, b0, b1, b2, b3, (fun e7 => by rw [set_other_get (by decide)] at e7; obtain ⟨T, t1, t2, t3⟩ := q11 e7; exact ⟨T, (put_other (by decide)).trans t1, t2, fun e8 => (t3 ((set_other_get (show 13 ≠ 12 by decide)).symm.trans e8))⟩)⟩
        unfold execOp
        simp [e72, go_sem]
    · intro v W7 hv hs hg
      obtain ⟨g1, g0, b0, b1, b2, b3, q11⟩ := hg
      have d13 : v 13 = .int .i64 4 := (hv 13 _ 9 rfl rfl).1
      simp only [putAll, d13]
      have cE : W7.cell? ⟨eb, 4, none⟩ = some (.int .i64 4) := (Lib.cell_of_heap b3 4).trans rfl
      have HB7 := hidC g1
      clear hv hs d13 g1 g0 b0 b1 b2 b3 q11 HL6 HA6 HE6 HO6 HBw6
      go_wp2_with fail
      go_ret
      exact ⟨rfl, HB7.out⟩
  · have HL6 := HX5
    clear HX0 HX1 HX2 HX3 HX4 HX5 HX6 HX7 HX8
    refine wp_region_slots (by kernel_rfl) (fun j v W => (match j with | 0 => v = (.slice (some ⟨ax, 0, none⟩) 9 9) | 1 => v = (.int .i64 5) | 2 => v = (.pointer (some ⟨ax, 5, none⟩)) | 3 => v = (.slice (some ⟨lx5, 0, none⟩) 1 1) | 4 => v = (.agg #[.int .i64 1, .int .i64 2, .int .i64 1, .string ⟨#[]⟩, .string ⟨#[]⟩, .int .i64 0, .int .i64 0, .int .i64 0, .string ⟨#[]⟩, .slice none 0 0, .slice none 0 0]) | 7 => v = (.tuple #[.agg #[.int .i64 0, .int .i64 0, .int .i64 0, .string ⟨#[]⟩, .string ⟨#[]⟩, .string ⟨#[]⟩, .int .i64 0, .int .i64 0, .int .i64 0, .string ⟨#[]⟩, .slice none 0 0], .int .i64 3]) | 8 => v = (.tuple #[.agg #[.int .i64 0, .int .i64 0, .int .i64 0, .string ⟨#[]⟩, .string ⟨#[]⟩, .string ⟨#[]⟩, .int .i64 0, .int .i64 0, .int .i64 0, .string ⟨#[]⟩, .slice none 0 0], .int .i64 3]) | 9 => v = (.agg #[.int .i64 0, .int .i64 0, .int .i64 0, .string ⟨#[]⟩, .string ⟨#[]⟩, .string ⟨#[]⟩, .int .i64 0, .int .i64 0, .int .i64 0, .string ⟨#[]⟩, .slice none 0 0]) | 10 => v = (.int .i64 3) | 13 => v = (.int .i64 3) | _ => True) ∧ (j = 5 → ∃ n5 : Nat, v = (.slice (some ⟨n5, 0, none⟩) 1 1) ∧ w6.heap.size ≤ n5 ∧ W.heap[n5]? = some (.cells #[.int .i64 1, .int .i64 2, .int .i64 1, .string ⟨#[]⟩, .string ⟨#[]⟩, .int .i64 0, .int .i64 0, .int .i64 0, .string ⟨#[]⟩, .slice none 0 0, .slice none 0 0] 29)) ∧ (j = 6 → ∃ n5 : Nat, v = (.agg #[.int .i64 28, .int .i64 0, .int .i64 0, .string ⟨#[]⟩, .string ⟨#[]⟩, .int .i64 0, .int .i64 0, .int .i64 0, .string ⟨#[]⟩, .slice (some ⟨n5, 0, none⟩) 1 1, .slice (some ⟨lx5, 0, none⟩) 1 1]) ∧ w6.heap.size ≤ n5 ∧ W.heap[n5]? = some (.cells #[.int .i64 1, .int .i64 2, .int .i64 1, .string ⟨#[]⟩, .string ⟨#[]⟩, .int .i64 0, .int .i64 0, .int .i64 0, .string ⟨#[]⟩, .slice none 0 0, .slice none 0 0] 29))) (fun l a W => Below w.heap.size w W ∧ w6.heap.size ≤ W.heap.size ∧ W.heap[w.heap.size]? = some (.cells #[.int .i64 1, .int .i64 2, .int .i64 1, .string ⟨#[]⟩, .string ⟨#[]⟩, .int .i64 0, .int .i64 0, .int .i64 0, .string ⟨#[]⟩, .slice none 0 0, .slice none 0 0] 29) ∧ W.heap[ax]? = some (.cells #[.slice (some ⟨lx0, 0, none⟩) 2 2, .slice (some ⟨lx1, 0, none⟩) 1 1, .slice (some ⟨lx2, 0, none⟩) 3 3, .slice (some ⟨lx3, 0, none⟩) 2 2, .slice (some ⟨lx4, 0, none⟩) 3 3, .slice (some ⟨lx5, 0, none⟩) 1 1, .slice (some ⟨lx6, 0, none⟩) 1 1, .slice (some ⟨lx7, 0, none⟩) 1 1, .slice (some ⟨lx8, 0, none⟩) 3 3] 27) ∧ W.heap[lx5]? = some (.cells cll5 31) ∧ W.heap[eb]? = some (.cells #[.int .i64 4, .int .i64 4, .int .i64 4, .int .i64 4, .int .i64 4, .int .i64 3, .int .i64 10, .int .i64 7, .int .i64 0] 34) ∧ (l.getD 11 false = true → ∃ T11, a.tmps[8]? = some (.pointer (some ⟨T11, 0, none⟩)) ∧ w6.heap.size ≤ T11 ∧ (l.getD 12 false = false → W.heap[T11]? = some (.cells #[.int .i64 0, .int .i64 0, .int .i64 0, .string ⟨#[]⟩, .string ⟨#[]⟩, .string ⟨#[]⟩, .int .i64 0, .int .i64 0, .int .i64 0, .string ⟨#[]⟩, .slice none 0 0] 39)))) (by kernel_rfl) (by kernel_rfl) ⟨(HBw6.out).trans ⟨rfl, rfl, rfl, Nat.le_refl _, fun _ _ => rfl⟩, Nat.le_refl _, HO6.out, HA6.out, HL6.out, HE6.out, fun e7 => by rw [Array.getD_eq_getD_getElem?, Array.getElem?_replicate] at e7; split at e7 <;> cases e7⟩ ?_ ?_
    · intro l a W i o hsz h ho hl haf
      obtain ⟨g1, g0, b0, b1, b2, b3, q11⟩ := h.more
      have gz : w.heap.size ≤ W.heap.size := Nat.le_trans (by first | exact Nat.le_refl _ | omega) g0
      have hi : i < 14 := (Array.getElem?_eq_some_iff.1 ho).1
      obtain rfl | rfl | rfl | rfl | rfl | rfl | rfl | rfl | rfl | rfl | rfl | rfl | rfl | rfl : i = 0 ∨ i = 1 ∨ i = 2 ∨ i = 3 ∨ i = 4 ∨ i = 5 ∨ i = 6 ∨ i = 7 ∨ i = 8 ∨ i = 9 ∨ i = 10 ∨ i = 11 ∨ i = 12 ∨ i = 13 := by omega
      all_goals (obtain rfl := Option.some.inj ho; rw [if_pos (want_none rfl)])
      · have e5 := h.given 5 _ rfl (by kernel_rfl)
        refine wp_val (v := .slice (some ⟨ax, 0, none⟩) 9 9) (w' := W) ?_ ⟨_, rfl, ⟨rfl, fun e => absurd e (by decide), fun e => absurd e (by decide)⟩, fun _ _ h => h, g1, g0, b0, b1, b2, b3, (fun e7 => by rw [set_other_get (by decide)] at e7; obtain ⟨T, t1, t2, t3⟩ := q11 e7; exact ⟨T, (put_other (by decide)).trans t1, t2, fun e8 => (t3 ((set_other_get (show 0 ≠ 12 by decide)).symm.trans e8))⟩)⟩
        unfold execOp
        simp [e5, go_sem]
      · have e7 := h.given 7 _ rfl (by kernel_rfl)
        refine wp_val (v := .int .i64 5) (w' := W) ?_ ⟨_, rfl, ⟨rfl, fun e => absurd e (by decide), fun e => absurd e (by decide)⟩, fun _ _ h => h, g1, g0, b0, b1, b2, b3, (fun e7 => by rw [set_other_get (by decide)] at e7; obtain ⟨T, t1, t2, t3⟩ := q11 e7; exact ⟨T, (put_other (by decide)).trans t1, t2, fun e8 => (t3 ((set_other_get (show 1 ≠ 12 by decide)).symm.trans e8))⟩)⟩
        unfold execOp
        simp [e7, go_sem]
      · obtain ⟨u63, e63, x63⟩ := h.new 0 _ 63 rfl rfl (haf ⟨0, .data⟩ (by simp) rfl)
        have y63 : u63 = (.slice (some ⟨ax, 0, none⟩) 9 9) := x63.1
        subst y63
        obtain ⟨u64, e64, x64⟩ := h.new 1 _ 64 rfl rfl (haf ⟨1, .data⟩ (by simp) rfl)
        have y64 : u64 = (.int .i64 5) := x64.1
        subst y64
        refine wp_val (v := .pointer (some ⟨ax, 5, none⟩)) (w' := W) ?_ ⟨_, rfl, ⟨rfl, fun e => absurd e (by decide), fun e => absurd e (by decide)⟩, fun _ _ h => h, g1, g0, b0, b1, b2, b3, (fun e7 => by rw [set_other_get (by decide)] at e7; obtain ⟨T, t1, t2, t3⟩ := q11 e7; exact ⟨T, (put_other (by decide)).trans t1, t2, fun e8 => (t3 ((set_other_get (show 2 ≠ 12 by decide)).symm.trans e8))⟩)⟩
        unfold execOp
        simp [e63, e64, go_sem]
      · obtain ⟨u65, e65, x65⟩ := h.new 2 _ 65 rfl rfl (haf ⟨2, .data⟩ (by simp) rfl)
        have y65 : u65 = (.pointer (some ⟨ax, 5, none⟩)) := x65.1
        subst y65
        have c_ := b1
        have c0 := (Lib.cell_of_heap c_ 5).trans rfl
        refine wp_val (v := .slice (some ⟨lx5, 0, none⟩) 1 1) (w' := W) ?_ ⟨_, rfl, ⟨rfl, fun e => absurd e (by decide), fun e => absurd e (by decide)⟩, fun _ _ h => h, g1, g0, b0, b1, b2, b3, (fun e7 => by rw [set_other_get (by decide)] at e7; obtain ⟨T, t1, t2, t3⟩ := q11 e7; exact ⟨T, (put_other (by decide)).trans t1, t2, fun e8 => (t3 ((set_other_get (show 3 ≠ 12 by decide)).symm.trans e8))⟩)⟩
        unfold execOp
        simp [e65, c0, go_sem]
      · have e3 := h.given 3 _ rfl (by kernel_rfl)
        have c_ := b0
        obtain ⟨c0, c1, c2, c3, c4, c5, c6, c7, c8, c9, c10, _, _⟩ := bk11 c_
        refine wp_val (v := .agg #[.int .i64 1, .int .i64 2, .int .i64 1, .string ⟨#[]⟩, .string ⟨#[]⟩, .int .i64 0, .int .i64 0, .int .i64 0, .string ⟨#[]⟩, .slice none 0 0, .slice none 0 0]) (w' := W) ?_ ⟨_, rfl, ⟨rfl, fun e => absurd e (by decide), fun e => absurd e (by decide)⟩, fun _ _ h => h, g1, g0, b0, b1, b2, b3, (fun e7 => by rw [set_other_get (by decide)] at e7; obtain ⟨T, t1, t2, t3⟩ := q11 e7; exact ⟨T, (put_other (by decide)).trans t1, t2, fun e8 => (t3 ((set_other_get (show 4 ≠ 12 by decide)).symm.trans e8))⟩)⟩
        unfold execOp
        simp [e3, c0, c1, c2, c3, c4, c5, c6, c7, c8, c9, c10, go_sem]
      · obtain ⟨u67, e67, x67⟩ := h.new 4 _ 67 rfl rfl (haf ⟨4, .data⟩ (by simp) rfl)
        have y67 : u67 = (.agg #[.int .i64 1, .int .i64 2, .int .i64 1, .string ⟨#[]⟩, .string ⟨#[]⟩, .int .i64 0, .int .i64 0, .int .i64 0, .string ⟨#[]⟩, .slice none 0 0, .slice none 0 0]) := x67.1
        subst y67
        refine wp_val (v := .slice (some ⟨W.heap.size, 0, none⟩) 1 1) (w' := W.alloc (.cells #[.int .i64 1, .int .i64 2, .int .i64 1, .string ⟨#[]⟩, .string ⟨#[]⟩, .int .i64 0, .int .i64 0, .int .i64 0, .string ⟨#[]⟩, .slice none 0 0, .slice none 0 0] 29)) ?_ ⟨_, rfl, ⟨trivial, fun _ => ⟨W.heap.size, rfl, g0, aNew rfl⟩, fun e => absurd e (by decide)⟩, fun j u hd => ⟨hd.1, fun e => by obtain ⟨n5, ev, p_n5, f_n5⟩ := hd.2.1 e; exact ⟨n5, ev, p_n5, aOld f_n5⟩, fun e => by obtain ⟨n5, ev, p_n5, f_n5⟩ := hd.2.2 e; exact ⟨n5, ev, p_n5, aOld f_n5⟩⟩, g1.alloc gz _, by simp; omega, aOld b0, aOld b1, aOld b2, aOld b3, (fun e7 => by rw [set_other_get (by decide)] at e7; obtain ⟨T, t1, t2, t3⟩ := q11 e7; exact ⟨T, (put_other (by decide)).trans t1, t2, fun e8 => aOld (t3 ((set_other_get (show 5 ≠ 12 by decide)).symm.trans e8))⟩)⟩
        unfold execOp
        simp [e67, go_sem]
      · obtain ⟨u66, e66, x66⟩ := h.new 3 _ 66 rfl rfl (haf ⟨3, .data⟩ (by simp) rfl)
        have y66 : u66 = (.slice (some ⟨lx5, 0, none⟩) 1 1) := x66.1
        subst y66
        obtain ⟨u68, e68, x68⟩ := h.new 5 _ 68 rfl rfl (haf ⟨5, .data⟩ (by simp) rfl)
        obtain ⟨n5, rfl, p_n5, f_n5⟩ := x68.2.1 rfl
        refine wp_val (v := .agg #[.int .i64 28, .int .i64 0, .int .i64 0, .string ⟨#[]⟩, .string ⟨#[]⟩, .int .i64 0, .int .i64 0, .int .i64 0, .string ⟨#[]⟩, .slice (some ⟨n5, 0, none⟩) 1 1, .slice (some ⟨lx5, 0, none⟩) 1 1]) (w' := W) ?_ ⟨_, rfl, ⟨trivial, fun e => absurd e (by decide), fun _ => ⟨n5, rfl, p_n5, f_n5⟩⟩, fun _ _ h => h, g1, g0, b0, b1, b2, b3, (fun e7 => by rw [set_other_get (by decide)] at e7; obtain ⟨T, t1, t2, t3⟩ := q11 e7; exact ⟨T, (put_other (by decide)).trans t1, t2, fun e8 => (t3 ((set_other_get (show 6 ≠ 12 by decide)).symm.trans e8))⟩)⟩
        unfold execOp
        simp [e66, e68, go_sem]
      · obtain ⟨u69, e69, x69⟩ := h.new 6 _ 69 rfl rfl (haf ⟨6, .data⟩ (by simp) rfl)
        obtain ⟨n5, rfl, p_n5, f_n5⟩ := x69.2.2 rfl
        refine wp_enter (f := 6) (args := #[.agg #[.int .i64 28, .int .i64 0, .int .i64 0, .string ⟨#[]⟩, .string ⟨#[]⟩, .int .i64 0, .int .i64 0, .int .i64 0, .string ⟨#[]⟩, .slice (some ⟨n5, 0, none⟩) 1 1, .slice (some ⟨lx5, 0, none⟩) 1 1]]) (w' := W) ?_ ((low_5 n5 lx5 W b2).mono ?_)
        · unfold execOp
          simp [e69, go_sem]
        · rintro e W' ⟨rfl, hb⟩
          exact ⟨_, rfl, _, rfl, ⟨rfl, fun e => absurd e (by decide), fun e => absurd e (by decide)⟩, fun j u hd => ⟨hd.1, fun e => by obtain ⟨n5, ev, p_n5, f_n5⟩ := hd.2.1 e; exact ⟨n5, ev, p_n5, blK hb f_n5⟩, fun e => by obtain ⟨n5, ev, p_n5, f_n5⟩ := hd.2.2 e; exact ⟨n5, ev, p_n5, blK hb f_n5⟩⟩, g1.trans (hb.mono gz), Nat.le_trans g0 hb.size, blK hb b0, blK hb b1, blK hb b2, blK hb b3, (fun e7 => by rw [set_other_get (by decide)] at e7; obtain ⟨T, t1, t2, t3⟩ := q11 e7; exact ⟨T, (put_other (by decide)).trans t1, t2, fun e8 => blK hb ((t3 ((set_other_get (show 7 ≠ 12 by decide)).symm.trans e8)))⟩)⟩
      · obtain ⟨u70, e70, x70⟩ := h.new 7 _ 70 rfl rfl (haf ⟨7, .data⟩ (by simp) rfl)
        have y70 : u70 = (.tuple #[.agg #[.int .i64 0, .int .i64 0, .int .i64 0, .string ⟨#[]⟩, .string ⟨#[]⟩, .string ⟨#[]⟩, .int .i64 0, .int .i64 0, .int .i64 0, .string ⟨#[]⟩, .slice none 0 0], .int .i64 3]) := x70.1
        subst y70
        refine wp_val (v := .tuple #[.agg #[.int .i64 0, .int .i64 0, .int .i64 0, .string ⟨#[]⟩, .string ⟨#[]⟩, .string ⟨#[]⟩, .int .i64 0, .int .i64 0, .int .i64 0, .string ⟨#[]⟩, .slice none 0 0], .int .i64 3]) (w' := W) ?_ ⟨_, rfl, ⟨rfl, fun e => absurd e (by decide), fun e => absurd e (by decide)⟩, fun _ _ h => h, g1, g0, b0, b1, b2, b3, (fun e7 => by rw [set_other_get (by decide)] at e7; obtain ⟨T, t1, t2, t3⟩ := q11 e7; exact ⟨T, (put_other (by decide)).trans t1, t2, fun e8 => (t3 ((set_other_get (show 8 ≠ 12 by decide)).symm.trans e8))⟩)⟩
        unfold execOp
        simp [e70, go_sem]
      · obtain ⟨u62, e62, x62⟩ := h.new 8 _ 62 rfl rfl (haf ⟨8, .data⟩ (by simp) rfl)
        have y62 : u62 = (.tuple #[.agg #[.int .i64 0, .int .i64 0, .int .i64 0, .string ⟨#[]⟩, .string ⟨#[]⟩, .string ⟨#[]⟩, .int .i64 0, .int .i64 0, .int .i64 0, .string ⟨#[]⟩, .slice none 0 0], .int .i64 3]) := x62.1
        subst y62
        refine wp_val (v := .agg #[.int .i64 0, .int .i64 0, .int .i64 0, .string ⟨#[]⟩, .string ⟨#[]⟩, .string ⟨#[]⟩, .int .i64 0, .int .i64 0, .int .i64 0, .string ⟨#[]⟩, .slice none 0 0]) (w' := W) ?_ ⟨_, rfl, ⟨rfl, fun e => absurd e (by decide), fun e => absurd e (by decide)⟩, fun _ _ h => h, g1, g0, b0, b1, b2, b3, (fun e7 => by rw [set_other_get (by decide)] at e7; obtain ⟨T, t1, t2, t3⟩ := q11 e7; exact ⟨T, (put_other (by decide)).trans t1, t2, fun e8 => (t3 ((set_other_get (show 9 ≠ 12 by decide)).symm.trans e8))⟩)⟩
        unfold execOp
        simp [e62, go_sem]
      · obtain ⟨u62, e62, x62⟩ := h.new 8 _ 62 rfl rfl (haf ⟨8, .data⟩ (by simp) rfl)
        have y62 : u62 = (.tuple #[.agg #[.int .i64 0, .int .i64 0, .int .i64 0, .string ⟨#[]⟩, .string ⟨#[]⟩, .string ⟨#[]⟩, .int .i64 0, .int .i64 0, .int .i64 0, .string ⟨#[]⟩, .slice none 0 0], .int .i64 3]) := x62.1
        subst y62
        refine wp_val (v := .int .i64 3) (w' := W) ?_ ⟨_, rfl, ⟨rfl, fun e => absurd e (by decide), fun e => absurd e (by decide)⟩, fun _ _ h => h, g1, g0, b0, b1, b2, b3, (fun e7 => by rw [set_other_get (by decide)] at e7; obtain ⟨T, t1, t2, t3⟩ := q11 e7; exact ⟨T, (put_other (by decide)).trans t1, t2, fun e8 => (t3 ((set_other_get (show 10 ≠ 12 by decide)).symm.trans e8))⟩)⟩
        unfold execOp
        simp [e62, go_sem]
      · have m12 := h.later 12 11 _ ⟨11, .phase⟩ rfl (by simp) rfl rfl hl
        refine wp_val (v := .pointer (some ⟨W.heap.size, 0, none⟩)) (w' := W.alloc (.cells #[.int .i64 0, .int .i64 0, .int .i64 0, .string ⟨#[]⟩, .string ⟨#[]⟩, .string ⟨#[]⟩, .int .i64 0, .int .i64 0, .int .i64 0, .string ⟨#[]⟩, .slice none 0 0] 39)) ?_ ⟨_, rfl, ⟨trivial, fun e => absurd e (by decide), fun e => absurd e (by decide)⟩, fun j u hd => ⟨hd.1, fun e => by obtain ⟨n5, ev, p_n5, f_n5⟩ := hd.2.1 e; exact ⟨n5, ev, p_n5, aOld f_n5⟩, fun e => by obtain ⟨n5, ev, p_n5, f_n5⟩ := hd.2.2 e; exact ⟨n5, ev, p_n5, aOld f_n5⟩⟩, g1.alloc gz _, by simp; omega, aOld b0, aOld b1, aOld b2, aOld b3, (fun _ => ⟨W.heap.size, put_this (by rw [h.size]; exact (by decide : (8 : Nat) < 79)), g0, fun _ => aNew rfl⟩)⟩
        unfold execOp
        simp [go_sem]
      · obtain ⟨T11, t1_11, t2_11, t3_11⟩ := q11 (haf ⟨11, .phase⟩ (by simp) rfl)
        obtain ⟨u71, e71, x71⟩ := h.new 9 _ 71 rfl rfl (haf ⟨9, .phase⟩ (by simp) rfl)
        have y71 : u71 = (.agg #[.int .i64 0, .int .i64 0, .int .i64 0, .string ⟨#[]⟩, .string ⟨#[]⟩, .string ⟨#[]⟩, .int .i64 0, .int .i64 0, .int .i64 0, .string ⟨#[]⟩, .slice none 0 0]) := x71.1
        subst y71
        have m12 : l.getD 12 false = false := by rw [Array.getD_eq_getD_getElem?] at hl ⊢; cases hx : l[12]? with | none => rfl | some bb => rw [hx] at hl; exact hl
        have c_ := t3_11 m12
        obtain ⟨z0, z1, z2, z3, z4, z5, z6, z7, z8, z9, z10, zf, _⟩ := bk11 c_
        obtain ⟨W', hW'⟩ : ∃ V, V = (((((((((((W).setCell ⟨T11, 0, none⟩ (.int .i64 0)).setCell ⟨T11, 1, none⟩ (.int .i64 0)).setCell ⟨T11, 2, none⟩ (.int .i64 0)).setCell ⟨T11, 3, none⟩ (.string ⟨#[]⟩)).setCell ⟨T11, 4, none⟩ (.string ⟨#[]⟩)).setCell ⟨T11, 5, none⟩ (.string ⟨#[]⟩)).setCell ⟨T11, 6, none⟩ (.int .i64 0)).setCell ⟨T11, 7, none⟩ (.int .i64 0)).setCell ⟨T11, 8, none⟩ (.int .i64 0)).setCell ⟨T11, 9, none⟩ (.string ⟨#[]⟩)).setCell ⟨T11, 10, none⟩ (.slice none 0 0) := ⟨_, rfl⟩
        have hP : W' = putL W (T11) 0 [.int .i64 0, .int .i64 0, .int .i64 0, .string ⟨#[]⟩, .string ⟨#[]⟩, .string ⟨#[]⟩, .int .i64 0, .int .i64 0, .int .i64 0, .string ⟨#[]⟩, .slice none 0 0] := hW'
        refine wp_skip (w' := W') ?_ ⟨undef, rfl, ⟨trivial, fun e => absurd e (by decide), fun e => absurd e (by decide)⟩, fun j u hd => ⟨hd.1, fun e => by obtain ⟨n5, ev, p_n5, f_n5⟩ := hd.2.1 e; exact ⟨n5, ev, p_n5, (by rw [hP]; exact (putL_other (blk_ne c_ f_n5 (by decide)) _ _ _).trans (f_n5))⟩, fun e => by obtain ⟨n5, ev, p_n5, f_n5⟩ := hd.2.2 e; exact ⟨n5, ev, p_n5, (by rw [hP]; exact (putL_other (blk_ne c_ f_n5 (by decide)) _ _ _).trans (f_n5))⟩⟩, (by rw [hP]; exact putL_below (by omega) _ _ _ g1), Nat.le_trans g0 (by rw [hP]; exact (putL_below (B := 0) (w0 := W) (Nat.zero_le _) _ _ _ (Below.refl _ _)).size), (by rw [hP]; exact (putL_other (by omega) _ _ _).trans (b0)), (by rw [hP]; exact (putL_other (by omega) _ _ _).trans (b1)), (by rw [hP]; exact (putL_other (by omega) _ _ _).trans (b2)), (by rw [hP]; exact (putL_other (by omega) _ _ _).trans (b3)), (fun _ => ⟨T11, t1_11, t2_11, fun e8 => absurd ((set_this_get (i := 12) (n := 14) hsz (by decide)).symm.trans e8) (by decide)⟩)⟩
        rw [hW']
        clear hP hW'
        unfold execOp
        simp [t1_11, e71, z0, z1, z2, z3, z4, z5, z6, z7, z8, z9, z10, zf, go_sem]
      · obtain ⟨u72, e72, x72⟩ := h.new 10 _ 72 rfl rfl (haf ⟨10, .phase⟩ (by simp) rfl)
        have y72 : u72 = (.int .i64 3) := x72.1
        subst y72
        refine wp_val (v := .int .i64 3) (w' := W) ?_ ⟨_, rfl, ⟨rfl, fun e => absurd e (by decide), fun e => absurd e (by decide)⟩, fun _ _ h => h, g1, g0, b0, b1, b2, b3, (fun e7 => by rw [set_other_get (by decide)] at e7; obtain ⟨T, t1, t2, t3⟩ := q11 e7; exact ⟨T, (put_other (by decide)).trans t1, t2, fun e8 => (t3 ((set_other_get (show 13 ≠ 12 by decide)).symm.trans e8))⟩)⟩
        unfold execOp
        simp [e72, go_sem]
    · intro v W7 hv hs hg
      obtain ⟨g1, g0, b0, b1, b2, b3, q11⟩ := hg
      have d13 : v 13 = .int .i64 3 := (hv 13 _ 9 rfl rfl).1
      simp only [putAll, d13]
      have cE : W7.cell? ⟨eb, 5, none⟩ = some (.int .i64 3) := (Lib.cell_of_heap b3 5).trans rfl
      have HB7 := hidC g1
      clear hv hs d13 g1 g0 b0 b1 b2 b3 q11 HL6 HA6 HE6 HO6 HBw6
      go_wp2_with fail
      go_ret
      exact ⟨rfl, HB7.out⟩
  · have HL6 := HX6
    clear HX0 HX1 HX2 HX3 HX4 HX5 HX6 HX7 HX8
    refine wp_region_slots (by kernel_rfl) (fun j v W => (match j with | 0 => v = (.slice (some ⟨ax, 0, none⟩) 9 9) | 1 => v = (.int .i64 6) | 2 => v = (.pointer (some ⟨ax, 6, none⟩)) | 3 => v = (.slice (some ⟨lx6, 0, none⟩) 1 1) | 4 => v = (.agg #[.int .i64 1, .int .i64 2, .int .i64 1, .string ⟨#[]⟩, .string ⟨#[]⟩, .int .i64 0, .int .i64 0, .int .i64 0, .string ⟨#[]⟩, .slice none 0 0, .slice none 0 0]) | 7 => v = (.tuple #[.agg #[.int .i64 0, .int .i64 0, .int .i64 0, .string ⟨#[]⟩, .string ⟨#[]⟩, .string ⟨#[]⟩, .int .i64 0, .int .i64 0, .int .i64 0, .string ⟨#[]⟩, .slice none 0 0], .int .i64 10]) | 8 => v = (.tuple #[.agg #[.int .i64 0, .int .i64 0, .int .i64 0, .string ⟨#[]⟩, .string ⟨#[]⟩, .string ⟨#[]⟩, .int .i64 0, .int .i64 0, .int .i64 0, .string ⟨#[]⟩, .slice none 0 0], .int .i64 10]) | 9 => v = (.agg #[.int .i64 0, .int .i64 0, .int .i64 0, .string ⟨#[]⟩, .string ⟨#[]⟩, .string ⟨#[]⟩, .int .i64 0, .int .i64 0, .int .i64 0, .string ⟨#[]⟩, .slice none 0 0]) | 10 => v = (.int .i64 10) | 13 => v = (.int .i64 10) | _ => True) ∧ (j = 5 → ∃ n5 : Nat, v = (.slice (some ⟨n5, 0, none⟩) 1 1) ∧ w6.heap.size ≤ n5 ∧ W.heap[n5]? = some (.cells #[.int .i64 1, .int .i64 2, .int .i64 1, .string ⟨#[]⟩, .string ⟨#[]⟩, .int .i64 0, .int .i64 0, .int .i64 0, .string ⟨#[]⟩, .slice none 0 0, .slice none 0 0] 29)) ∧ (j = 6 → ∃ n5 : Nat, v = (.agg #[.int .i64 28, .int .i64 0, .int .i64 0, .string ⟨#[]⟩, .string ⟨#[]⟩, .int .i64 0, .int .i64 0, .int .i64 0, .string ⟨#[]⟩, .slice (some ⟨n5, 0, none⟩) 1 1, .slice (some ⟨lx6, 0, none⟩) 1 1]) ∧ w6.heap.size ≤ n5 ∧ W.heap[n5]? = some (.cells #[.int .i64 1, .int .i64 2, .int .i64 1, .string ⟨#[]⟩, .string ⟨#[]⟩, .int .i64 0, .int .i64 0, .int .i64 0, .string ⟨#[]⟩, .slice none 0 0, .slice none 0 0] 29))) (fun l a W => Below w.heap.size w W ∧ w6.heap.size ≤ W.heap.size ∧ W.heap[w.heap.size]? = some (.cells #[.int .i64 1, .int .i64 2, .int .i64 1, .string ⟨#[]⟩, .string ⟨#[]⟩, .int .i64 0, .int .i64 0, .int .i64 0, .string ⟨#[]⟩, .slice none 0 0, .slice none 0 0] 29) ∧ W.heap[ax]? = some (.cells #[.slice (some ⟨lx0, 0, none⟩) 2 2, .slice (some ⟨lx1, 0, none⟩) 1 1, .slice (some ⟨lx2, 0, none⟩) 3 3, .slice (some ⟨lx3, 0, none⟩) 2 2, .slice (some ⟨lx4, 0, none⟩) 3 3, .slice (some ⟨lx5, 0, none⟩) 1 1, .slice (some ⟨lx6, 0, none⟩) 1 1, .slice (some ⟨lx7, 0, none⟩) 1 1, .slice (some ⟨lx8, 0, none⟩) 3 3] 27) ∧ W.heap[lx6]? = some (.cells cll6 31) ∧ W.heap[eb]? = some (.cells #[.int .i64 4, .int .i64 4, .int .i64 4, .int .i64 4, .int .i64 4, .int .i64 3, .int .i64 10, .int .i64 7, .int .i64 0] 34) ∧ (l.getD 11 false = true → ∃ T11, a.tmps[8]? = some (.pointer (some ⟨T11, 0, none⟩)) ∧ w6.heap.size ≤ T11 ∧ (l.getD 12 false = false → W.heap[T11]? = some (.cells #[.int .i64 0, .int .i64 0, .int .i64 0, .string ⟨#[]⟩, .string ⟨#[]⟩, .string ⟨#[]⟩, .int .i64 0, .int .i64 0, .int .i64 0, .string ⟨#[]⟩, .slice none 0 0] 39)))) (by kernel_rfl) (by kernel_rfl) ⟨(HBw6.out).trans ⟨rfl, rfl, rfl, Nat.le_refl _, fun _ _ => rfl⟩, Nat.le_refl _, HO6.out, HA6.out, HL6.out, HE6.out, fun e7 => by rw [Array.getD_eq_getD_getElem?, Array.getElem?_replicate] at e7; split at e7 <;> cases e7⟩ ?_ ?_
    · intro l a W i o hsz h ho hl haf
      obtain ⟨g1, g0, b0, b1, b2, b3, q11⟩ := h.more
      have gz : w.heap.size ≤ W.heap.size := Nat.le_trans (by first | exact Nat.le_refl _ | omega) g0
      have hi : i < 14 := (Array.getElem?_eq_some_iff.1 ho).1
      obtain rfl | rfl | rfl | rfl | rfl | rfl | rfl | rfl | rfl | rfl | rfl | rfl | rfl | rfl : i = 0 ∨ i = 1 ∨ i = 2 ∨ i = 3 ∨ i = 4 ∨ i = 5 ∨ i = 6 ∨ i = 7 ∨ i = 8 ∨ i = 9 ∨ i = 10 ∨ i = 11 ∨ i = 12 ∨ i = 13 := by omega
      all_goals (obtain rfl := Option.some.inj ho; rw [if_pos (want_none rfl)])
      · have e5 := h.given 5 _ rfl (by kernel_rfl)
        refine wp_val (v := .slice (some ⟨ax, 0, none⟩) 9 9) (w' := W) ?_ ⟨_, rfl, ⟨rfl, fun e => absurd e (by decide), fun e => absurd e (by decide)⟩, fun _ _ h => h, g1, g0, b0, b1, b2, b3, (fun e7 => by rw [set_other_get (by decide)] at e7; obtain ⟨T, t1, t2, t3⟩ := q11 e7; exact ⟨T, (put_other (by decide)).trans t1, t2, fun e8 => (t3 ((set_other_get (show 0 ≠ 12 by decide)).symm.trans e8))⟩)⟩
        unfold execOp
        simp [e5, go_sem]
      · have e7 := h.given 7 _ rfl (by kernel_rfl)
        refine wp_val (v := .int .i64 6) (w' := W) ?_ ⟨_, rfl, ⟨rfl, fun e => absurd e (by decide), fun e => absurd e (by decide)⟩, fun _ _ h => h, g1, g0, b0, b1, b2, b3, (fun e7 => by rw [set_other_get (by decide)] at e7; obtain ⟨T, t1, t2, t3⟩ := q11 e7; exact ⟨T, (put_other (by decide)).trans t1, t2, fun e8 => (t3 ((set_other_get (show 1 ≠ 12 by decide)).symm.trans e8))⟩)⟩
        unfold execOp
        simp [e7, go_sem]
      · obtain ⟨u63, e63, x63⟩ := h.new 0 _ 63 rfl rfl (haf ⟨0, .data⟩ (by simp) rfl)
        have y63 : u63 = (.slice (some ⟨ax, 0, none⟩) 9 9) := x63.1
        subst y63
        obtain ⟨u64, e64, x64⟩ := h.new 1 _ 64 rfl rfl (haf ⟨1, .data⟩ (by simp) rfl)
        have y64 : u64 = (.int .i64 6) := x64.1
        subst y64
        refine wp_val (v := .pointer (some ⟨ax, 6, none⟩)) (w' := W) ?_ ⟨_, rfl, ⟨rfl, fun e => absurd e (by decide), fun e => absurd e (by decide)⟩, fun _ _ h => h, g1, g0, b0, b1, b2, b3, (fun e7 => by rw [set_other_get (by decide)] at e7; obtain ⟨T, t1, t2, t3⟩ := q11 e7; exact ⟨T, (put_other (by decide)).trans t1, t2, fun e8 => (t3 ((set_other_get (show 2 ≠ 12 by decide)).symm.trans e8))⟩)⟩
        unfold execOp
        simp [e63, e64, go_sem]
      · obtain ⟨u65, e65, x65⟩ := h.new 2 _ 65 rfl rfl (haf ⟨2, .data⟩ (by simp) rfl)
        have y65 : u65 = (.pointer (some ⟨ax, 6, none⟩)) := x65.1
        subst y65
        have c_ := b1
        have c0 := (Lib.cell_of_heap c_ 6).trans rfl
        refine wp_val (v := .slice (some ⟨lx6, 0, none⟩) 1 1) (w' := W) ?_ ⟨_, rfl, ⟨rfl, fun e => absurd e (by decide), fun e => absurd e (by decide)⟩, fun _ _ h => h, g1, g0, b0, b1, b2, b3, (fun e7 => by rw [set_other_get (by decide)] at e7; obtain ⟨T, t1, t2, t3⟩ := q11 e7; exact ⟨T, (put_other (by decide)).trans t1, t2, fun e8 => (t3 ((set_other_get (show 3 ≠ 12 by decide)).symm.trans e8))⟩)⟩
        unfold execOp
        simp [e65, c0, go_sem]
      · have e3 := h.given 3 _ rfl (by kernel_rfl)
        have c_ := b0
        obtain ⟨c0, c1, c2, c3, c4, c5, c6, c7, c8, c9, c10, _, _⟩ := bk11 c_
        refine wp_val (v := .agg #[.int .i64 1, .int .i64 2, .int .i64 1, .string ⟨#[]⟩, .string ⟨#[]⟩, .int .i64 0, .int .i64 0, .int .i64 0, .string ⟨#[]⟩, .slice none 0 0, .slice none 0 0]) (w' := W) ?_ ⟨_, rfl, ⟨rfl, fun e => absurd e (by decide), fun e => absurd e (by decide)⟩, fun _ _ h => h, g1, g0, b0, b1, b2, b3, (fun e7 => by rw [set_other_get (by decide)] at e7; obtain ⟨T, t1, t2, t3⟩ := q11 e7; exact ⟨T, (put_other (by decide)).trans t1, t2, fun e8 => (t3 ((set_other_get (show 4 ≠ 12 by decide)).symm.trans e8))⟩)⟩
        unfold execOp
        simp [e3, c0, c1, c2, c3, c4, c5, c6, c7, c8, c9, c10, go_sem]
      · obtain ⟨u67, e67, x67⟩ := h.new 4 _ 67 rfl rfl (haf ⟨4, .data⟩ (by simp) rfl)
        have y67 : u67 = (.agg #[.int .i64 1, .int .i64 2, .int .i64 1, .string ⟨#[]⟩, .string ⟨#[]⟩, .int .i64 0, .int .i64 0, .int .i64 0, .string ⟨#[]⟩, .slice none 0 0, .slice none 0 0]) := x67.1
        subst y67
        refine wp_val (v := .slice (some ⟨W.heap.size, 0, none⟩) 1 1) (w' := W.alloc (.cells #[.int .i64 1, .int .i64 2, .int .i64 1, .string ⟨#[]⟩, .string ⟨#[]⟩, .int .i64 0, .int .i64 0, .int .i64 0, .string ⟨#[]⟩, .slice none 0 0, .slice none 0 0] 29)) ?_ ⟨_, rfl, ⟨trivial, fun _ => ⟨W.heap.size, rfl, g0, aNew rfl⟩, fun e => absurd e (by decide)⟩, fun j u hd => ⟨hd.1, fun e => by obtain ⟨n5, ev, p_n5, f_n5⟩ := hd.2.1 e; exact ⟨n5, ev, p_n5, aOld f_n5⟩, fun e => by obtain ⟨n5, ev, p_n5, f_n5⟩ := hd.2.2 e; exact ⟨n5, ev, p_n5, aOld f_n5⟩⟩, g1.alloc gz _, by simp; omega, aOld b0, aOld b1, aOld b2, aOld b3, (fun e7 => by rw [set_other_get (by decide)] at e7; obtain ⟨T, t1, t2, t3⟩ := q11 e7; exact ⟨T, (put_other (by decide)).trans t1, t2, fun e8 => aOld (t3 ((set_other_get (show 5 ≠ 12 by decide)).symm.trans e8))⟩)⟩
        unfold execOp
        simp [e67, go_sem]
      · obtain ⟨u66, e66, x66⟩ := h.new 3 _ 66 rfl rfl (haf ⟨3, .data⟩ (by simp) rfl)
        have y66 : u66 = (.slice (some ⟨lx6, 0, none⟩) 1 1) := x66.1
        subst y66
        obtain ⟨u68, e68, x68⟩ := h.new 5 _ 68 rfl rfl (haf ⟨5, .data⟩ (by simp) rfl)
        obtain ⟨n5, rfl, p_n5, f_n5⟩ := x68.2.1 rfl
        refine wp_val (v := .agg #[.int .i64 28, .int .i64 0, .int .i64 0, .string ⟨#[]⟩, .string ⟨#[]⟩, .int .i64 0, .int .i64 0, .int .i64 0, .string ⟨#[]⟩, .slice (some ⟨n5, 0, none⟩) 1 1, .slice (some ⟨lx6, 0, none⟩) 1 1]) (w' := W) ?_ ⟨_, rfl, ⟨trivial, fun e => absurd e (by decide), fun _ => ⟨n5, rfl, p_n5, f_n5⟩⟩, fun _ _ h => h, g1, g0, b0, b1, b2, b3, (fun e7 => by rw [set_other_get (by decide)] at e7; obtain ⟨T, t1, t2, t3⟩ := q11 e7; exact ⟨T, (put_other (by decide)).trans t1, t2, fun e8 => (t3 ((set_other_get (show 6 ≠ 12 by decide)).symm.trans e8))⟩)⟩
        unfold execOp
        simp [e66, e68, go_sem]
      · obtain ⟨u69, e69, x69⟩ := h.new 6 _ 69 rfl rfl (haf ⟨6, .data⟩ (by simp) rfl)
        obtain ⟨n5, rfl, p_n5, f_n5⟩ := x69.2.2 rfl
        refine wp_enter (f := 6) (args := #[.agg #[.int .i64 28, .int .i64 0, .int .i64 0, .string ⟨#[]⟩, .string ⟨#[]⟩, .int .i64 0, .int .i64 0, .int .i64 0, .string ⟨#[]⟩, .slice (some ⟨n5, 0, none⟩) 1 1, .slice (some ⟨lx6, 0, none⟩) 1 1]]) (w' := W) ?_ ((low_6 n5 lx6 W b2).mono ?_)
        · unfold execOp
          simp [e69, go_sem]
        · rintro e W' ⟨rfl, hb⟩
          exact ⟨_, rfl, _, rfl, ⟨rfl, fun e => absurd e (by decide), fun e => absurd e (by decide)⟩, fun j u hd => ⟨hd.1, fun e => by obtain ⟨n5, ev, p_n5, f_n5⟩ := hd.2.1 e; exact ⟨n5, ev, p_n5, blK hb f_n5⟩, fun e => by obtain ⟨n5, ev, p_n5, f_n5⟩ := hd.2.2 e; exact ⟨n5, ev, p_n5, blK hb f_n5⟩⟩, g1.trans (hb.mono gz), Nat.le_trans g0 hb.size, blK hb b0, blK hb b1, blK hb b2, blK hb b3, (fun e7 => by rw [set_other_get (by decide)] at e7; obtain ⟨T, t1, t2, t3⟩ := q11 e7; exact ⟨T, (put_other (by decide)).trans t1, t2, fun e8 => blK hb ((t3 ((set_other_get (show 7 ≠ 12 by decide)).symm.trans e8)))⟩)⟩
      · obtain ⟨u70, e70, x70⟩ := h.new 7 _ 70 rfl rfl (haf ⟨7, .data⟩ (by simp) rfl)
        have y70 : u70 = (.tuple #[.agg #[.int .i64 0, .int .i64 0, .int .i64 0, .string ⟨#[]⟩, .string ⟨#[]⟩, .string ⟨#[]⟩, .int .i64 0, .int .i64 0, .int .i64 0, .string ⟨#[]⟩, .slice none 0 0], .int .i64 10]) := x70.1
        subst y70
        refine wp_val (v := .tuple #[.agg #[.int .i64 0, .int .i64 0, .int .i64 0, .string ⟨#[]⟩, .string ⟨#[]⟩, .string ⟨#[]⟩, .int .i64 0, .int .i64 0, .int .i64 0, .string ⟨#[]⟩, .slice none 0 0], .int .i64 10]) (w' := W) ?_ ⟨_, rfl, ⟨rfl, fun e => absurd e (by decide), fun e => absurd e (by decide)⟩, fun _ _ h => h, g1, g0, b0, b1, b2, b3, (fun e7 => by rw [set_other_get (by decide)] at e7; obtain ⟨T, t1, t2, t3⟩ := q11 e7; exact ⟨T, (put_other (by decide)).trans t1, t2, fun e8 => (t3 ((set_other_get (show 8 ≠ 12 by decide)).symm.trans e8))⟩)⟩
        unfold execOp
        simp [e70, go_sem]
      · obtain ⟨u62, e62, x62⟩ := h.new 8 _ 62 rfl rfl (haf ⟨8, .data⟩ (by simp) rfl)
        have y62 : u62 = (.tuple #[.agg #[.int .i64 0, .int .i64 0, .int .i64 0, .string ⟨#[]⟩, .string ⟨#[]⟩, .string ⟨#[]⟩, .int .i64 0, .int .i64 0, .int .i64 0, .string ⟨#[]⟩, .slice none 0 0], .int .i64 10]) := x62.1
        subst y62
        refine wp_val (v := .agg #[.int .i64 0, .int .i64 0, .int .i64 0, .string ⟨#[]⟩, .string ⟨#[]⟩, .string ⟨#[]⟩, .int .i64 0, .int .i64 0, .int .i64 0, .string ⟨#[]⟩, .slice none 0 0]) (w' := W) ?_ ⟨_, rfl, ⟨rfl, fun e => absurd e (by decide), fun e => absurd e (by decide)⟩, fun _ _ h => h, g1, g0, b0, b1, b2, b3, (fun e7 => by rw [set_other_get (by decide)] at e7; obtain ⟨T, t1, t2, t3⟩ := q11 e7; exact ⟨T, (put_other (by decide)).trans t1, t2, fun e8 => (t3 ((set_other_get (show 9 ≠ 12 by decide)).symm.trans e8))⟩)⟩
        unfold execOp
        simp [e62, go_sem]
      · obtain ⟨u62, e62, x62⟩ := h.new 8 _ 62 rfl rfl (haf ⟨8, .data⟩ (by simp) rfl)
        have y62 : u62 = (.tuple #[.agg #[.int .i64 0, .int .i64 0, .int .i64 0, .string ⟨#[]⟩, .string ⟨#[]⟩, .string ⟨#[]⟩, .int .i64 0, .int .i64 0, .int .i64 0, .string ⟨#[]⟩, .slice none 0 0], .int .i64 10]) := x62.1
        subst y62
        refine wp_val (v := .int .i64 10) (w' := W) ?_ ⟨_, rfl, ⟨rfl, fun e => absurd e (by decide), fun e => absurd e (by decide)⟩, fun _ _ h => h, g1, g0, b0, b1, b2, b3, (fun e7 => by rw [set_other_get (by decide)] at e7; obtain ⟨T, t1, t2, t3⟩ := q11 e7; exact ⟨T, (put_other (by decide)).trans t1, t2, fun e8 => (t3 ((set_other_get (show 10 ≠ 12 by decide)).symm.trans e8))⟩)⟩
        unfold execOp
        simp [e62, go_sem]
      · have m12 := h.later 12 11 _ ⟨11, .phase⟩ rfl (by simp) rfl rfl hl
        refine wp_val (v := .pointer (some ⟨W.heap.size, 0, none⟩)) (w' := W.alloc (.cells #[.int .i64 0, .int .i64 0, .int .i64 0, .string ⟨#[]⟩, .string ⟨#[]⟩, .string ⟨#[]⟩, .int .i64 0, .int .i64 0, .int .i64 0, .string ⟨#[]⟩, .slice none 0 0] 39)) ?_ ⟨_, rfl, ⟨trivial, fun e => absurd e (by decide), fun e => absurd e (by decide)⟩, fun j u hd => ⟨hd.1, fun e => by obtain ⟨n5, ev, p_n5, f_n5⟩ := hd.2.1 e; exact ⟨n5, ev, p_n5, aOld f_n5⟩, fun e => by obtain ⟨n5, ev, p_n5, f_n5⟩ := hd.2.2 e; exact ⟨n5, ev, p_n5, aOld f_n5⟩⟩, g1.alloc gz _, by simp; omega, aOld b0, aOld b1, aOld b2, aOld b3, (fun _ => ⟨W.heap.size, put_this (by rw [h.size]; exact (by decide : (8 : Nat) < 79)), g0, fun _ => aNew rfl⟩)⟩
        unfold execOp
        simp [go_sem]
      · obtain ⟨T11, t1_11, t2_11, t3_11⟩ := q11 (haf ⟨11, .phase⟩ (by simp) rfl)
        obtain ⟨u71, e71, x71⟩ := h.new 9 _ 71 rfl rfl (haf ⟨9, .phase⟩ (by simp) rfl)
        have y71 : u71 = (.agg #[.int .i64 0, .int .i64 0, .int .i64 0, .string ⟨#[]⟩, .string ⟨#[]⟩, .string ⟨#[]⟩, .int .i64 0, .int .i64 0, .int .i64 0, .string ⟨#[]⟩, .slice none 0 0]) := x71.1
        subst y71
        have m12 : l.getD 12 false = false := by rw [Array.getD_eq_getD_getElem?] at hl ⊢; cases hx : l[12]? with | none => rfl | some bb => rw [hx] at hl; exact hl
        have c_ := t3_11 m12
        obtain ⟨z0, z1, z2, z3, z4, z5, z6, z7, z8, z9, z10, zf, _⟩ := bk11 c_
        obtain ⟨W', hW'⟩ : ∃ V, V = (((((((((((W).setCell ⟨T11, 0, none⟩ (.int .i64 0)).setCell ⟨T11, 1, none⟩ (.int .i64 0)).setCell ⟨T11, 2, none⟩ (.int .i64 0)).setCell ⟨T11, 3, none⟩ (.string ⟨#[]⟩)).setCell ⟨T11, 4, none⟩ (.string ⟨#[]⟩)).setCell ⟨T11, 5, none⟩ (.string ⟨#[]⟩)).setCell ⟨T11, 6, none⟩ (.int .i64 0)).setCell ⟨T11, 7, none⟩ (.int .i64 0)).setCell ⟨T11, 8, none⟩ (.int .i64 0)).setCell ⟨T11, 9, none⟩ (.string ⟨#[]⟩)).setCell ⟨T11, 10, none⟩ (.slice none 0 0) := ⟨_, rfl⟩
        have hP : W' = putL W (T11) 0 [.int .i64 0, .int .i64 0, .int .i64 0, .string ⟨#[]⟩, .string ⟨#[]⟩, .string ⟨#[]⟩, .int .i64 0, .int .i64 0, .int .i64 0, .string ⟨#[]⟩, .slice none 0 0] := hW'
        refine wp_skip (w' := W') ?_ ⟨undef, rfl, ⟨trivial, fun e => absurd e (by decide), fun e => absurd e (by decide)⟩, fun j u hd => ⟨hd.1, fun e => by obtain ⟨n5, ev, p_n5, f_n5⟩ := hd.2.1 e; exact ⟨n5, ev, p_n5, (by rw [hP]; exact (putL_other (blk_ne c_ f_n5 (by decide)) _ _ _).trans (f_n5))⟩, fun e => by obtain ⟨n5, ev, p_n5, f_n5⟩ := hd.2.2 e; exact ⟨n5, ev, p_n5, (by rw [hP]; exact (putL_other (blk_ne c_ f_n5 (by decide)) _ _ _).trans (f_n5))⟩⟩, (by rw [hP]; exact putL_below (by omega) _ _ _ g1), Nat.le_trans g0 (by rw [hP]; exact (putL_below (B := 0) (w0 := W) (Nat.zero_le _) _ _ _ (Below.refl _ _)).size), (by rw [hP]; exact (putL_other (by omega) _ _ _).trans (b0)), (by rw [hP]; exact (putL_other (by omega) _ _ _).trans (b1)), (by rw [hP]; exact (putL_other (by omega) _ _ _).trans (b2)), (by rw [hP]; exact (putL_other (by omega) _ _ _).trans (b3)), (fun _ => ⟨T11, t1_11, t2_11, fun e8 => absurd ((set_this_get (i := 12) (n := 14) hsz (by decide)).symm.trans e8) (by decide)⟩)⟩
        rw [hW']
        clear hP hW'
        unfold execOp
        simp [t1_11, e71, z0, z1, z2, z3, z4, z5, z6, z7, z8, z9, z10, zf, go_sem]
      · obtain ⟨u72, e72, x72⟩ := h.new 10 _ 72 rfl rfl (haf ⟨10, .phase⟩ (by simp) rfl)
        have y72 : u72 = (.int .i64 10) := x72.1
        subst y72
        refine wp_val (v := .int .i64 10) (w' := W) ?_ ⟨_, rfl, ⟨rfl, fun e => absurd e (by decide), fun e => absurd e (by decide)⟩, fun _ _ h => h, g1, g0, b0, b1, b2, b3, (fun e7 => by rw [set_other_get (by decide)] at e7; obtain ⟨T, t1, t2, t3⟩ := q11 e7; exact ⟨T, (put_other (by decide)).trans t1, t2, fun e8 => (t3 ((set_other_get (show 13 ≠ 12 by decide)).symm.trans e8))⟩)⟩
        unfold execOp
        simp [e72, go_sem]
    · intro v W7 hv hs hg
      obtain ⟨g1, g0, b0, b1, b2, b3, q11⟩ := hg
      have d13 : v 13 = .int .i64 10 := (hv 13 _ 9 rfl rfl).1
      simp only [putAll, d13]
      have cE : W7.cell? ⟨eb, 6, none⟩ = some (.int .i64 10) := (Lib.cell_of_heap b3 6).trans rfl
      have HB7 := hidC g1
      clear hv hs d13 g1 g0 b0 b1 b2 b3 q11 HL6 HA6 HE6 HO6 HBw6
      go_wp2_with fail
      go_ret
      exact ⟨rfl, HB7.out⟩
  · have HL6 := HX7
    clear HX0 HX1 HX2 HX3 HX4 HX5 HX6 HX7 HX8
    refine wp_region_slots (by kernel_rfl) (fun j v W => (match j with | 0 => v = (.slice (some ⟨ax, 0, none⟩) 9 9) | 1 => v = (.int .i64 7) | 2 => v = (.pointer (some ⟨ax, 7, none⟩)) | 3 => v = (.slice (some ⟨lx7, 0, none⟩) 1 1) | 4 => v = (.agg #[.int .i64 1, .int .i64 2, .int .i64 1, .string ⟨#[]⟩, .string ⟨#[]⟩, .int .i64 0, .int .i64 0, .int .i64 0, .string ⟨#[]⟩, .slice none 0 0, .slice none 0 0]) | 7 => v = (.tuple #[.agg #[.int .i64 0, .int .i64 0, .int .i64 0, .string ⟨#[]⟩, .string ⟨#[]⟩, .string ⟨#[]⟩, .int .i64 0, .int .i64 0, .int .i64 0, .string ⟨#[]⟩, .slice none 0 0], .int .i64 7]) | 8 => v = (.tuple #[.agg #[.int .i64 0, .int .i64 0, .int .i64 0, .string ⟨#[]⟩, .string ⟨#[]⟩, .string ⟨#[]⟩, .int .i64 0, .int .i64 0, .int .i64 0, .string ⟨#[]⟩, .slice none 0 0], .int .i64 7]) | 9 => v = (.agg #[.int .i64 0, .int .i64 0, .int .i64 0, .string ⟨#[]⟩, .string ⟨#[]⟩, .string ⟨#[]⟩, .int .i64 0, .int .i64 0, .int .i64 0, .string ⟨#[]⟩, .slice none 0 0]) | 10 => v = (.int .i64 7) | 13 => v = (.int .i64 7) | _ => True) ∧ (j = 5 → ∃ n5 : Nat, v = (.slice (some ⟨n5, 0, none⟩) 1 1) ∧ w6.heap.size ≤ n5 ∧ W.heap[n5]? = some (.cells #[.int .i64 1, .int .i64 2, .int .i64 1, .string ⟨#[]⟩, .string ⟨#[]⟩, .int .i64 0, .int .i64 0, .int .i64 0, .string ⟨#[]⟩, .slice none 0 0, .slice none 0 0] 29)) ∧ (j = 6 → ∃ n5 : Nat, v = (.agg #[.int .i64 28, .int .i64 0, .int .i64 0, .string ⟨#[]⟩, .string ⟨#[]⟩, .int .i64 0, .int .i64 0, .int .i64 0, .string ⟨#[]⟩, .slice (some ⟨n5, 0, none⟩) 1 1, .slice (some ⟨lx7, 0, none⟩) 1 1]) ∧ w6.heap.size ≤ n5 ∧ W.heap[n5]? = some (.cells #[.int .i64 1, .int .i64 2, .int .i64 1, .string ⟨#[]⟩, .string ⟨#[]⟩, .int .i64 0, .int .i64 0, .int .i64 0, .string ⟨#[]⟩, .slice none 0 0, .slice none 0 0] 29))) (fun l a W => Below w.heap.size w W ∧ w6.heap.size ≤ W.heap.size ∧ W.heap[w.heap.size]? = some (.cells #[.int .i64 1, .int .i64 2, .int .i64 1, .string ⟨#[]⟩, .string ⟨#[]⟩, .int .i64 0, .int .i64 0, .int .i64 0, .string ⟨#[]⟩, .slice none 0 0, .slice none 0 0] 29) ∧ W.heap[ax]? = some (.cells #[.slice (some ⟨lx0, 0, none⟩) 2 2, .slice (some ⟨lx1, 0, none⟩) 1 1, .slice (some ⟨lx2, 0, none⟩) 3 3, .slice (some ⟨lx3, 0, none⟩) 2 2, .slice (some ⟨lx4, 0, none⟩) 3 3, .slice (some ⟨lx5, 0, none⟩) 1 1, .slice (some ⟨lx6, 0, none⟩) 1 1, .slice (some ⟨lx7, 0, none⟩) 1 1, .slice (some ⟨lx8, 0, none⟩) 3 3] 27) ∧ W.heap[lx7]? = some (.cells cll7 31) ∧ W.heap[eb]? = some (.cells #[.int .i64 4, .int .i64 4, .int .i64 4, .int .i64 4, .int .i64 4, .int .i64 3, .int .i64 10, .int .i64 7, .int .i64 0] 34) ∧ (l.getD 11 false = true → ∃ T11, a.tmps[8]? = some (.pointer (some ⟨T11, 0, none⟩)) ∧ w6.heap.size ≤ T11 ∧ (l.getD 12 false = false → W.heap[T11]? = some (.cells #[.int .i64 0, .int .i64 0, .int .i64 0, .string ⟨#[]⟩, .string ⟨#[]⟩, .string ⟨#[]⟩, .int .i64 0, .int .i64 0, .int .i64 0, .string ⟨#[]⟩, .slice none 0 0] 39)))) (by kernel_rfl) (by kernel_rfl) ⟨(HBw6.out).trans ⟨rfl, rfl, rfl, Nat.le_refl _, fun _ _ => rfl⟩, Nat.le_refl _, HO6.out, HA6.out, HL6.out, HE6.out, fun e7 => by rw [Array.getD_eq_getD_getElem?, Array.getElem?_replicate] at e7; split at e7 <;> cases e7⟩ ?_ ?_
    · intro l a W i o hsz h ho hl haf
      obtain ⟨g1, g0, b0, b1, b2, b3, q11⟩ := h.more
      have gz : w.heap.size ≤ W.heap.size := Nat.le_trans (by first | exact Nat.le_refl _ | omega) g0
      have hi : i < 14 := (Array.getElem?_eq_some_iff.1 ho).1
      obtain rfl | rfl | rfl | rfl | rfl | rfl | rfl | rfl | rfl | rfl | rfl | rfl | rfl | rfl : i = 0 ∨ i = 1 ∨ i = 2 ∨ i = 3 ∨ i = 4 ∨ i = 5 ∨ i = 6 ∨ i = 7 ∨ i = 8 ∨ i = 9 ∨ i = 10 ∨ i = 11 ∨ i = 12 ∨ i = 13 := by omega
      all_goals (obtain rfl := Option.some.inj ho; rw [if_pos (want_none rfl)])
      · have e5 := h.given 5 _ rfl (by kernel_rfl)
        refine wp_val (v := .slice (some ⟨ax, 0, none⟩) 9 9) (w' := W) ?_ ⟨_, rfl, ⟨rfl, fun e => absurd e (by decide), fun e => absurd e (by decide)⟩, fun _ _ h => h, g1, g0, b0, b1, b2, b3, (fun e7 => by rw [set_other_get (by decide)] at e7; obtain ⟨T, t1, t2, t3⟩ := q11 e7; exact ⟨T, (put_other (by decide)).trans t1, t2, fun e8 => (t3 ((set_other_get (show 0 ≠ 12 by decide)).symm.trans e8))⟩)⟩
        unfold execOp
        simp [e5, go_sem]
      · have e7 := h.given 7 _ rfl (by kernel_rfl)
        refine wp_val (v := .int .i64 7) (w' := W) ?_ ⟨_, rfl, ⟨rfl, fun e => absurd e (by decide), fun e => absurd e (by decide)⟩, fun _ _ h => h, g1, g0, b0, b1, b2, b3, (fun e7 => by rw [set_other_get (by decide)] at e7; obtain ⟨T, t1, t2, t3⟩ := q11 e7; exact ⟨T, (put_other (by decide)).trans t1, t2, fun e8 => (t3 ((set_other_get (show 1 ≠ 12 by decide)).symm.trans e8))⟩)⟩
        unfold execOp
        simp [e7, go_sem]
      · obtain ⟨u63, e63, x63⟩ := h.new 0 _ 63 rfl rfl (haf ⟨0, .data⟩ (by simp) rfl)
        have y63 : u63 = (.slice (some ⟨ax, 0, none⟩) 9 9) := x63.1
        subst y63
        obtain ⟨u64, e64, x64⟩ := h.new 1 _ 64 rfl rfl (haf ⟨1, .data⟩ (by simp) rfl)
        have y64 : u64 = (.int .i64 7) := x64.1
        subst y64
        refine wp_val (v := .pointer (some ⟨ax, 7, none⟩)) (w' := W) ?_ ⟨_, rfl, ⟨rfl, fun e => absurd e (by decide), fun e => absurd e (by decide)⟩, fun _ _ h => h, g1, g0, b0, b1, b2, b3, (fun e7 => by rw [set_other_get (by decide)] at e7; obtain ⟨T, t1, t2, t3⟩ := q11 e7; exact ⟨T, (put_other (by decide)).trans t1, t2, fun e8 => (t3 ((set_other_get (show 2 ≠ 12 by decide)).symm.trans e8))⟩)⟩
        unfold execOp
        simp [e63, e64, go_sem]
      · obtain ⟨u65, e65, x65⟩ := h.new 2 _ 65 rfl rfl (haf ⟨2, .data⟩ (by simp) rfl)
        have y65 : u65 = (.pointer (some ⟨ax, 7, none⟩)) := x65.1
        subst y65
        have c_ := b1
        have c0 := (Lib.cell_of_heap c_ 7).trans rfl
        refine wp_val (v := .slice (some ⟨lx7, 0, none⟩) 1 1) (w' := W) ?_ ⟨_, rfl, ⟨rfl, fun e => absurd e (by decide), fun e => absurd e (by decide)⟩, fun _ _ h => h, g1, g0, b0, b1, b2, b3, (fun e7 => by rw [set_other_get (by decide)] at e7; obtain ⟨T, t1, t2, t3⟩ := q11 e7; exact ⟨T, (put_other (by decide)).trans t1, t2, fun e8 => (t3 ((set_other_get (show 3 ≠ 12 by decide)).symm.trans e8))⟩)⟩
        unfold execOp
        simp [e65, c0, go_sem]
      · have e3 := h.given 3 _ rfl (by kernel_rfl)
        have c_ := b0
        obtain ⟨c0, c1, c2, c3, c4, c5, c6, c7, c8, c9, c10, _, _⟩ := bk11 c_
        refine wp_val (v := .agg #[.int .i64 1, .int .i64 2, .int .i64 1, .string ⟨#[]⟩, .string ⟨#[]⟩, .int .i64 0, .int .i64 0, .int .i64 0, .string ⟨#[]⟩, .slice none 0 0, .slice none 0 0]) (w' := W) ?_ ⟨_, rfl, ⟨rfl, fun e => absurd e (by decide), fun e => absurd e (by decide)⟩, fun _ _ h => h, g1, g0, b0, b1, b2, b3, (fun e7 => by rw [set_other_get (by decide)] at e7; obtain ⟨T, t1, t2, t3⟩ := q11 e7; exact ⟨T, (put_other (by decide)).trans t1, t2, fun e8 => (t3 ((set_other_get (show 4 ≠ 12 by decide)).symm.trans e8))⟩)⟩
        unfold execOp
        simp [e3, c0, c1, c2, c3, c4, c5, c6, c7, c8, c9, c10, go_sem]
      · obtain ⟨u67, e67, x67⟩ := h.new 4 _ 67 rfl rfl (haf ⟨4, .data⟩ (by simp) rfl)
        have y67 : u67 = (.agg #[.int .i64 1, .int .i64 2, .int .i64 1, .string ⟨#[]⟩, .string ⟨#[]⟩, .int .i64 0, .int .i64 0, .int .i64 0, .string ⟨#[]⟩, .slice none 0 0, .slice none 0 0]) := x67.1
        subst y67
        refine wp_val (v := .slice (some ⟨W.heap.size, 0, none⟩) 1 1) (w' := W.alloc (.cells #[.int .i64 1, .int .i64 2, .int .i64 1, .string ⟨#[]⟩, .string ⟨#[]⟩, .int .i64 0, .int .i64 0, .int .i64 0, .string ⟨#[]⟩, .slice none 0 0, .slice none 0 0] 29)) ?_ ⟨_, rfl, ⟨trivial, fun _ => ⟨W.heap.size, rfl, g0, aNew rfl⟩, fun e => absurd e (by decide)⟩, fun j u hd => ⟨hd.1, fun e => by obtain ⟨n5, ev, p_n5, f_n5⟩ := hd.2.1 e; exact ⟨n5, ev, p_n5, aOld f_n5⟩, fun e => by obtain ⟨n5, ev, p_n5, f_n5⟩ := hd.2.2 e; exact ⟨n5, ev, p_n5, aOld f_n5⟩⟩, g1.alloc gz _, by simp; omega, aOld b0, aOld b1, aOld b2, aOld b3, (fun e7 => by rw [set_other_get (by decide)] at e7; obtain ⟨T, t1, t2, t3⟩ := q11 e7; exact ⟨T, (put_other (by decide)).trans t1, t2, fun e8 => aOld (t3 ((set_other_get (show 5 ≠ 12 by decide)).symm.trans e8))⟩)⟩
        unfold execOp
        simp [e67, go_sem]
      · obtain ⟨u66, e66, x66⟩ := h.new 3 _ 66 rfl rfl (haf ⟨3, .data⟩ (by simp) rfl)
        have y66 : u66 = (.slice (some ⟨lx7, 0, none⟩) 1 1) := x66.1
        subst y66
        obtain ⟨u68, e68, x68⟩ := h.new 5 _ 68 rfl rfl (haf ⟨5, .data⟩ (by simp) rfl)
        obtain ⟨n5, rfl, p_n5, f_n5⟩ := x68.2.1 rfl
        refine wp_val (v := .agg #[.int .i64 28, .int .i64 0, .int .i64 0, .string ⟨#[]⟩, .string ⟨#[]⟩, .int .i64 0, .int .i64 0, .int .i64 0, .string ⟨#[]⟩, .slice (some ⟨n5, 0, none⟩) 1 1, .slice (some ⟨lx7, 0, none⟩) 1 1]) (w' := W) ?_ ⟨_, rfl, ⟨trivial, fun e => absurd e (by decide), fun _ => ⟨n5, rfl, p_n5, f_n5⟩⟩, fun _ _ h => h, g1, g0, b0, b1, b2, b3, (fun e7 => by rw [set_other_get (by decide)] at e7; obtain ⟨T, t1, t2, t3⟩ := q11 e7; exact ⟨T, (put_other (by decide)).trans t1, t2, fun e8 => (t3 ((set_other_get (show 6 ≠ 12 by decide)).symm.trans e8))⟩)⟩
        unfold execOp
        simp [e66, e68, go_sem]
      · obtain ⟨u69, e69, x69⟩ := h.new 6 _ 69 rfl rfl (haf ⟨6, .data⟩ (by simp) rfl)
        obtain ⟨n5, rfl, p_n5, f_n5⟩ := x69.2.2 rfl
        refine wp_enter (f := 6) (args := #[.agg #[.int .i64 28, .int .i64 0, .int .i64 0, .string ⟨#[]⟩, .string ⟨#[]⟩, .int .i64 0, .int .i64 0, .int .i64 0, .string ⟨#[]⟩, .slice (some ⟨n5, 0, none⟩) 1 1, .slice (some ⟨lx7, 0, none⟩) 1 1]]) (w' := W) ?_ ((low_7 n5 lx7 W b2).mono ?_)
        · unfold execOp
          simp [e69, go_sem]
        · rintro e W' ⟨rfl, hb⟩
          exact ⟨_, rfl, _, rfl, ⟨rfl, fun e => absurd e (by decide), fun e => absurd e (by decide)⟩, fun j u hd => ⟨hd.1, fun e => by obtain ⟨n5, ev, p_n5, f_n5⟩ := hd.2.1 e; exact ⟨n5, ev, p_n5, blK hb f_n5⟩, fun e => by obtain ⟨n5, ev, p_n5, f_n5⟩ := hd.2.2 e; exact ⟨n5, ev, p_n5, blK hb f_n5⟩⟩, g1.trans (hb.mono gz), Nat.le_trans g0 hb.size, blK hb b0, blK hb b1, blK hb b2, blK hb b3, (fun e7 => by rw [set_other_get (by decide)] at e7; obtain ⟨T, t1, t2, t3⟩ := q11 e7; exact ⟨T, (put_other (by decide)).trans t1, t2, fun e8 => blK hb ((t3 ((set_other_get (show 7 ≠ 12 by decide)).symm.trans e8)))⟩)⟩
      · obtain ⟨u70, e70, x70⟩ := h.new 7 _ 70 rfl rfl (haf ⟨7, .data⟩ (by simp) rfl)
        have y70 : u70 = (.tuple #[.agg #[.int .i64 0, .int .i64 0, .int .i64 0, .string ⟨#[]⟩, .string ⟨#[]⟩, .string ⟨#[]⟩, .int .i64 0, .int .i64 0, .int .i64 0, .string ⟨#[]⟩, .slice none 0 0], .int .i64 7]) := x70.1
        subst y70
        refine wp_val (v := .tuple #[.agg #[.int .i64 0, .int .i64 0, .int .i64 0, .string ⟨#[]⟩, .string ⟨#[]⟩, .string ⟨#[]⟩, .int .i64 0, .int .i64 0, .int .i64 0, .string ⟨#[]⟩, .slice none 0 0], .int .i64 7]) (w' := W) ?_ ⟨_, rfl, ⟨rfl, fun e => absurd e (by decide), fun e => absurd e (by decide)⟩, fun _ _ h => h, g1, g0, b0, b1, b2, b3, (fun e7 => by rw [set_other_get (by decide)] at e7; obtain ⟨T, t1, t2, t3⟩ := q11 e7; exact ⟨T, (put_other (by decide)).trans t1, t2, fun e8 => (t3 ((set_other_get (show 8 ≠ 12 by decide)).symm.trans e8))⟩)⟩
        unfold execOp
        simp [e70, go_sem]
      · obtain ⟨u62, e62, x62⟩ := h.new 8 _ 62 rfl rfl (haf ⟨8, .data⟩ (by simp) rfl)
        have y62 : u62 = (.tuple #[.agg #[.int .i64 0, .int .i64 0, .int .i64 0, .string ⟨#[]⟩, .string ⟨#[]⟩, .string ⟨#[]⟩, .int .i64 0, .int .i64 0, .int .i64 0, .string ⟨#[]⟩, .slice none 0 0], .int .i64 7]) := x62.1
        subst y62
        refine wp_val (v := .agg #[.int .i64 0, .int .i64 0, .int .i64 0, .string ⟨#[]⟩, .string ⟨#[]⟩, .string ⟨#[]⟩, .int .i64 0, .int .i64 0, .int .i64 0, .string ⟨#[]⟩, .slice none 0 0]) (w' := W) ?_ ⟨_, rfl, ⟨rfl, fun e => absurd e (by decide), fun e => absurd e (by decide)⟩, fun _ _ h => h, g1, g0, b0, b1, b2, b3, (fun e7 => by rw [set_other_get (by decide)] at e7; obtain ⟨T, t1, t2, t3⟩ := q11 e7; exact ⟨T, (put_other (by decide)).trans t1, t2, fun e8 => (t3 ((set_other_get (show 9 ≠ 12 by decide)).symm.trans e8))⟩)⟩
        unfold execOp
        simp [e62, go_sem]
      · obtain ⟨u62, e62, x62⟩ := h.new 8 _ 62 rfl rfl (haf ⟨8, .data⟩ (by simp) rfl)
        have y62 : u62 = (.tuple #[.agg #[.int .i64 0, .int .i64 0, .int .i64 0, .string ⟨#[]⟩, .string ⟨#[]⟩, .string ⟨#[]⟩, .int .i64 0, .int .i64 0, .int .i64 0, .string ⟨#[]⟩, .slice none 0 0], .int .i64 7]) := x62.1
        subst y62
        refine wp_val (v := .int .i64 7) (w' := W) ?_ ⟨_, rfl, ⟨rfl, fun e => absurd e (by decide), fun e => absurd e (by decide)⟩, fun _ _ h => h, g1, g0, b0, b1, b2, b3, (fun e7 => by rw [set_other_get (by decide)] at e7; obtain ⟨T, t1, t2, t3⟩ := q11 e7; exact ⟨T, (put_other (by decide)).trans t1, t2, fun e8 => (t3 ((set_other_get (show 10 ≠ 12 by decide)).symm.trans e8))⟩)⟩
        unfold execOp
        simp [e62, go_sem]
      · have m12 := h.later 12 11 _ ⟨11, .phase⟩ rfl (by simp) rfl rfl hl
        refine wp_val (v := .pointer (some ⟨W.heap.size, 0, none⟩)) (w' := W.alloc (.cells #[.int .i64 0, .int .i64 0, .int .i64 0, .string ⟨#[]⟩, .string ⟨#[]⟩, .string ⟨#[]⟩, .int .i64 0, .int .i64 0, .int .i64 0, .string ⟨#[]⟩, .slice none 0 0] 39)) ?_ ⟨_, rfl, ⟨trivial, fun e => absurd e (by decide), fun e => absurd e (by decide)⟩, fun j u hd => ⟨hd.1, fun e => by obtain ⟨n5, ev, p_n5, f_n5⟩ := hd.2.1 e; exact ⟨n5, ev, p_n5, aOld f_n5⟩, fun e => by obtain ⟨n5, ev, p_n5, f_n5⟩ := hd.2.2 e; exact ⟨n5, ev, p_n5, aOld f_n5⟩⟩, g1.alloc gz _, by simp; omega, aOld b0, aOld b1, aOld b2, aOld b3, (fun _ => ⟨W.heap.size, put_this (by rw [h.size]; exact (by decide : (8 : Nat) < 79)), g0, fun _ => aNew rfl⟩)⟩
        unfold execOp
        simp [go_sem]
      · obtain ⟨T11, t1_11, t2_11, t3_11⟩ := q11 (haf ⟨11, .phase⟩ (by simp) rfl)
        obtain ⟨u71, e71, x71⟩ := h.new 9 _ 71 rfl rfl (haf ⟨9, .phase⟩ (by simp) rfl)
        have y71 : u71 = (.agg #[.int .i64 0, .int .i64 0, .int .i64 0, .string ⟨#[]⟩, .string ⟨#[]⟩, .string ⟨#[]⟩, .int .i64 0, .int .i64 0, .int .i64 0, .string ⟨#[]⟩, .slice none 0 0]) := x71.1
        subst y71
        have m12 : l.getD 12 false = false := by rw [Array.getD_eq_getD_getElem?] at hl ⊢; cases hx : l[12]? with | none => rfl | some bb => rw [hx] at hl; exact hl
        have c_ := t3_11 m12
        obtain ⟨z0, z1, z2, z3, z4, z5, z6, z7, z8, z9, z10, zf, _⟩ := bk11 c_
        obtain ⟨W', hW'⟩ : ∃ V, V = (((((((((((W).setCell ⟨T11, 0, none⟩ (.int .i64 0)).setCell ⟨T11, 1, none⟩ (.int .i64 0)).setCell ⟨T11, 2, none⟩ (.int .i64 0)).setCell ⟨T11, 3, none⟩ (.string ⟨#[]⟩)).setCell ⟨T11, 4, none⟩ (.string ⟨#[]⟩)).setCell ⟨T11, 5, none⟩ (.string ⟨#[]⟩)).setCell ⟨T11, 6, none⟩ (.int .i64 0)).setCell ⟨T11, 7, none⟩ (.int .i64 0)).setCell ⟨T11, 8, none⟩ (.int .i64 0)).setCell ⟨T11, 9, none⟩ (.string ⟨#[]⟩)).setCell ⟨T11, 10, none⟩ (.slice none 0 0) := ⟨_, rfl⟩
        have hP : W' = putL W (T11) 0 [.int .i64 0, .int .i64 0, .int .i64 0, .string ⟨#[]⟩, .string ⟨#[]⟩, .string ⟨#[]⟩, .int .i64 0, .int .i64 0, .int .i64 0, .string ⟨#[]⟩, .slice none 0 0] := hW'
        refine wp_skip (w' := W') ?_ ⟨undef, rfl, ⟨trivial, fun e => absurd e (by decide), fun e => absurd e (by decide)⟩, fun j u hd => ⟨hd.1, fun e => by obtain ⟨n5, ev, p_n5, f_n5⟩ := hd.2.1 e; exact ⟨n5, ev, p_n5, (by rw [hP]; exact (putL_other (blk_ne c_ f_n5 (by decide)) _ _ _).trans (f_n5))⟩, fun e => by obtain ⟨n5, ev, p_n5, f_n5⟩ := hd.2.2 e; exact ⟨n5, ev, p_n5, (by rw [hP]; exact (putL_other (blk_ne c_ f_n5 (by decide)) _ _ _).trans (f_n5))⟩⟩, (by rw [hP]; exact putL_below (by omega) _ _ _ g1), Nat.le_trans g0 (by rw [hP]; exact (putL_below (B := 0) (w0 := W) (Nat.zero_le _) _ _ _ (Below.refl _ _)).size), (by rw [hP]; exact (putL_other (by omega) _ _ _).trans (b0)), (by rw [hP]; exact (putL_other (by omega) _ _ _).trans (b1)), (by rw [hP]; exact (putL_other (by omega) _ _ _).trans (b2)), (by rw [hP]; exact (putL_other (by omega) _ _ _).trans (b3)), (fun _ => ⟨T11, t1_11, t2_11, fun e8 => absurd ((set_this_get (i := 12) (n := 14) hsz (by decide)).symm.trans e8) (by decide)⟩)⟩
        rw [hW']
        clear hP hW'
        unfold execOp
        simp [t1_11, e71, z0, z1, z2, z3, z4, z5, z6, z7, z8, z9, z10, zf, go_sem]
      · obtain ⟨u72, e72, x72⟩ := h.new 10 _ 72 rfl rfl (haf ⟨10, .phase⟩ (by simp) rfl)
        have y72 : u72 = (.int .i64 7) := x72.1
        subst y72
        refine wp_val (v := .int .i64 7) (w' := W) ?_ ⟨_, rfl, ⟨rfl, fun e => absurd e (by decide), fun e => absurd e (by decide)⟩, fun _ _ h => h, g1, g0, b0, b1, b2, b3, (fun e7 => by rw [set_other_get (by decide)] at e7; obtain ⟨T, t1, t2, t3⟩ := q11 e7; exact ⟨T, (put_other (by decide)).trans t1, t2, fun e8 => (t3 ((set_other_get (show 13 ≠ 12 by decide)).symm.trans e8))⟩)⟩
        unfold execOp
        simp [e72, go_sem]
    · intro v W7 hv hs hg
      obtain ⟨g1, g0, b0, b1, b2, b3, q11⟩ := hg
      have d13 : v 13 = .int .i64 7 := (hv 13 _ 9 rfl rfl).1
      simp only [putAll, d13]
      have cE : W7.cell? ⟨eb, 7, none⟩ = some (.int .i64 7) := (Lib.cell_of_heap b3 7).trans rfl
      have HB7 := hidC g1
      clear hv hs d13 g1 g0 b0 b1 b2 b3 q11 HL6 HA6 HE6 HO6 HBw6
      go_wp2_with fail
      go_ret
      exact ⟨rfl, HB7.out⟩
  · have HL6 := HX8
    clear HX0 HX1 HX2 HX3 HX4 HX5 HX6 HX7 HX8
    refine wp_region_slots (by kernel_rfl) (fun j v W => (match j with | 0 => v = (.slice (some ⟨ax, 0, none⟩) 9 9) | 1 => v = (.int .i64 8) | 2 => v = (.pointer (some ⟨ax, 8, none⟩)) | 3 => v = (.slice (some ⟨lx8, 0, none⟩) 3 3) | 4 => v = (.agg #[.int .i64 1, .int .i64 2, .int .i64 1, .string ⟨#[]⟩, .string ⟨#[]⟩, .int .i64 0, .int .i64 0, .int .i64 0, .string ⟨#[]⟩, .slice none 0 0, .slice none 0 0]) | 10 => v = (.int .i64 0) | 13 => v = (.int .i64 0) | _ => True) ∧ (j = 5 → ∃ n5 : Nat, v = (.slice (some ⟨n5, 0, none⟩) 1 1) ∧ w6.heap.size ≤ n5 ∧ W.heap[n5]? = some (.cells #[.int .i64 1, .int .i64 2, .int .i64 1, .string ⟨#[]⟩, .string ⟨#[]⟩, .int .i64 0, .int .i64 0, .int .i64 0, .string ⟨#[]⟩, .slice none 0 0, .slice none 0 0] 29)) ∧ (j = 6 → ∃ n5 : Nat, v = (.agg #[.int .i64 28, .int .i64 0, .int .i64 0, .string ⟨#[]⟩, .string ⟨#[]⟩, .int .i64 0, .int .i64 0, .int .i64 0, .string ⟨#[]⟩, .slice (some ⟨n5, 0, none⟩) 1 1, .slice (some ⟨lx8, 0, none⟩) 3 3]) ∧ w6.heap.size ≤ n5 ∧ W.heap[n5]? = some (.cells #[.int .i64 1, .int .i64 2, .int .i64 1, .string ⟨#[]⟩, .string ⟨#[]⟩, .int .i64 0, .int .i64 0, .int .i64 0, .string ⟨#[]⟩, .slice none 0 0, .slice none 0 0] 29)) ∧ (j = 7 → ∃ n7 : Nat, v = (.tuple #[.agg #[.int .i64 6, .int .i64 0, .int .i64 0, .string ⟨#[]⟩, .string ⟨#[120]⟩, .string ⟨#[]⟩, .int .i64 0, .int .i64 0, .int .i64 0, .string ⟨#[]⟩, .slice (some ⟨n7, 0, none⟩) 3 3], .int .i64 0])) ∧ (j = 8 → ∃ n7 : Nat, v = (.tuple #[.agg #[.int .i64 6, .int .i64 0, .int .i64 0, .string ⟨#[]⟩, .string ⟨#[120]⟩, .string ⟨#[]⟩, .int .i64 0, .int .i64 0, .int .i64 0, .string ⟨#[]⟩, .slice (some ⟨n7, 0, none⟩) 3 3], .int .i64 0])) ∧ (j = 9 → ∃ n7 : Nat, v = (.agg #[.int .i64 6, .int .i64 0, .int .i64 0, .string ⟨#[]⟩, .string ⟨#[120]⟩, .string ⟨#[]⟩, .int .i64 0, .int .i64 0, .int .i64 0, .string ⟨#[]⟩, .slice (some ⟨n7, 0, none⟩) 3 3]))) (fun l a W => Below w.heap.size w W ∧ w6.heap.size ≤ W.heap.size ∧ W.heap[w.heap.size]? = some (.cells #[.int .i64 1, .int .i64 2, .int .i64 1, .string ⟨#[]⟩, .string ⟨#[]⟩, .int .i64 0, .int .i64 0, .int .i64 0, .string ⟨#[]⟩, .slice none 0 0, .slice none 0 0] 29) ∧ W.heap[ax]? = some (.cells #[.slice (some ⟨lx0, 0, none⟩) 2 2, .slice (some ⟨lx1, 0, none⟩) 1 1, .slice (some ⟨lx2, 0, none⟩) 3 3, .slice (some ⟨lx3, 0, none⟩) 2 2, .slice (some ⟨lx4, 0, none⟩) 3 3, .slice (some ⟨lx5, 0, none⟩) 1 1, .slice (some ⟨lx6, 0, none⟩) 1 1, .slice (some ⟨lx7, 0, none⟩) 1 1, .slice (some ⟨lx8, 0, none⟩) 3 3] 27) ∧ W.heap[lx8]? = some (.cells cll8 31) ∧ W.heap[eb]? = some (.cells #[.int .i64 4, .int .i64 4, .int .i64 4, .int .i64 4, .int .i64 4, .int .i64 3, .int .i64 10, .int .i64 7, .int .i64 0] 34) ∧ (l.getD 11 false = true → ∃ T11, a.tmps[8]? = some (.pointer (some ⟨T11, 0, none⟩)) ∧ w6.heap.size ≤ T11 ∧ (l.getD 12 false = false → W.heap[T11]? = some (.cells #[.int .i64 0, .int .i64 0, .int .i64 0, .string ⟨#[]⟩, .string ⟨#[]⟩, .string ⟨#[]⟩, .int .i64 0, .int .i64 0, .int .i64 0, .string ⟨#[]⟩, .slice none 0 0] 39)))) (by kernel_rfl) (by kernel_rfl) ⟨(HBw6.out).trans ⟨rfl, rfl, rfl, Nat.le_refl _, fun _ _ => rfl⟩, Nat.le_refl _, HO6.out, HA6.out, HL6.out, HE6.out, fun e7 => by rw [Array.getD_eq_getD_getElem?, Array.getElem?_replicate] at e7; split at e7 <;> cases e7⟩ ?_ ?_
    · intro l a W i o hsz h ho hl haf
      obtain ⟨g1, g0, b0, b1, b2, b3, q11⟩ := h.more
      have gz : w.heap.size ≤ W.heap.size := Nat.le_trans (by first | exact Nat.le_refl _ | omega) g0
      have hi : i < 14 := (Array.getElem?_eq_some_iff.1 ho).1
      obtain rfl | rfl | rfl | rfl | rfl | rfl | rfl | rfl | rfl | rfl | rfl | rfl | rfl | rfl : i = 0 ∨ i = 1 ∨ i = 2 ∨ i = 3 ∨ i = 4 ∨ i = 5 ∨ i = 6 ∨ i = 7 ∨ i = 8 ∨ i = 9 ∨ i = 10 ∨ i = 11 ∨ i = 12 ∨ i = 13 := by omega
      all_goals (obtain rfl := Option.some.inj ho; rw [if_pos (want_none rfl)])
      · have e5 := h.given 5 _ rfl (by kernel_rfl)
        refine wp_val (v := .slice (some ⟨ax, 0, none⟩) 9 9) (w' := W) ?_ ⟨_, rfl, ⟨rfl, fun e => absurd e (by decide), fun e => absurd e (by decide), fun e => absurd e (by decide), fun e => absurd e (by decide), fun e => absurd e (by decide)⟩, fun _ _ h => h, g1, g0, b0, b1, b2, b3, (fun e7 => by rw [set_other_get (by decide)] at e7; obtain ⟨T, t1, t2, t3⟩ := q11 e7; exact ⟨T, (put_other (by decide)).trans t1, t2, fun e8 => (t3 ((set_other_get (show 0 ≠ 12 by decide)).symm.trans e8))⟩)⟩
        unfold execOp
        simp [e5, go_sem]
      · have e7 := h.given 7 _ rfl (by kernel_rfl)
        refine wp_val (v := .int .i64 8) (w' := W) ?_ ⟨_, rfl, ⟨rfl, fun e => absurd e (by decide), fun e => absurd e (by decide), fun e => absurd e (by decide), fun e => absurd e (by decide), fun e => absurd e (by decide)⟩, fun _ _ h => h, g1, g0, b0, b1, b2, b3, (fun e7 => by rw [set_other_get (by decide)] at e7; obtain ⟨T, t1, t2, t3⟩ := q11 e7; exact ⟨T, (put_other (by decide)).trans t1, t2, fun e8 => (t3 ((set_other_get (show 1 ≠ 12 by decide)).symm.trans e8))⟩)⟩
        unfold execOp
        simp [e7, go_sem]
      · obtain ⟨u63, e63, x63⟩ := h.new 0 _ 63 rfl rfl (haf ⟨0, .data⟩ (by simp) rfl)
        have y63 : u63 = (.slice (some ⟨ax, 0, none⟩) 9 9) := x63.1
        subst y63
        obtain ⟨u64, e64, x64⟩ := h.new 1 _ 64 rfl rfl (haf ⟨1, .data⟩ (by simp) rfl)
        have y64 : u64 = (.int .i64 8) := x64.1
        subst y64
        refine wp_val (v := .pointer (some ⟨ax, 8, none⟩)) (w' := W) ?_ ⟨_, rfl, ⟨rfl, fun e => absurd e (by decide), fun e => absurd e (by decide), fun e => absurd e (by decide), fun e => absurd e (by decide), fun e => absurd e (by decide)⟩, fun _ _ h => h, g1, g0, b0, b1, b2, b3, (fun e7 => by rw [set_other_get (by decide)] at e7; obtain ⟨T, t1, t2, t3⟩ := q11 e7; exact ⟨T, (put_other (by decide)).trans t1, t2, fun e8 => (t3 ((set_other_get (show 2 ≠ 12 by decide)).symm.trans e8))⟩)⟩
        unfold execOp
        simp [e63, e64, go_sem]
      · obtain ⟨u65, e65, x65⟩ := h.new 2 _ 65 rfl rfl (haf ⟨2, .data⟩ (by simp) rfl)
        have y65 : u65 = (.pointer (some ⟨ax, 8, none⟩)) := x65.1
        subst y65
        have c_ := b1
        have c0 := (Lib.cell_of_heap c_ 8).trans rfl
        refine wp_val (v := .slice (some ⟨lx8, 0, none⟩) 3 3) (w' := W) ?_ ⟨_, rfl, ⟨rfl, fun e => absurd e (by decide), fun e => absurd e (by decide), fun e => absurd e (by decide), fun e => absurd e (by decide), fun e => absurd e (by decide)⟩, fun _ _ h => h, g1, g0, b0, b1, b2, b3, (fun e7 => by rw [set_other_get (by decide)] at e7; obtain ⟨T, t1, t2, t3⟩ := q11 e7; exact ⟨T, (put_other (by decide)).trans t1, t2, fun e8 => (t3 ((set_other_get (show 3 ≠ 12 by decide)).symm.trans e8))⟩)⟩
        unfold execOp
        simp [e65, c0, go_sem]
      · have e3 := h.given 3 _ rfl (by kernel_rfl)
        have c_ := b0
        obtain ⟨c0, c1, c2, c3, c4, c5, c6, c7, c8, c9, c10, _, _⟩ := bk11 c_
        refine wp_val (v := .agg #[.int .i64 1, .int .i64 2, .int .i64 1, .string ⟨#[]⟩, .string ⟨#[]⟩, .int .i64 0, .int .i64 0, .int .i64 0, .string ⟨#[]⟩, .slice none 0 0, .slice none 0 0]) (w' := W) ?_ ⟨_, rfl, ⟨rfl, fun e => absurd e (by decide), fun e => absurd e (by decide), fun e => absurd e (by decide), fun e => absurd e (by decide), fun e => absurd e (by decide)⟩, fun _ _ h => h, g1, g0, b0, b1, b2, b3, (fun e7 => by rw [set_other_get (by decide)] at e7; obtain ⟨T, t1, t2, t3⟩ := q11 e7; exact ⟨T, (put_other (by decide)).trans t1, t2, fun e8 => (t3 ((set_other_get (show 4 ≠ 12 by decide)).symm.trans e8))⟩)⟩
        unfold execOp
        simp [e3, c0, c1, c2, c3, c4, c5, c6, c7, c8, c9, c10, go_sem]
      · obtain ⟨u67, e67, x67⟩ := h.new 4 _ 67 rfl rfl (haf ⟨4, .data⟩ (by simp) rfl)
        have y67 : u67 = (.agg #[.int .i64 1, .int .i64 2, .int .i64 1, .string ⟨#[]⟩, .string ⟨#[]⟩, .int .i64 0, .int .i64 0, .int .i64 0, .string ⟨#[]⟩, .slice none 0 0, .slice none 0 0]) := x67.1
        subst y67
        refine wp_val (v := .slice (some ⟨W.heap.size, 0, none⟩) 1 1) (w' := W.alloc (.cells #[.int .i64 1, .int .i64 2, .int .i64 1, .string ⟨#[]⟩, .string ⟨#[]⟩, .int .i64 0, .int .i64 0, .int .i64 0, .string ⟨#[]⟩, .slice none 0 0, .slice none 0 0] 29)) ?_ ⟨_, rfl, ⟨trivial, fun _ => ⟨W.heap.size, rfl, g0, aNew rfl⟩, fun e => absurd e (by decide), fun e => absurd e (by decide), fun e => absurd e (by decide), fun e => absurd e (by decide)⟩, fun j u hd => ⟨hd.1, fun e => by obtain ⟨n5, ev, p_n5, f_n5⟩ := hd.2.1 e; exact ⟨n5, ev, p_n5, aOld f_n5⟩, fun e => by obtain ⟨n5, ev, p_n5, f_n5⟩ := hd.2.2.1 e; exact ⟨n5, ev, p_n5, aOld f_n5⟩, fun e => by obtain ⟨n7, ev⟩ := hd.2.2.2.1 e; exact ⟨n7, ev⟩, fun e => by obtain ⟨n7, ev⟩ := hd.2.2.2.2.1 e; exact ⟨n7, ev⟩, fun e => by obtain ⟨n7, ev⟩ := hd.2.2.2.2.2 e; exact ⟨n7, ev⟩⟩, g1.alloc gz _, by simp; omega, aOld b0, aOld b1, aOld b2, aOld b3, (fun e7 => by rw [set_other_get (by decide)] at e7; obtain ⟨T, t1, t2, t3⟩ := q11 e7; exact ⟨T, (put_other (by decide)).trans t1, t2, fun e8 => aOld (t3 ((set_other_get (show 5 ≠ 12 by decide)).symm.trans e8))⟩)⟩
        unfold execOp
        simp [e67, go_sem]
      · obtain ⟨u66, e66, x66⟩ := h.new 3 _ 66 rfl rfl (haf ⟨3, .data⟩ (by simp) rfl)
        have y66 : u66 = (.slice (some ⟨lx8, 0, none⟩) 3 3) := x66.1
        subst y66
        obtain ⟨u68, e68, x68⟩ := h.new 5 _ 68 rfl rfl (haf ⟨5, .data⟩ (by simp) rfl)
        obtain ⟨n5, rfl, p_n5, f_n5⟩ := x68.2.1 rfl
        refine wp_val (v := .agg #[.int .i64 28, .int .i64 0, .int .i64 0, .string ⟨#[]⟩, .string ⟨#[]⟩, .int .i64 0, .int .i64 0, .int .i64 0, .string ⟨#[]⟩, .slice (some ⟨n5, 0, none⟩) 1 1, .slice (some ⟨lx8, 0, none⟩) 3 3]) (w' := W) ?_ ⟨_, rfl, ⟨trivial, fun e => absurd e (by decide), fun _ => ⟨n5, rfl, p_n5, f_n5⟩, fun e => absurd e (by decide), fun e => absurd e (by decide), fun e => absurd e (by decide)⟩, fun _ _ h => h, g1, g0, b0, b1, b2, b3, (fun e7 => by rw [set_other_get (by decide)] at e7; obtain ⟨T, t1, t2, t3⟩ := q11 e7; exact ⟨T, (put_other (by decide)).trans t1, t2, fun e8 => (t3 ((set_other_get (show 6 ≠ 12 by decide)).symm.trans e8))⟩)⟩
        unfold execOp
        simp [e66, e68, go_sem]
      · obtain ⟨u69, e69, x69⟩ := h.new 6 _ 69 rfl rfl (haf ⟨6, .data⟩ (by simp) rfl)
        obtain ⟨n5, rfl, p_n5, f_n5⟩ := x69.2.2.1 rfl
        refine wp_enter (f := 6) (args := #[.agg #[.int .i64 28, .int .i64 0, .int .i64 0, .string ⟨#[]⟩, .string ⟨#[]⟩, .int .i64 0, .int .i64 0, .int .i64 0, .string ⟨#[]⟩, .slice (some ⟨n5, 0, none⟩) 1 1, .slice (some ⟨lx8, 0, none⟩) 3 3]]) (w' := W) ?_ ((low_8 n5 lx8 W (Utf8Tabs_below hT g1) b2 f_n5).mono ?_)
        · unfold execOp
          simp [e69, go_sem]
        · rintro e W' ⟨n7, rfl, hb⟩
          exact ⟨_, rfl, _, rfl, ⟨trivial, fun e => absurd e (by decide), fun e => absurd e (by decide), fun _ => ⟨n7, rfl⟩, fun e => absurd e (by decide), fun e => absurd e (by decide)⟩, fun j u hd => ⟨hd.1, fun e => by obtain ⟨n5, ev, p_n5, f_n5⟩ := hd.2.1 e; exact ⟨n5, ev, p_n5, blK hb f_n5⟩, fun e => by obtain ⟨n5, ev, p_n5, f_n5⟩ := hd.2.2.1 e; exact ⟨n5, ev, p_n5, blK hb f_n5⟩, fun e => by obtain ⟨n7, ev⟩ := hd.2.2.2.1 e; exact ⟨n7, ev⟩, fun e => by obtain ⟨n7, ev⟩ := hd.2.2.2.2.1 e; exact ⟨n7, ev⟩, fun e => by obtain ⟨n7, ev⟩ := hd.2.2.2.2.2 e; exact ⟨n7, ev⟩⟩, g1.trans (hb.mono gz), Nat.le_trans g0 hb.size, blK hb b0, blK hb b1, blK hb b2, blK hb b3, (fun e7 => by rw [set_other_get (by decide)] at e7; obtain ⟨T, t1, t2, t3⟩ := q11 e7; exact ⟨T, (put_other (by decide)).trans t1, t2, fun e8 => blK hb ((t3 ((set_other_get (show 7 ≠ 12 by decide)).symm.trans e8)))⟩)⟩
      · obtain ⟨u70, e70, x70⟩ := h.new 7 _ 70 rfl rfl (haf ⟨7, .data⟩ (by simp) rfl)
        obtain ⟨n7, rfl⟩ := x70.2.2.2.1 rfl
        refine wp_val (v := .tuple #[.agg #[.int .i64 6, .int .i64 0, .int .i64 0, .string ⟨#[]⟩, .string ⟨#[120]⟩, .string ⟨#[]⟩, .int .i64 0, .int .i64 0, .int .i64 0, .string ⟨#[]⟩, .slice (some ⟨n7, 0, none⟩) 3 3], .int .i64 0]) (w' := W) ?_ ⟨_, rfl, ⟨trivial, fun e => absurd e (by decide), fun e => absurd e (by decide), fun e => absurd e (by decide), fun _ => ⟨n7, rfl⟩, fun e => absurd e (by decide)⟩, fun _ _ h => h, g1, g0, b0, b1, b2, b3, (fun e7 => by rw [set_other_get (by decide)] at e7; obtain ⟨T, t1, t2, t3⟩ := q11 e7; exact ⟨T, (put_other (by decide)).trans t1, t2, fun e8 => (t3 ((set_other_get (show 8 ≠ 12 by decide)).symm.trans e8))⟩)⟩
        unfold execOp
        simp [e70, go_sem]
      · obtain ⟨u62, e62, x62⟩ := h.new 8 _ 62 rfl rfl (haf ⟨8, .data⟩ (by simp) rfl)
        obtain ⟨n7, rfl⟩ := x62.2.2.2.2.1 rfl
        refine wp_val (v := .agg #[.int .i64 6, .int .i64 0, .int .i64 0, .string ⟨#[]⟩, .string ⟨#[120]⟩, .string ⟨#[]⟩, .int .i64 0, .int .i64 0, .int .i64 0, .string ⟨#[]⟩, .slice (some ⟨n7, 0, none⟩) 3 3]) (w' := W) ?_ ⟨_, rfl, ⟨trivial, fun e => absurd e (by decide), fun e => absurd e (by decide), fun e => absurd e (by decide), fun e => absurd e (by decide), fun _ => ⟨n7, rfl⟩⟩, fun _ _ h => h, g1, g0, b0, b1, b2, b3, (fun e7 => by rw [set_other_get (by decide)] at e7; obtain ⟨T, t1, t2, t3⟩ := q11 e7; exact ⟨T, (put_other (by decide)).trans t1, t2, fun e8 => (t3 ((set_other_get (show 9 ≠ 12 by decide)).symm.trans e8))⟩)⟩
        unfold execOp
        simp [e62, go_sem]
      · obtain ⟨u62, e62, x62⟩ := h.new 8 _ 62 rfl rfl (haf ⟨8, .data⟩ (by simp) rfl)
        obtain ⟨n7, rfl⟩ := x62.2.2.2.2.1 rfl
        refine wp_val (v := .int .i64 0) (w' := W) ?_ ⟨_, rfl, ⟨rfl, fun e => absurd e (by decide), fun e => absurd e (by decide), fun e => absurd e (by decide), fun e => absurd e (by decide), fun e => absurd e (by decide)⟩, fun _ _ h => h, g1, g0, b0, b1, b2, b3, (fun e7 => by rw [set_other_get (by decide)] at e7; obtain ⟨T, t1, t2, t3⟩ := q11 e7; exact ⟨T, (put_other (by decide)).trans t1, t2, fun e8 => (t3 ((set_other_get (show 10 ≠ 12 by decide)).symm.trans e8))⟩)⟩
        unfold execOp
        simp [e62, go_sem]
      · have m12 := h.later 12 11 _ ⟨11, .phase⟩ rfl (by simp) rfl rfl hl
        refine wp_val (v := .pointer (some ⟨W.heap.size, 0, none⟩)) (w' := W.alloc (.cells #[.int .i64 0, .int .i64 0, .int .i64 0, .string ⟨#[]⟩, .string ⟨#[]⟩, .string ⟨#[]⟩, .int .i64 0, .int .i64 0, .int .i64 0, .string ⟨#[]⟩, .slice none 0 0] 39)) ?_ ⟨_, rfl, ⟨trivial, fun e => absurd e (by decide), fun e => absurd e (by decide), fun e => absurd e (by decide), fun e => absurd e (by decide), fun e => absurd e (by decide)⟩, fun j u hd => ⟨hd.1, fun e => by obtain ⟨n5, ev, p_n5, f_n5⟩ := hd.2.1 e; exact ⟨n5, ev, p_n5, aOld f_n5⟩, fun e => by obtain ⟨n5, ev, p_n5, f_n5⟩ := hd.2.2.1 e; exact ⟨n5, ev, p_n5, aOld f_n5⟩, fun e => by obtain ⟨n7, ev⟩ := hd.2.2.2.1 e; exact ⟨n7, ev⟩, fun e => by obtain ⟨n7, ev⟩ := hd.2.2.2.2.1 e; exact ⟨n7, ev⟩, fun e => by obtain ⟨n7, ev⟩ := hd.2.2.2.2.2 e; exact ⟨n7, ev⟩⟩, g1.alloc gz _, by simp; omega, aOld b0, aOld b1, aOld b2, aOld b3, (fun _ => ⟨W.heap.size, put_this (by rw [h.size]; exact (by decide : (8 : Nat) < 79)), g0, fun _ => aNew rfl⟩)⟩
        unfold execOp
        simp [go_sem]
      · obtain ⟨T11, t1_11, t2_11, t3_11⟩ := q11 (haf ⟨11, .phase⟩ (by simp) rfl)
        obtain ⟨u71, e71, x71⟩ := h.new 9 _ 71 rfl rfl (haf ⟨9, .phase⟩ (by simp) rfl)
        obtain ⟨n7, rfl⟩ := x71.2.2.2.2.2 rfl
        have m12 : l.getD 12 false = false := by rw [Array.getD_eq_getD_getElem?] at hl ⊢; cases hx : l[12]? with | none => rfl | some bb => rw [hx] at hl; exact hl
        have c_ := t3_11 m12
        obtain ⟨z0, z1, z2, z3, z4, z5, z6, z7, z8, z9, z10, zf, _⟩ := bk11 c_
        obtain ⟨W', hW'⟩ : ∃ V, V = (((((((((((W).setCell ⟨T11, 0, none⟩ (.int .i64 6)).setCell ⟨T11, 1, none⟩ (.int .i64 0)).setCell ⟨T11, 2, none⟩ (.int .i64 0)).setCell ⟨T11, 3, none⟩ (.string ⟨#[]⟩)).setCell ⟨T11, 4, none⟩ (.string ⟨#[120]⟩)).setCell ⟨T11, 5, none⟩ (.string ⟨#[]⟩)).setCell ⟨T11, 6, none⟩ (.int .i64 0)).setCell ⟨T11, 7, none⟩ (.int .i64 0)).setCell ⟨T11, 8, none⟩ (.int .i64 0)).setCell ⟨T11, 9, none⟩ (.string ⟨#[]⟩)).setCell ⟨T11, 10, none⟩ (.slice (some ⟨n7, 0, none⟩) 3 3) := ⟨_, rfl⟩
        have hP : W' = putL W (T11) 0 [.int .i64 6, .int .i64 0, .int .i64 0, .string ⟨#[]⟩, .string ⟨#[120]⟩, .string ⟨#[]⟩, .int .i64 0, .int .i64 0, .int .i64 0, .string ⟨#[]⟩, .slice (some ⟨n7, 0, none⟩) 3 3] := hW'
        refine wp_skip (w' := W') ?_ ⟨undef, rfl, ⟨trivial, fun e => absurd e (by decide), fun e => absurd e (by decide), fun e => absurd e (by decide), fun e => absurd e (by decide), fun e => absurd e (by decide)⟩, fun j u hd => ⟨hd.1, fun e => by obtain ⟨n5, ev, p_n5, f_n5⟩ := hd.2.1 e; exact ⟨n5, ev, p_n5, (by rw [hP]; exact (putL_other (blk_ne c_ f_n5 (by decide)) _ _ _).trans (f_n5))⟩, fun e => by obtain ⟨n5, ev, p_n5, f_n5⟩ := hd.2.2.1 e; exact ⟨n5, ev, p_n5, (by rw [hP]; exact (putL_other (blk_ne c_ f_n5 (by decide)) _ _ _).trans (f_n5))⟩, fun e => by obtain ⟨n7, ev⟩ := hd.2.2.2.1 e; exact ⟨n7, ev⟩, fun e => by obtain ⟨n7, ev⟩ := hd.2.2.2.2.1 e; exact ⟨n7, ev⟩, fun e => by obtain ⟨n7, ev⟩ := hd.2.2.2.2.2 e; exact ⟨n7, ev⟩⟩, (by rw [hP]; exact putL_below (by omega) _ _ _ g1), Nat.le_trans g0 (by rw [hP]; exact (putL_below (B := 0) (w0 := W) (Nat.zero_le _) _ _ _ (Below.refl _ _)).size), (by rw [hP]; exact (putL_other (by omega) _ _ _).trans (b0)), (by rw [hP]; exact (putL_other (by omega) _ _ _).trans (b1)), (by rw [hP]; exact (putL_other (by omega) _ _ _).trans (b2)), (by rw [hP]; exact (putL_other (by omega) _ _ _).trans (b3)), (fun _ => ⟨T11, t1_11, t2_11, fun e8 => absurd ((set_this_get (i := 12) (n := 14) hsz (by decide)).symm.trans e8) (by decide)⟩)⟩
        rw [hW']
        clear hP hW'
        unfold execOp
        simp [t1_11, e71, z0, z1, z2, z3, z4, z5, z6, z7, z8, z9, z10, zf, go_sem]
      · obtain ⟨u72, e72, x72⟩ := h.new 10 _ 72 rfl rfl (haf ⟨10, .phase⟩ (by simp) rfl)
        have y72 : u72 = (.int .i64 0) := x72.1
        subst y72
        refine wp_val (v := .int .i64 0) (w' := W) ?_ ⟨_, rfl, ⟨rfl, fun e => absurd e (by decide), fun e => absurd e (by decide), fun e => absurd e (by decide), fun e => absurd e (by decide), fun e => absurd e (by decide)⟩, fun _ _ h => h, g1, g0, b0, b1, b2, b3, (fun e7 => by rw [set_other_get (by decide)] at e7; obtain ⟨T, t1, t2, t3⟩ := q11 e7; exact ⟨T, (put_other (by decide)).trans t1, t2, fun e8 => (t3 ((set_other_get (show 13 ≠ 12 by decide)).symm.trans e8))⟩)⟩
        unfold execOp
        simp [e72, go_sem]
    · intro v W7 hv hs hg
      obtain ⟨g1, g0, b0, b1, b2, b3, q11⟩ := hg
      have d13 : v 13 = .int .i64 0 := (hv 13 _ 9 rfl rfl).1
      simp only [putAll, d13]
      have cE : W7.cell? ⟨eb, 8, none⟩ = some (.int .i64 0) := (Lib.cell_of_heap b3 8).trans rfl
      have HB7 := hidC g1
      clear hv hs d13 g1 g0 b0 b1 b2 b3 q11 HL6 HA6 HE6 HO6 HBw6
      go_wp2_with fail
      go_ret
      exact ⟨rfl, HB7.out⟩
end Go.Proofs.YtkhlfdnlpimojaaDoor
