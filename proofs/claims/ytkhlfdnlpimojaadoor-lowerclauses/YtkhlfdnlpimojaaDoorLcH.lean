/-
  CONTRACTS of package core: around a body no clause.
-/
import Derived.Test.YtkhlfdnlpimojaaDoorLcG
set_option linter.unusedVariables false
namespace Go.Proofs.YtkhlfdnlpimojaaDoor
set_option maxRecDepth 100000
open Go.RowKit Go.WideShapes Go.Shelf
attribute [local go_sem] Oper.semAt_some

/-- while no round has come -/
def AroN (lb : Nat) (m1 m2 m3 : Value) (p : Nat) (k2 : Int) (i2 : It) (nm2 at2 : ByteArray) (g2 ax2 tk2 : Int) (tn2 : ByteArray) (aa2 : Option Addr) (am2 ac2 : Nat) (w W0 : World) (W : World) : Prop :=
  W.heap[lb]? = some (.cells #[m1, m2, m3, .int .i64 ((p : Nat) : Int), .int .i64 0] 49) ∧ W.heap[w.heap.size + 1]? = some (.cells #[.int .i64 (k2), .int .i64 (i2.kind), .int .i64 (i2.n), .string i2.s, .string nm2, .string at2, .int .i64 (g2), .int .i64 (ax2), .int .i64 (tk2), .string tn2, .slice aa2 am2 ac2] 39) ∧ W.heap[w.heap.size + 2]? = some (.cells #[.int .i64 0, .int .i64 0, .int .i64 0, .string ⟨#[]⟩, .string ⟨#[]⟩, .string ⟨#[]⟩, .int .i64 0, .int .i64 0, .int .i64 0, .string ⟨#[]⟩, .slice none 0 0] 39) ∧ (∀ c, c < w.heap.size → c ≠ lb → W.heap[c]? = w.heap[c]?) ∧ Below lb w W ∧ W0.heap.size ≤ W.heap.size
theorem AroN.own (lb : Nat) (m1 m2 m3 : Value) (p : Nat) (k2 : Int) (i2 : It) (nm2 at2 : ByteArray) (g2 ax2 tk2 : Int) (tn2 : ByteArray) (aa2 : Option Addr) (am2 ac2 : Nat) (w W0 : World) (hl : lb < w.heap.size) (hz : w.heap.size ≤ W0.heap.size) : OwnFrom W0.heap.size (fun (_ : List Nat) W => AroN lb m1 m2 m3 p k2 i2 nm2 at2 g2 ax2 tk2 tn2 aa2 am2 ac2 w W0 W) := by
  rintro pre X Y row ⟨h1, h2, h4, h5, h6, h7⟩ hg hr
  exact ⟨cells_kept h1 hg hr, cells_kept h2 hg hr, cells_kept h4 hg hr, fun c hc hn => (hg.block c (by omega) (fun e => by have := (hr c e.symm).1; omega)).trans (h5 c hc hn), h6.grown hg (by omega) (fun k e => by have := (hr k e).1; omega), Nat.le_trans h7 hg.size⟩
set_option maxHeartbeats 6400000 in
theorem around_none (lb : Nat) (m1 m2 m3 : Value) (p : Nat) (b off cap : Nat) (k2 : Int) (i2 : It) (nm2 at2 : ByteArray) (g2 ax2 tk2 : Int) (tn2 : ByteArray) (aa2 : Option Addr) (am2 ac2 : Nat) (w : World) (hl : w.heap[lb]? = some (.cells #[m1, m2, m3, .int .i64 (p : Int), .int .i64 0] 49)) (hb : b < w.heap.size) :
    Calls Tryd.prog 43 #[.pointer (some ⟨lb, 0, none⟩), .slice (some ⟨b, off, none⟩) 0 cap, .agg #[.int .i64 (k2), .int .i64 (i2.kind), .int .i64 (i2.n), .string i2.s, .string nm2, .string at2, .int .i64 (g2), .int .i64 (ax2), .int .i64 (tk2), .string tn2, .slice aa2 am2 ac2]] w fun e w' => e = .returned (.agg #[.int .i64 (k2), .int .i64 (i2.kind), .int .i64 (i2.n), .string i2.s, .string nm2, .string at2, .int .i64 (g2), .int .i64 (ax2), .int .i64 (tk2), .string tn2, .slice aa2 am2 ac2]) ∧ Kp lb m1 m2 m3 p w w' := by
  have HL := hidC hl
  have l6 : lb < w.heap.size := (Array.getElem?_eq_some_iff.1 hl).1
  clear hl
  refine (callsIn_wide (n := 3)).1 ?_
  refine callsIn_of_wp_marks Tryd.func43 rfl trivial ?_ rfl
  simp only [Tryd.ntmps43, List.size_toArray, List.length_cons, List.length_nil, Nat.reduceAdd, Nat.reduceSub, Array.replicate_succ, Array.replicate_zero, List.push_toArray, List.append_toArray, List.nil_append, List.cons_append]
  gi_wp2_with (refine ⟨trivial, ?_⟩; gi_at_call 64; refine (callsIn_wide.2 (backward_is _ _ _ _)).mono ?_; rintro e w1 ⟨rfl, rfl⟩)
  obtain ⟨W0, hW0⟩ : ∃ W, W = (((w.alloc (.cells #[.pointer (some ⟨lb, 0, none⟩)] 57)).alloc (.cells #[.int .i64 (k2), .int .i64 (i2.kind), .int .i64 (i2.n), .string i2.s, .string nm2, .string at2, .int .i64 (g2), .int .i64 (ax2), .int .i64 (tk2), .string tn2, .slice aa2 am2 ac2] 39)).alloc (.cells #[.int .i64 0, .int .i64 0, .int .i64 0, .string ⟨#[]⟩, .string ⟨#[]⟩, .string ⟨#[]⟩, .int .i64 0, .int .i64 0, .int .i64 0, .string ⟨#[]⟩, .slice none 0 0] 39)).alloc (.cells #[.slice (some ⟨b, off, none⟩) 0 cap] 79) := ⟨_, rfl⟩
  have HL0 : Hid (W0.heap[lb]? = some (.cells #[m1, m2, m3, .int .i64 (p : Int), .int .i64 0] 49)) := by rw [hW0]; exact aOld (aOld (aOld (aOld HL.out)))
  have HY0 : Hid (W0.heap[w.heap.size + 1]? = some (.cells #[.int .i64 (k2), .int .i64 (i2.kind), .int .i64 (i2.n), .string i2.s, .string nm2, .string at2, .int .i64 (g2), .int .i64 (ax2), .int .i64 (tk2), .string tn2, .slice aa2 am2 ac2] 39)) := by rw [hW0]; exact aOld (aOld (aNew (by simp)))
  have HR0 : Hid (W0.heap[w.heap.size + 2]? = some (.cells #[.int .i64 0, .int .i64 0, .int .i64 0, .string ⟨#[]⟩, .string ⟨#[]⟩, .string ⟨#[]⟩, .int .i64 0, .int .i64 0, .int .i64 0, .string ⟨#[]⟩, .slice none 0 0] 39)) := by rw [hW0]; exact aOld (aNew (by simp))
  have HS0 : Hid (W0.heap[w.heap.size + 1 + 1 + 1]? = some (.cells #[.slice (some ⟨b, off, none⟩) 0 cap] 79)) := by rw [hW0]; exact aNew (by simp)
  have HB0 : Hid (Below w.heap.size w W0) := by rw [hW0]; exact ((((Below.refl _ w).alloc (Nat.le_refl _) _).alloc (by simp) _).alloc (by simp; omega) _).alloc (by simp; omega) _
  have hz0 : W0.heap.size = w.heap.size + 4 := by rw [hW0]; simp
  rw [← hW0]
  clear hW0
  refine wpIn_rangeFunc_ownH rfl (by decide) (gf := 70) (lb := #[.pointer (some ⟨w.heap.size + 1 + 1 + 1, 0, none⟩)]) rfl trivial (enters_of Tryd.func70 (by kernel_rfl) rfl) (backward_stops Fence.wide _ trivial rfl (by decide) (w.heap.size + 1 + 1 + 1) b off 0 cap (fun _ => ⟨0, 0, 0, ⟨0, 0, ⟨#[]⟩⟩, ⟨#[]⟩, ⟨#[]⟩, 0, 0, 0, ⟨#[]⟩, none, 0, 0⟩) (by decide) W0 HS0.out (fun j hj => absurd hj (Nat.not_lt_zero _)) (by omega)) (fun h k => h.trans k) (two_b (by omega) (by omega)) (Below.refl _ _) (fun _ => rfl)
    (fun _ W => AroN lb m1 m2 m3 p k2 i2 nm2 at2 g2 ax2 tk2 tn2 aa2 am2 ac2 w W0 W) (fun _ _ _ => False) (AroN.own lb m1 m2 m3 p k2 i2 nm2 at2 g2 ax2 tk2 tn2 aa2 am2 ac2 w W0 l6 (by omega)) (fun _ _ _ _ _ hs _ _ => hs)
    ⟨HL0.out, HY0.out, HR0.out, fun c hc _ => HB0.out.block c hc, HB0.out.mono (by omega), Nat.le_refl _⟩
    (fun x a' W => True) (fun x a' _ X Y row hs hg hr => trivial) ?assign ?body ?done ?stop
  case assign =>
    intro l pre x W K hi hK
    simp only [CV.val]
    gi_wp2
    have hzW : W0.heap.size ≤ W.heap.size := hi.2.2.2.2.2
    exact hK _ _ ((KeepsOthers.alloc _ _).from _) ⟨Below.heap_alloc _ _ _ (by omega), Below.heap_alloc _ _ _ (by omega)⟩ ((AroN.own lb m1 m2 m3 p k2 i2 nm2 at2 g2 ax2 tk2 tn2 aa2 am2 ac2 w W0 l6 (by omega)).alloc (s := pre) _ hi) trivial
  case body =>
    rintro l pre x a' W1 hl ⟨r, hr⟩ hi _ hlt
    exact absurd hlt (Nat.not_lt_zero _)
  case done =>
    rintro D ys W hD hS ⟨g1, g2', g4, g5, g6, g7⟩ hK
    have HK2 := hidC hK
    have HR2 := hidC g4
    obtain ⟨c0, c1, c2, c3, c4, c5, c6, c7, c8, c9, c10, _, _⟩ := bk11 g2'
    obtain ⟨r0, r1, r2, r3, r4, r5, r6, r7, r8, r9, r10, rf, _⟩ := bk11 g4
    have HL2 := hidC g1
    have HO2 := hidC g5
    have HB2 := hidC g6
    clear g1 g2' g4 g5 g6 hK
    gi_wp2
    obtain ⟨W2, hW2⟩ : ∃ V, V = (((((((((((W).setCell ⟨w.heap.size + 1 + 1, 0, none⟩ (.int .i64 (k2))).setCell ⟨w.heap.size + 1 + 1, 1, none⟩ (.int .i64 (i2.kind))).setCell ⟨w.heap.size + 1 + 1, 2, none⟩ (.int .i64 (i2.n))).setCell ⟨w.heap.size + 1 + 1, 3, none⟩ (.string i2.s)).setCell ⟨w.heap.size + 1 + 1, 4, none⟩ (.string nm2)).setCell ⟨w.heap.size + 1 + 1, 5, none⟩ (.string at2)).setCell ⟨w.heap.size + 1 + 1, 6, none⟩ (.int .i64 (g2))).setCell ⟨w.heap.size + 1 + 1, 7, none⟩ (.int .i64 (ax2))).setCell ⟨w.heap.size + 1 + 1, 8, none⟩ (.int .i64 (tk2))).setCell ⟨w.heap.size + 1 + 1, 9, none⟩ (.string tn2)).setCell ⟨w.heap.size + 1 + 1, 10, none⟩ (.slice aa2 am2 ac2) := ⟨_, rfl⟩
    have hP : W2 = putL W (w.heap.size + 2) 0 [.int .i64 (k2), .int .i64 (i2.kind), .int .i64 (i2.n), .string i2.s, .string nm2, .string at2, .int .i64 (g2), .int .i64 (ax2), .int .i64 (tk2), .string tn2, .slice aa2 am2 ac2] := hW2
    have HK3 : W2.heap[D]? = some (.deferred (some [])) := by rw [hP]; exact (putL_other (by omega) _ _ _).trans HK2.out
    have HR3 : W2.heap[w.heap.size + 2]? = some (.cells #[.int .i64 (k2), .int .i64 (i2.kind), .int .i64 (i2.n), .string i2.s, .string nm2, .string at2, .int .i64 (g2), .int .i64 (ax2), .int .i64 (tk2), .string tn2, .slice aa2 am2 ac2] 39) := by rw [hP]; exact putL_same HR2.out _ rfl
    have hO3 : ∀ c, c ≠ w.heap.size + 2 → W2.heap[c]? = W.heap[c]? := fun c h => by rw [hP]; exact putL_other h _ _ _
    have hB3 : Below lb w W2 := by rw [hP]; exact putL_below (by omega) _ _ _ HB2.out
    rw [← hW2]
    clear hW2 hP
    refine ⟨by simp, .inl ⟨_, _, rfl, run_takeDeferred HK3, ?_⟩⟩
    have hD3 : ∀ c, c ≠ D → (W2.putObj D (.deferred none)).heap[c]? = W2.heap[c]? := fun c h => World.putObj_heap_other h
    have hz4 : lb ≤ W2.heap.size := Nat.le_trans (Nat.le_of_lt l6) hB3.size
    obtain ⟨y0, y1, y2, y3, y4, y5, y6, y7, y8, y9, y10, _, _⟩ := bk11 ((hD3 (w.heap.size + 2) (by omega)).trans HR3)
    refine ⟨.agg #[.int .i64 (k2), .int .i64 (i2.kind), .int .i64 (i2.n), .string i2.s, .string nm2, .string at2, .int .i64 (g2), .int .i64 (ax2), .int .i64 (tk2), .string tn2, .slice aa2 am2 ac2], by simp [results, Tryd.results43, go_sem, y0, y1, y2, y3, y4, y5, y6, y7, y8, y9, y10], ?_⟩
    exact ⟨rfl, (hD3 lb (by omega)).trans ((hO3 lb (by omega)).trans HL2.out), fun c hc hn => (hD3 c (by omega)).trans ((hO3 c (by omega)).trans (HO2.out c hc hn)), hB3.grown (grownBy_putObj' W2 D _) hz4 (fun k e => by cases e; omega)⟩
  case stop =>
    rintro D c pre W _ _ h _
    exact h.elim
end Go.Proofs.YtkhlfdnlpimojaaDoor
