/-
  CONTRACTS of package axes: best, roots, and what ends first.
-/
import Derived.Test.YtnfljohddpadhaaDoorStBest
import Derived.Deep.QuietTactic
import Derived.BigQuiet
import Derived.WalkLawsBesides
import Derived.Outline
import Derived.Deep.RegionHeld3
import Derived.Deep.RegionLaw
import Derived.Laws.EntriesVeiled
set_option linter.unusedVariables false
namespace Go.Proofs.YtnfljohddpadhaaDoor
set_option maxRecDepth 100000
open Go.RowKit Go.WideShapes

theorem bst_mem (bt : Nat → Nat → Bool) (G : Nat → Int) (C : Nat → Nat) : ∀ k g b, bst bt G C k g = some b → ∃ j, j < k ∧ b = C j
  | 0, g, b, h => by cases h
  | k + 1, g, b, h => by
    have h' : bestB bt (bst bt G C k) (G (C k)) (C k) g = some b := h
    unfold bestB at h'
    split at h'
    · obtain ⟨j, hj, e⟩ := bst_mem bt G C k g b h'
      exact ⟨j, by omega, e⟩
    · simp only at h'
      split at h'
      · split at h'
        · cases h'; exact ⟨k, by omega, rfl⟩
        · rename_i b0 hb0
          split at h'
          · cases h'; exact ⟨k, by omega, rfl⟩
          · obtain ⟨j, hj, e⟩ := bst_mem bt G C k _ b0 hb0
            cases h'
            exact ⟨j, by omega, e⟩
      · obtain ⟨j, hj, e⟩ := bst_mem bt G C k g b h'
        exact ⟨j, by omega, e⟩
set_option maxHeartbeats 3200000 in
theorem best_is (g h : FuncId) (gb gc hb hc : Array Value) (bt : Nat → Nat → Bool) (G : Nat → Int) (la : Option Addr) (lb lo N lcap : Nat) (E : Nat → Nd) (ca : Option Addr) (K ccap M : Nat) (cb co : Nat) (C : Nat → Nat) (IG : Nat → World → Prop) (X : Nat → Prop) (w : World) (hcap : K ≤ ccap) (hK : ccap ≤ maxLen) (hC : CxAt w ca cb co K C) (hXc : ¬ X cb) (hCN : ∀ j, j < K → C j < N) (hN : N ≤ 100000)
    (hrg : ∀ (args : Array Value) (W : World), Sem.run Tryd.prog (callFunc g args) W = .ok (.enter g args) W) (hrh : ∀ (args : Array Value) (W : World), Sem.run Tryd.prog (callFunc h args) W = .ok (.enter h args) W)
    (hXw : ∀ b, X b → b < w.heap.size) (hG : ∀ c, c < N → fit64 (G c)) (hI0 : IG 0 w) (hI : ∀ k W W', w.heap.size ≤ W.heap.size → IG k W → Kept (fun b => w.heap.size ≤ b) W W' → IG k W')
    (hg : ∀ k W, k < K → w.heap.size ≤ W.heap.size → IG k W → Calls Tryd.prog g (gb ++ #[.int .i64 (C k : Int)] ++ gc) W fun e w' => e = .returned (.int .i64 (G (C k))) ∧ IG (k + 1) w' ∧ Kept X W w')
    (hh : ∀ k W a b, w.heap.size ≤ W.heap.size → IG k W → a < N → b < N → Calls Tryd.prog h (hb ++ #[.int .i64 (a : Int), .int .i64 (b : Int)] ++ hc) W fun e w' => e = .returned (.bool (bt a b)) ∧ Below W.heap.size W w') :
    Calls Tryd.prog 54 #[.agg #[.slice la N lcap, .slice ca K ccap, .map (some M)], .func (.func g) gb gc, .func (.func h) hb hc] w fun e w' => e = .returned (.map (some (w.heap.size + 3))) ∧ IMap w' (w.heap.size + 3) (ofV (bst bt G C K)) ∧ IG K w' ∧ Kept X w w' := by
  obtain ⟨W5, hW5⟩ : ∃ W, W = (((((w.alloc (.cells #[.slice la N lcap, .slice ca K ccap, .map (some M)] 39)).alloc (.cells #[.func (.func g) gb gc] 51)).alloc (.cells #[.func (.func h) hb hc] 62)).alloc (.map #[] 0)).alloc (.cells #[.map (some (w.heap.size + 3))] 63)) := ⟨_, rfl⟩
  have hz5 : W5.heap.size = w.heap.size + 5 := by rw [hW5]; simp
  have k5 : ∀ X, Kept X w W5 := fun X => by rw [hW5]; exact ((((Kept.refl _ _).alloc _).alloc _).alloc _).alloc _ |>.alloc _
  have a1 : W5.heap[w.heap.size + 1]? = some (.cells #[.func (.func g) gb gc] 51) := by
    rw [hW5]
    refine (Below.heap_alloc _ _ _ (by simp)).trans ((Below.heap_alloc _ _ _ (by simp)).trans ((Below.heap_alloc _ _ _ (by simp)).trans ?_))
    exact (by simpa using heap_alloc_new (w.alloc (.cells #[.slice la N lcap, .slice ca K ccap, .map (some M)] 39)) (.cells #[.func (.func g) gb gc] 51))
  have a2 : W5.heap[w.heap.size + 2]? = some (.cells #[.func (.func h) hb hc] 62) := by
    rw [hW5]
    refine (Below.heap_alloc _ _ _ (by simp)).trans ((Below.heap_alloc _ _ _ (by simp)).trans ?_)
    exact (by simpa using heap_alloc_new ((w.alloc (.cells #[.slice la N lcap, .slice ca K ccap, .map (some M)] 39)).alloc (.cells #[.func (.func g) gb gc] 51)) (.cells #[.func (.func h) hb hc] 62))
  have a3 : IMap W5 (w.heap.size + 3) (ofV (bst bt G C 0)) := by
    rw [hW5]
    refine IMap.alloc ?_ _
    have := IMap.made (((w.alloc (.cells #[.slice la N lcap, .slice ca K ccap, .map (some M)] 39)).alloc (.cells #[.func (.func g) gb gc] 51)).alloc (.cells #[.func (.func h) hb hc] 62))
    rw [show (((w.alloc (.cells #[.slice la N lcap, .slice ca K ccap, .map (some M)] 39)).alloc (.cells #[.func (.func g) gb gc] 51)).alloc (.cells #[.func (.func h) hb hc] 62)).heap.size = w.heap.size + 3 by simp] at this
    exact this
  have a4 : W5.heap[w.heap.size + 4]? = some (.cells #[.map (some (w.heap.size + 3))] 63) := by
    rw [hW5]
    exact (by simpa using heap_alloc_new ((((w.alloc (.cells #[.slice la N lcap, .slice ca K ccap, .map (some M)] 39)).alloc (.cells #[.func (.func g) gb gc] 51)).alloc (.cells #[.func (.func h) hb hc] 62)).alloc (.map #[] 0)) (.cells #[.map (some (w.heap.size + 3))] 63))
  have hX : ∀ b, w.heap.size ≤ b → ¬ X b := fun b h1 h2 => by have := hXw b h2; omega
  have CE : Hid (Calls Tryd.prog 26 #[.agg #[.slice la N lcap, .slice ca K ccap, .map (some M)], .func (.func 75) #[] #[.pointer (some ⟨w.heap.size + 1, 0, none⟩), .pointer (some ⟨w.heap.size + 4, 0, none⟩), .pointer (some ⟨w.heap.size + 2, 0, none⟩)]] W5 fun e w' => e = .returned (.tuple #[]) ∧ IMap w' (w.heap.size + 3) (ofV (bst bt G C K)) ∧ IG K w' ∧ Kept X w w' ∧ w'.heap[w.heap.size + 4]? = some (.cells #[.map (some (w.heap.size + 3))] 63)) := by
    refine (each_gen 75 #[] #[.pointer (some ⟨w.heap.size + 1, 0, none⟩), .pointer (some ⟨w.heap.size + 4, 0, none⟩), .pointer (some ⟨w.heap.size + 2, 0, none⟩)] (fun k W => IMap W (w.heap.size + 3) (ofV (bst bt G C k)) ∧ IG k W ∧ Kept (fun b => X b ∨ b = w.heap.size + 3) W5 W) la lb lo N lcap E ca K ccap M C W5 hcap hK (fun args V => by kernel_rfl) ?_ ?_ ?_ ?_).mono ?_
    · rintro k W W' ⟨h1, h2, h3⟩ hb
      have := h3.size
      exact ⟨h1.keep (hb.block _ h1.lt), hI k W W' (by omega) h2 (Kept.of_below hb), h3.trans (Kept.of_below hb)⟩
    · rintro k W ⟨h1, h2, h3⟩
      by_cases h0 : 0 < K
      · exact ((hC.keep (k5 (fun _ => False)) (fun h => h)).keep h3 (fun h => h.elim hXc (fun e => by have := (hC.1 h0).2; omega))).ctx
      · exact fun h => absurd h h0
    · rintro k W hk ⟨h1, h2, h3⟩
      have hzW := h3.size
      have e1 := (h3.block (w.heap.size + 1) (by omega) (fun h => h.elim (hX _ (by omega)) (by omega))).trans a1
      have e2 := (h3.block (w.heap.size + 4) (by omega) (fun h => h.elim (hX _ (by omega)) (by omega))).trans a4
      have e3 := (h3.block (w.heap.size + 2) (by omega) (fun h => h.elim (hX _ (by omega)) (by omega))).trans a2
      have hck := hCN k hk
      have hbN : ∀ x b, bst bt G C k x = some b → b < N := fun x b hb' => by
        obtain ⟨j, hj, e⟩ := bst_mem bt G C k x b hb'
        rw [e]; exact hCN j (by omega)
      refine (best1_is g h gb gc hb hc bt (bst bt G C k) (G (C k)) (w.heap.size + 1) (w.heap.size + 4) (w.heap.size + 2) (w.heap.size + 3) (C k) (fun V => w.heap.size ≤ V.heap.size ∧ IG (k + 1) V) X W hrg hrh e1 e2 e3 h1 (fun x b hb' => by have := hbN x b hb'; omega) (by omega) (hX _ (by omega)) (hX _ (by omega)) (hX _ (by omega)) (hX _ (by omega)) (hG _ hck) ?_ ?_ ?_).mono ?_
      · refine (hg k W hk (by omega) h2).mono ?_
        rintro e w' ⟨rfl, g1, g2⟩
        exact ⟨rfl, ⟨by have := g2.size; omega, g1⟩, g2⟩
      · rintro V b ⟨v1, v2⟩ hb'
        exact hh (k + 1) V (C k) b v1 v2 hck (hbN _ _ hb')
      · rintro V V' ⟨v1, v2⟩ hk'
        exact ⟨by have := hk'.size; omega, hI (k + 1) V V' v1 v2 (hk'.mono (fun b _ e => by omega))⟩
      · rintro e w' ⟨rfl, g1, g2, g3⟩
        exact ⟨rfl, g1, g2.2, h3.trans g3⟩
    · exact ⟨a3, hI 0 w W5 (Nat.le_refl _) hI0 (k5 _), Kept.refl _ _⟩
    · rintro e w' ⟨rfl, h1, h2, h3⟩
      exact ⟨rfl, h1, h2, (k5 X).trans' h3 (fun i hi h => h.elim id (fun e => by omega)), (h3.block (w.heap.size + 4) (by omega) (fun h => h.elim (hX _ (by omega)) (by omega))).trans a4⟩
  clear a1 a2 a3 a4 k5 hX hI hI0 hg hh hC hCN hXc hXw hG
  rw [hW5] at CE
  clear hW5 hz5 W5
  have hmm := @run_makeMap Tryd.prog
  go_enter Tryd.func54, Tryd.ntmps54
  go_wp2_with (go_at_call 26; refine CE.out.mono ?_; rintro e w6 ⟨rfl, g1, g2, g3, g4⟩; have H1 := hidS g1; have H2 := hidS g2; have H3 := hidS g3; obtain ⟨c6, _, _⟩ := bk1 g4; have c7 : w6.cell? ⟨w.heap.size + 1 + 1 + 1 + 1, 0, none⟩ = some (.map (some (w.heap.size + 3))) := c6; clear g1 g2 g3 g4)
  go_ret
  exact ⟨rfl, H1.out, H2.out, H3.out⟩
set_option maxHeartbeats 800000 in
theorem roots_is (la : Option Addr) (lb lo N lcap : Nat) (E : Nat → Nd) (ca : Option Addr) (K ccap M : Nat) (w : World) :
    Calls Tryd.prog 55 #[.agg #[.slice la N lcap, .slice ca K ccap, .map (some M)]] w fun e w' => e = .returned (.func (.func 76) #[] #[.pointer (some ⟨w.heap.size + 1, 0, none⟩), .pointer (some ⟨w.heap.size, 0, none⟩)]) ∧ w'.heap[w.heap.size + 1]? = some (.cells #[.int .i64 (-1)] 3) ∧ BoxAt w' w.heap.size la N lcap ca K ccap M ∧ Below w.heap.size w w' ∧ w'.heap.size = w.heap.size + 2 := by
  go_enter Tryd.func55, Tryd.ntmps55
  go_wp2
  go_ret
  exact ⟨rfl, by simpa using heap_alloc_new (w.alloc (.cells #[.slice la N lcap, .slice ca K ccap, .map (some M)] 39)) (.cells #[.int .i64 (-1)] 3), (Below.heap_alloc _ _ _ (by simp)).trans (heap_alloc_new _ _), ((Below.refl _ _).alloc (Nat.le_refl _) _).alloc (by simp) _, by simp⟩
open Classical in
/-- the node without a parent in whose tree a node is -/
noncomputable def rtN (E : Nat → Nd) (c : Nat) : Nat := if h : ∃ r, Rt E r c then Classical.choose h else c
theorem rtN_is {E : Nat → Nd} {N c : Nat} (t : Tr E N) (hc : c < N) : Rt E (rtN E c) c := by
  unfold rtN
  rw [dif_pos (Rt.ex t c hc)]
  exact Classical.choose_spec (Rt.ex t c hc)
set_option maxHeartbeats 3200000 in
theorem roots1_is (la : Option Addr) (lb lo N lcap : Nat) (E : Nat → Nd) (ca : Option Addr) (K ccap M : Nat) (xb rb c : Nat) (rt : Int) (w : World) (t : Tr E N) (hw : Wk w la lb lo N lcap E) (hx : BoxAt w xb la N lcap ca K ccap M) (hrb : w.heap[rb]? = some (.cells #[.int .i64 rt] 3)) (hrx : rb ≠ xb) (hrl : rb ≠ lb) (hc : c < N) (hrt : rt = -1 ∨ ∃ r : Nat, rt = r ∧ r ≤ c ∧ (E r).parent = -1) :
    Calls Tryd.prog 76 #[.int .i64 (c : Int), .pointer (some ⟨rb, 0, none⟩), .pointer (some ⟨xb, 0, none⟩)] w fun e w' => e = .returned (.int .i64 (rtN E c : Int)) ∧ w'.heap[rb]? = some (.cells #[.int .i64 (rtN E c : Int)] 3) ∧ Kept (fun b => b = rb) w w' := by
  have hR := rtN_is t hc
  have HR := hidS hR
  have HT := hidS t
  have HW := hidS hw
  have HX := hidS hx
  have HRB := hidS hrb
  have q2 := hw.n
  obtain ⟨n0, nf, nl⟩ := bk1 hrb
  obtain ⟨x0, x1, x2⟩ := hx.cells
  have CT : Hid (∀ W, Below w.heap.size w W → Calls Tryd.prog 77 #[.agg #[.slice la N lcap, .slice ca K ccap, .map (some M)], .int .i64 (c : Int)] W fun e w' => e = .returned (.int .i64 (rtN E c : Int)) ∧ Below W.heap.size W w') := fun W hW => top_is la lb lo N lcap E ca K ccap M c (rtN E c) W t (hw.below hW) hc hR
  have CL : Hid (∀ (W : World) (n : Nat), n < N → Below w.heap.size w W → Calls Tryd.prog 29 #[.agg #[.slice la N lcap, .slice ca K ccap, .map (some M)], .int .i64 (n : Int)] W fun e w' => e = .returned (.int .i64 ((n + zN E n : Nat) : Int)) ∧ Below W.heap.size W w') := fun W n hn hW => last_is la lb lo N lcap E ca K ccap M n W t (hw.below hW) hn
  generalize rtN E c = rc at *
  clear hw hx hrb
  rcases hrt with rfl | ⟨r, rfl, hr1, hr2⟩
  · clear CL t
    go_enter Tryd.func76, Tryd.ntmps76
    go_wp2_with (go_at_call 77; refine (CT.out _ (Below.refl _ _)).mono ?_; rintro e w1 ⟨rfl, hb1⟩; have HB1 := hidS hb1; have hN1 := (hb1.block rb nl).trans HRB.out; have HN1 := hidS hN1; obtain ⟨m0, mf, ml⟩ := bk1 hN1; clear hb1 hN1)
    go_ret
    exact ⟨rfl, heap_set_same HN1.out 0 _, (Kept.of_below HB1.out).setCell 0 _ (fun _ => rfl)⟩
  · have hrz := (t.sz r (by omega)).2
    have CL1 := hidS (CL.out w r (by omega) (Below.refl _ _))
    generalize hz1 : ((r + zN E r : Nat) : Int) = z1 at CL1
    by_cases hgt : z1 < (c : Int)
    · clear CL
      go_enter Tryd.func76, Tryd.ntmps76
      go_wp2_with (first
        | (go_at_call 29; refine CL1.out.mono ?_; rintro e w6 ⟨rfl, hb6⟩; have HB6 := hidS hb6; have hN6 := (hb6.block rb nl).trans HRB.out; obtain ⟨m0, mf, ml⟩ := bk1 hN6; obtain ⟨y0, y1, y2⟩ := (HX.out.below hb6).cells; clear hb6 hN6)
        | (go_at_call 77; refine (CT.out w6 HB6.out).mono ?_; rintro e w1 ⟨rfl, hb1⟩; have HB1 := hidS hb1; have hN1 := (hb1.block rb ml).trans ((HB6.out.block rb nl).trans HRB.out); have HN1 := hidS hN1; obtain ⟨p0, pf, pl⟩ := bk1 hN1; clear hb1 hN1))
      go_ret
      exact ⟨rfl, heap_set_same HN1.out 0 _, ((Kept.of_below HB6.out).trans (Kept.of_below HB1.out)).setCell 0 _ (fun _ => rfl)⟩
    · have HE : Hid (r = rc) := by
        have h1 : Rt E r c := ⟨⟨hr1, by omega⟩, hr2⟩
        exact Rt.one t hc h1 HR.out
      clear CL CT
      go_enter Tryd.func76, Tryd.ntmps76
      go_wp2_with (first
        | (go_at_call 29; refine CL1.out.mono ?_; rintro e w6 ⟨rfl, hb6⟩; have HB6 := hidS hb6; have hN6 := (hb6.block rb nl).trans HRB.out; have HN6 := hidS hN6; obtain ⟨m0, mf, ml⟩ := bk1 hN6; obtain ⟨y0, y1, y2⟩ := (HX.out.below hb6).cells; clear hb6 hN6))
      go_ret
      exact ⟨ret_int (by rw [HE.out]), by rw [← HE.out]; exact HN6.out, Kept.of_below HB6.out⟩
set_option maxHeartbeats 3200000 in
theorem ends_is (la : Option Addr) (lb lo N lcap : Nat) (E : Nat → Nd) (ca : Option Addr) (K ccap M : Nat) (xb a b : Nat) (w : World) (t : Tr E N) (hw : Wk w la lb lo N lcap E) (hx : BoxAt w xb la N lcap ca K ccap M) (ha : a < N) (hb : b < N) :
    Calls Tryd.prog 53 #[.int .i64 (a : Int), .int .i64 (b : Int), .pointer (some ⟨xb, 0, none⟩)] w fun e w' => e = .returned (.bool (decide (((a + zN E a : Nat) : Int) < ((b + zN E b : Nat) : Int)))) ∧ Below w.heap.size w w' := by
  have HX : Hid (∀ W, Below w.heap.size w W → (W.cell? ⟨xb, 0, none⟩ = some (.slice la N lcap) ∧ W.cell? ⟨xb, 1, none⟩ = some (.slice ca K ccap) ∧ W.cell? ⟨xb, 2, none⟩ = some (.map (some M)))) := fun W hW => (hx.below hW).cells
  have CA : Hid (∀ W, Below w.heap.size w W → Calls Tryd.prog 29 #[.agg #[.slice la N lcap, .slice ca K ccap, .map (some M)], .int .i64 (a : Int)] W fun e w' => e = .returned (.int .i64 ((a + zN E a : Nat) : Int)) ∧ Below W.heap.size W w') := fun W hW => last_is la lb lo N lcap E ca K ccap M a W t (hw.below hW) ha
  have CB : Hid (∀ W, Below w.heap.size w W → Calls Tryd.prog 29 #[.agg #[.slice la N lcap, .slice ca K ccap, .map (some M)], .int .i64 (b : Int)] W fun e w' => e = .returned (.int .i64 ((b + zN E b : Nat) : Int)) ∧ Below W.heap.size W w') := fun W hW => last_is la lb lo N lcap E ca K ccap M b W t (hw.below hW) hb
  obtain ⟨x0, x1, x2⟩ := hx.cells
  generalize ((a + zN E a : Nat) : Int) = za at *
  generalize ((b + zN E b : Nat) : Int) = zb at *
  clear t hw hx
  by_cases hlt : za < zb
  · rw [decide_eq_true hlt]
    go_enter Tryd.func53, Tryd.ntmps53
    go_upto_region 1 with fail
    go_region_held3 (fun W => W.cell? ⟨xb, 0, none⟩ = some (.slice la N lcap) ∧ W.cell? ⟨xb, 1, none⟩ = some (.slice ca K ccap) ∧ W.cell? ⟨xb, 2, none⟩ = some (.map (some M)))
      ((refine HX.out _ ?_; repeat (first | exact Hid.out (by assumption) | exact Below.refl _ _ | refine Below.drew ?_)))
      (first
        | (go_at_call 29; refine (CA.out _ ?_).mono ?_; (focus (repeat (first | exact Hid.out (by assumption) | exact Below.refl _ _ | refine Below.drew ?_))); rintro e w1 ⟨rfl, hb1⟩; have HB1 : Hid (Below w.heap.size w w1) := (by first | exact ((Hid.out (by assumption) : Below w.heap.size w _).trans (Below.mono (⟨hb1.os, hb1.tape, hb1.output, hb1.size, hb1.block⟩) (Below.size (Hid.out (by assumption))))) | exact (⟨hb1.os, hb1.tape, hb1.output, hb1.size, hb1.block⟩ : Below w.heap.size w w1)); clear hb1 CA)
        | (go_at_call 29; refine (CB.out _ ?_).mono ?_; (focus (repeat (first | exact Hid.out (by assumption) | exact Below.refl _ _ | refine Below.drew ?_))); rintro e w2 ⟨rfl, hb2⟩; have HB2 : Hid (Below w.heap.size w w2) := (by first | exact ((Hid.out (by assumption) : Below w.heap.size w _).trans (Below.mono (⟨hb2.os, hb2.tape, hb2.output, hb2.size, hb2.block⟩) (Below.size (Hid.out (by assumption))))) | exact (⟨hb2.os, hb2.tape, hb2.output, hb2.size, hb2.block⟩ : Below w.heap.size w w2)); clear hb2 CB))
    all_goals
      go_wp2_with fail
      go_ret
      exact ⟨by first | rfl | simp [hlt], HB2.out⟩
  · rw [decide_eq_false hlt]
    go_enter Tryd.func53, Tryd.ntmps53
    go_upto_region 1 with fail
    go_region_held3 (fun W => W.cell? ⟨xb, 0, none⟩ = some (.slice la N lcap) ∧ W.cell? ⟨xb, 1, none⟩ = some (.slice ca K ccap) ∧ W.cell? ⟨xb, 2, none⟩ = some (.map (some M)))
      ((refine HX.out _ ?_; repeat (first | exact Hid.out (by assumption) | exact Below.refl _ _ | refine Below.drew ?_)))
      (first
        | (go_at_call 29; refine (CA.out _ ?_).mono ?_; (focus (repeat (first | exact Hid.out (by assumption) | exact Below.refl _ _ | refine Below.drew ?_))); rintro e w1 ⟨rfl, hb1⟩; have HB1 : Hid (Below w.heap.size w w1) := (by first | exact ((Hid.out (by assumption) : Below w.heap.size w _).trans (Below.mono (⟨hb1.os, hb1.tape, hb1.output, hb1.size, hb1.block⟩) (Below.size (Hid.out (by assumption))))) | exact (⟨hb1.os, hb1.tape, hb1.output, hb1.size, hb1.block⟩ : Below w.heap.size w w1)); clear hb1 CA)
        | (go_at_call 29; refine (CB.out _ ?_).mono ?_; (focus (repeat (first | exact Hid.out (by assumption) | exact Below.refl _ _ | refine Below.drew ?_))); rintro e w2 ⟨rfl, hb2⟩; have HB2 : Hid (Below w.heap.size w w2) := (by first | exact ((Hid.out (by assumption) : Below w.heap.size w _).trans (Below.mono (⟨hb2.os, hb2.tape, hb2.output, hb2.size, hb2.block⟩) (Below.size (Hid.out (by assumption))))) | exact (⟨hb2.os, hb2.tape, hb2.output, hb2.size, hb2.block⟩ : Below w.heap.size w w2)); clear hb2 CB))
    all_goals
      go_wp2_with fail
      go_ret
      exact ⟨by first | rfl | simp [hlt], HB2.out⟩
end Go.Proofs.YtnfljohddpadhaaDoor
