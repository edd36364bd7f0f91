/-
  THE LAW ExceptSplit of package pleacherkeep.
-/
import Derived.Test.YtieoefalngioiaaDoorKpCf
import Derived.Deep.QuietTactic
import Derived.BigQuiet
import Derived.Sort.AtCall
import Derived.Laws.EntriesVeiled
set_option linter.unusedVariables false
namespace Go.Proofs.YtieoefalngioiaaDoor
set_option maxRecDepth 100000
open Go.RowKit Go.WideShapes

theorem relation_ex (v : Value) (n : Nat) (X : Nat → Rw) (a b : ByteArray) (w : World) (hv : RawsIs w v n X) (hf : RawsFine n X) :
    Calls Tryd.prog 4 #[v, .string a, .string b] w fun e w' => ∃ ca cc ra rc, e = .returned (.agg #[.slice ca 2 cc, .slice ra (rawN n) rc]) ∧ CopyIs w' (.slice ca 2 cc) (.slice ra (rawN n) rc) 2 (rawN n) (twoC a b) (rawR X) ∧ Chain w w' := by
  refine (relation_is v n X a b w hv hf).mono ?_
  rintro e w' ⟨c, q, rfl, h1, h2, h3, h4⟩
  have h1' := h1
  obtain ⟨ca, cc, rfl, _⟩ := h1
  have h2' := h2.is
  obtain ⟨ra, rc, rfl⟩ := h2.shape
  exact ⟨ca, cc, ra, rc, rfl, ⟨h1', h2'⟩, h3⟩
theorem two_litb (w : World) (a b : ByteArray) (T : TypeId) (g : Nat) (h : w.heap.size = g) : StrsIs (w.alloc (.cells #[.string a, .string b] T)) (.slice (some ⟨g, 0, none⟩) 2 2) 2 (twoC a b) := by
  subst h
  exact ⟨_, _, rfl, Nat.le_refl _, by unfold maxLen; omega, (fun h => nomatch h), fun _ => ⟨_, _, rfl, by simp, fun i hi => by
    have : i = 0 ∨ i = 1 := by omega
    rcases this with rfl | rfl <;> simp [twoC]⟩⟩
theorem one_litb (w : World) (a : ByteArray) (T : TypeId) (g : Nat) (h : w.heap.size = g) : StrsIs (w.alloc (.cells #[.string a] T)) (.slice (some ⟨g, 0, none⟩) 1 1) 1 (fun _ => a) := by
  subst h
  exact ⟨_, _, rfl, Nat.le_refl _, by unfold maxLen; omega, (fun h => nomatch h), fun _ => ⟨_, _, rfl, by simp, fun i hi => by
    obtain rfl : i = 0 := by omega
    simp⟩⟩
theorem carry2 {w wr : World} {b : Nat} {x y : Value} (h : Chain w wr) (h0 : w.cell? ⟨b, 0, none⟩ = some x) (h1 : w.cell? ⟨b, 1, none⟩ = some y) (hb : b < w.heap.size) : wr.cell? ⟨b, 0, none⟩ = some x ∧ wr.cell? ⟨b, 1, none⟩ = some y ∧ b < wr.heap.size :=
  ⟨(Below.cell h (p := ⟨b, 0, none⟩) hb).trans h0, (Below.cell h (p := ⟨b, 1, none⟩) hb).trans h1, Nat.lt_of_lt_of_le hb (Below.size h)⟩
theorem carry1 {w wr : World} {b : Nat} {x : Value} (h : Chain w wr) (h0 : w.cell? ⟨b, 0, none⟩ = some x) (hb : b < w.heap.size) : wr.cell? ⟨b, 0, none⟩ = some x ∧ b < wr.heap.size :=
  ⟨(Below.cell h (p := ⟨b, 0, none⟩) hb).trans h0, Nat.lt_of_lt_of_le hb (Below.size h)⟩
theorem exc_gen (both : Bool) (X : Nat → Rw) (M m' : Nat) (S : Nat → Row) (hm : M ≤ 12) (hm' : m' ≤ 12) (hS : relF (twoC nA nB) 2 S m' = 0) (hfS : RowsFine m' S) (c q c' q' l : Value) (W : World) (hT : Tabs W) (h1 : CopyIs W c q 2 M (twoC nA nB) (rawR X)) (h2 : CopyIs W c' q' 2 m' (twoC nA nB) S) (hl : StrsIs W l (exk both) (exO both)) :
    Calls Tryd.prog 5 #[.agg #[c, q], .agg #[c', q'], l] W fun e w' => ∃ a3 k3 b3 l3, e = .returned (.tuple #[.agg #[.slice a3 2 k3, .slice b3 (keptN (exK both (rawR X) S m') M) l3], .int .i64 0]) ∧ CopyIs w' (.slice a3 2 k3) (.slice b3 (keptN (exK both (rawR X) S m') M) l3) 2 (keptN (exK both (rawR X) S m') M) (twoC nA nB) (keptR (exK both (rawR X) S m') M (rawR X)) ∧ Chain W w' := by
  have h := except_is c q c' q' l 2 M 2 m' (exk both) (twoC nA nB) (twoC nA nB) (exO both) (rawR X) S W h1.1 h1.2 (cols_fine _ _ (by decide) (by decide)) (raw_fine X _ hm) h2.1 h2.2 (cols_fine _ _ (by decide) (by decide)) hfS hl (fine_ex both) hT
  have h0 : excF (twoC nA nB) 2 (rawR X) M (twoC nA nB) 2 S m' (exO both) (exk both) = 0 := by
    unfold excF twoF
    rw [rel_ab X M hm, hS, if_pos rfl, if_pos rfl, if_pos ⟨found_ex both, found_ex both⟩]
  rw [h0] at h
  refine h.mono ?_
  rintro e w' ⟨c1, q1, h3, h4, h5⟩
  obtain ⟨h7, h8⟩ := h4 w' (Nat.le_refl _) (fun _ _ _ => rfl)
  have h9 := h8
  have h10 := h7
  obtain ⟨a3, k3, rfl, _⟩ := h7
  obtain ⟨b3, l3, rfl, _⟩ := h8
  exact ⟨a3, k3, b3, l3, h3, ⟨h10, h9⟩, h5⟩
theorem lit_own {w : World} (o : Obj) (a b : ByteArray) : (((w.alloc o).alloc (.cells #[.string a] 9)).alloc (.cells #[.string b] 9)).ownsRow (w.heap.size + 1) 9 1 (.slice (some ⟨w.heap.size + 1, 0, none⟩) 1 1) 1 [.string a] := by
  have h := World.ownsRow_lit (base := w.heap.size + 1) (e := 9) (size := 1) (w.alloc o) #[.string a] 1 (by simp) (by unfold maxLen; omega) rfl
  rw [show (w.alloc o).heap.size = w.heap.size + 1 by simp] at h
  exact h.alloc _
theorem elemV_in {w : World} (u : Value) (T : TypeId) : ∀ j x, ([u] : List Value)[j]? = some x → (w.alloc (.cells #[u] T)).cell? ((⟨w.heap.size, 0, none⟩ : Addr).add j) = some x := by
  intro j x hj
  have hj1 : j < 1 := (List.getElem?_eq_some_iff.1 hj).1
  obtain rfl : j = 0 := by omega
  simp at hj
  subst hj
  simp [Addr.add]
theorem elemV_inb {w : World} (u : Value) (T : TypeId) (g : Nat) (h : w.heap.size = g) : ∀ j x, ([u] : List Value)[j]? = some x → (w.alloc (.cells #[u] T)).cell? ((⟨g, 0, none⟩ : Addr).add j) = some x := h ▸ elemV_in u T
theorem str_one (b : ByteArray) : ∀ u ∈ ([.string b] : List Value), u.oneCell' = true := by
  intro u hu
  simp at hu
  subst hu
  rfl
theorem two_own {w : World} {base : Nat} {v : Value} {a b : ByteArray} (h : w.ownsRow base 9 1 v 2 [.string a, .string b]) : StrsIs w v 2 (twoC a b) := by
  have h8 := h
  obtain ⟨hl, ⟨rfl, h3⟩ | ⟨g, cap, cur, rfl, q1, q2, q3, q4, _⟩⟩ := h
  · cases h3
  · refine ⟨_, cap, rfl, q3, q4, (fun h => nomatch h), fun _ => ⟨g, 0, rfl, (Array.getElem?_eq_some_iff.1 q2).1, fun i hi => ?_⟩⟩
    rw [Nat.zero_add, h8.cellAt _ (by omega)]
    have : i = 0 ∨ i = 1 := by omega
    rcases this with rfl | rfl <;> rfl
set_option maxHeartbeats 12800000 in
theorem lawExceptNo (v u : Value) (n n' : Nat) (X Y : Nat → Rw) (w : World) (hv : RawsIs w v n X) (hf : RawsFine n X) (hu : RawsIs w u n' Y) (hf' : RawsFine n' Y) (hT : Tabs w) :
    Calls Tryd.prog 3 #[v, u, .bool false] w fun e w' => e = .returned (.bool true) ∧ Below w.heap.size w w' := by
  have hm := rawN_le n
  have hm' := rawN_le n'
  have CA : Hid (∀ W, Chain w W → Calls Tryd.prog 4 #[v, .string ⟨#[97]⟩, .string ⟨#[98]⟩] W fun e w' => ∃ ca cc ra rc, e = .returned (.agg #[.slice ca 2 cc, .slice ra (rawN n) rc]) ∧ CopyIs w' (.slice ca 2 cc) (.slice ra (rawN n) rc) 2 (rawN n) (twoC nA nB) (rawR X) ∧ Chain W w') := fun W hW => relation_ex v n X nA nB W (hv.below hW) hf
  have CB : Hid (∀ W, Chain w W → Calls Tryd.prog 4 #[u, .string ⟨#[97]⟩, .string ⟨#[98]⟩] W fun e w' => ∃ ca cc ra rc, e = .returned (.agg #[.slice ca 2 cc, .slice ra (rawN n') rc]) ∧ CopyIs w' (.slice ca 2 cc) (.slice ra (rawN n') rc) 2 (rawN n') (twoC nA nB) (rawR Y) ∧ Chain W w') := fun W hW => relation_ex u n' Y nA nB W (hu.below hW) hf'
  obtain ⟨M, hM⟩ : ∃ M, M = rawN n := ⟨_, rfl⟩
  obtain ⟨M', hM'⟩ : ∃ M', M' = rawN n' := ⟨_, rfl⟩
  rw [← hM] at CA hm
  rw [← hM'] at CB hm'
  obtain ⟨N1, hN1⟩ : ∃ N, N = keptN (exK false (rawR X) (rawR Y) M') M := ⟨_, rfl⟩
  obtain ⟨U, hU⟩ : ∃ U, U = keptR (exK false (rawR X) (rawR Y) M') M (rawR X) := ⟨_, rfl⟩
  obtain ⟨N2, hN2⟩ : ∃ N, N = keptN (exK false (rawR X) U N1) M := ⟨_, rfl⟩
  obtain ⟨V, hV⟩ : ∃ V, V = keptR (exK false (rawR X) U N1) M (rawR X) := ⟨_, rfl⟩
  have hn1 : N1 ≤ 12 := by rw [hN1]; exact Nat.le_trans (keptN_le _ _) hm
  have hn2 : N2 ≤ 12 := by rw [hN2]; exact Nat.le_trans (keptN_le _ _) hm
  have hsum : N1 + N2 = M := by rw [hN2, hU, hN1]; exact split_ex false (rawR X) (rawR Y) M M'
  have HLU : Hid (∀ t, (U t).len = 2) := fun t => by rw [hU]; rfl
  have HLV : Hid (∀ t, (V t).len = 2) := fun t => by rw [hV]; rfl
  have HAU : Hid (∀ t, t < N1 → (List.range M').any (fun j => rowB false (U t) (rawR Y j)) = false) := fun t ht => by
    rw [hN1] at ht
    rw [hU]
    exact rest_any false (rawR X) (rawR Y) M M' t ht
  have HAV : Hid (∀ t, t < N2 → (List.range M').any (fun j => rowB false (V t) (rawR Y j)) = true) := fun t ht => by
    rw [hN2, hU, hN1] at ht
    rw [hV, hU, hN1]
    exact gone_any false (rawR X) (rawR Y) M M' t ht
  have CE1 : Hid (∀ W c q c' q' l, Chain w W → CopyIs W c q 2 M (twoC nA nB) (rawR X) → CopyIs W c' q' 2 M' (twoC nA nB) (rawR Y) → StrsIs W l (exk false) (exO false) → Calls Tryd.prog 5 #[.agg #[c, q], .agg #[c', q'], l] W fun e w' => ∃ a3 k3 b3 l3, e = .returned (.tuple #[.agg #[.slice a3 2 k3, .slice b3 N1 l3], .int .i64 0]) ∧ CopyIs w' (.slice a3 2 k3) (.slice b3 N1 l3) 2 N1 (twoC nA nB) U ∧ Chain W w') := fun W c q c' q' l hW h1 h2 hl => by
    have h := exc_gen false X M M' (rawR Y) hm hm' (rel_ab Y M' hm') (raw_fine Y M' hm') c q c' q' l W (Utf8Tabs_below hT hW) h1 h2 hl
    rw [← hN1, ← hU] at h
    exact h
  have CE2 : Hid (∀ W c q c' q' l, Chain w W → CopyIs W c q 2 M (twoC nA nB) (rawR X) → CopyIs W c' q' 2 N1 (twoC nA nB) U → StrsIs W l (exk false) (exO false) → Calls Tryd.prog 5 #[.agg #[c, q], .agg #[c', q'], l] W fun e w' => ∃ a3 k3 b3 l3, e = .returned (.tuple #[.agg #[.slice a3 2 k3, .slice b3 N2 l3], .int .i64 0]) ∧ CopyIs w' (.slice a3 2 k3) (.slice b3 N2 l3) 2 N2 (twoC nA nB) V ∧ Chain W w') := fun W c q c' q' l hW h1 h2 hl => by
    have h := exc_gen false X M N1 U hm hn1 (by rw [hU]; exact kept_rel X _ M N1 hn1) (by rw [hU]; exact kept_fine X _ M N1 hn1) c q c' q' l W (Utf8Tabs_below hT hW) h1 h2 hl
    rw [← hN2, ← hV] at h
    exact h
  have CE3 : Hid (∀ W c q c' q' l, Chain w W → CopyIs W c q 2 M (twoC nA nB) (rawR X) → CopyIs W c' q' 2 M (twoC nA nB) (rawR X) → StrsIs W l (exk false) (exO false) → Calls Tryd.prog 5 #[.agg #[c, q], .agg #[c', q'], l] W fun e w' => ∃ a3 k3 b3 l3, e = .returned (.tuple #[.agg #[.slice a3 2 k3, .slice b3 0 l3], .int .i64 0]) ∧ Chain W w') := fun W c q c' q' l hW h1 h2 hl => by
    have h := exc_gen false X M M (rawR X) hm hm (rel_ab X M hm) (raw_fine X M hm) c q c' q' l W (Utf8Tabs_below hT hW) h1 h2 hl
    rw [none_ex] at h
    refine h.mono ?_
    rintro e w' ⟨a3, k3, b3, l3, h3, _, h5⟩
    exact ⟨a3, k3, b3, l3, h3, h5⟩
  have CF2 : Hid (∀ W g gs gr bq uv t, t < N1 → W.cell? ⟨g, 0, none⟩ = some (.bool false) → W.cell? ⟨gs, 0, none⟩ = some (.func (.func 6) #[] #[.pointer (some ⟨g, 0, none⟩)]) → W.cell? ⟨gr, 0, none⟩ = some uv → ItsIs W uv 2 (U t).at_ → RowsIs W bq M' (rawR Y) → Calls Tryd.prog 7 #[bq, .func (.func 8) #[] #[.pointer (some ⟨gs, 0, none⟩), .pointer (some ⟨gr, 0, none⟩)]] W fun e w' => e = .returned (.bool false) ∧ ∃ q, w' = W.drewN q) := fun W g gs gr bq uv t ht h1 h2 h3 h4 h5 => by
    have h := containsFunc_gen 8 #[.pointer (some ⟨gs, 0, none⟩), .pointer (some ⟨gr, 0, none⟩)] (fun j => rowB false (U t) (rawR Y j)) bq M' (rawR Y) W h5 (fun _ _ => rfl) (fun k q y hk hy => has2_is uv y (U t).at_ (rawR Y k).at_ g gs gr false (W.drewN q) (its_drawn h4 q) hy ((drawn_keep2 rfl).trans h1) ((drawn_keep2 rfl).trans h2) ((drawn_keep2 rfl).trans h3))
    rw [HAU.out t ht] at h
    exact h
  have CF3 : Hid (∀ W g gs gr bq uv t, t < N2 → W.cell? ⟨g, 0, none⟩ = some (.bool false) → W.cell? ⟨gs, 0, none⟩ = some (.func (.func 6) #[] #[.pointer (some ⟨g, 0, none⟩)]) → W.cell? ⟨gr, 0, none⟩ = some uv → ItsIs W uv 2 (V t).at_ → RowsIs W bq M' (rawR Y) → Calls Tryd.prog 7 #[bq, .func (.func 9) #[] #[.pointer (some ⟨gs, 0, none⟩), .pointer (some ⟨gr, 0, none⟩)]] W fun e w' => e = .returned (.bool true) ∧ ∃ q, w' = W.drewN q) := fun W g gs gr bq uv t ht h1 h2 h3 h4 h5 => by
    have h := containsFunc_gen 9 #[.pointer (some ⟨gs, 0, none⟩), .pointer (some ⟨gr, 0, none⟩)] (fun j => rowB false (V t) (rawR Y j)) bq M' (rawR Y) W h5 (fun _ _ => rfl) (fun k q y hk hy => has3_is uv y (V t).at_ (rawR Y k).at_ g gs gr false (W.drewN q) (its_drawn h4 q) hy ((drawn_keep2 rfl).trans h1) ((drawn_keep2 rfl).trans h2) ((drawn_keep2 rfl).trans h3))
    rw [HAV.out t ht] at h
    exact h
  obtain ⟨i0, hi0, hz0', hz1, hz2'⟩ := info_parts infoStr
  obtain ⟨va, vc, rfl, _⟩ := hv
  obtain ⟨ua, uc, rfl, _⟩ := hu
  clear hf hT hM hM' hN1 hU hN2 hV hf' HAU HAV
  have hmf : ∀ (fn : Fn) (first cap : Array Value) (w : World), (Instr.makeFunc fn first cap).run Tryd.prog w = .ok (.func fn first cap) w := fun _ _ _ _ => rfl
  go_enter Tryd.func3, Tryd.ntmps3
  go_wp2_with (first
    | (go_at_call_has 4 (Value.slice va n vc); refine (CA.out _ ((Chain.refl _).alloc _)).mono ?_; rintro e w1 ⟨ca, cc, ra, rc, rfl, hc1, hb1⟩; have HC1 : Hid (CopyIs w1 (.slice ca 2 cc) (.slice ra M rc) 2 M (twoC nA nB) (rawR X)) := hc1; have g0 := (Below.cell hb1 (p := ⟨w.heap.size, 0, none⟩) (by simp)).trans (show (w.alloc (.cells #[.bool false] 4)).cell? ⟨w.heap.size, 0, none⟩ = some (.bool false) by simp); have g1 : w.heap.size < w1.heap.size := (by have := Below.size hb1; simp at this; omega); have HB1 : Hid (Chain w w1) := ((Chain.refl _).alloc _).trans hb1; clear hc1 hb1 CA)
    | (go_at_call_has 4 (Value.slice ua n' uc); refine (CB.out _ (HB1.out.alloc _)).mono ?_; rintro e w2 ⟨cb, cd, rb, rd, rfl, hc2, hb2⟩; have HC2 : Hid (CopyIs w2 (.slice cb 2 cd) (.slice rb M' rd) 2 M' (twoC nA nB) (rawR Y)) := hc2; obtain ⟨x0, x1, x2, _, _⟩ := kept_new hb2; have HB12 : Hid (Chain w1 w2) := ((Chain.refl _).alloc _).trans hb2; have hg := carry1 HB12.out g0 g1; clear g0 g1; obtain ⟨g0, g1⟩ := hg; clear hc2 hb2 CB)
    | (go_at_call_has 5 (Value.slice rb M' rd); refine (CE1.out _ _ _ _ _ _ ?_ ?_ ?_ ?_).mono ?_; (focus (repeat (first | exact HB1.out.trans HB12.out | refine Chain.alloc ?_ _))); (focus (repeat (first | exact HC1.out.chain HB12.out | refine CopyIs.alloc ?_ _))); (focus (repeat (first | exact HC2.out | refine CopyIs.alloc ?_ _))); (focus (exact one_litb _ _ _ _ (by simp))); rintro e w3 ⟨a3, k3, b3, l3, rfl, hc3, hb3⟩; have HCO : Hid (StrsIs w3 (.slice (some ⟨w2.heap.size + 1, 0, none⟩) 1 1) (exk false) (exO false)) := strs_chain (one_litb _ _ _ _ (by simp)) hb3; have HC3 : Hid (CopyIs w3 (.slice a3 2 k3) (.slice b3 N1 l3) 2 N1 (twoC nA nB) U) := hc3; have hb3' : Chain (w2.alloc (.cells #[.slice cb 2 cd, .slice rb M' rd] 26)) w3 := Chain.trans (by (repeat (first | exact Chain.refl _ | refine Chain.alloc ?_ _))) hb3; obtain ⟨y0, y1, y2, _, _⟩ := kept_new hb3'; have HB23 : Hid (Chain w2 w3) := ((Chain.refl _).alloc _).trans hb3'; have hx := carry2 HB23.out x0 x1 x2; clear x0 x1 x2; obtain ⟨x0, x1, x2⟩ := hx; have hg := carry1 HB23.out g0 g1; clear g0 g1; obtain ⟨g0, g1⟩ := hg; clear hc3 hb3 hb3' CE1)
    | (go_at_call_has 5 (Value.slice b3 N1 l3); refine (CE2.out _ _ _ _ _ _ (((HB1.out.trans HB12.out).trans HB23.out).alloc _) (HC1.out.chain ((HB12.out.trans HB23.out).alloc _)) (HC3.out.alloc _) (strs_chain HCO.out ((Chain.refl _).alloc _))).mono ?_; rintro e w4 ⟨a4, k4, b4, l4, rfl, hc4, hb4⟩; have HC4 : Hid (CopyIs w4 (.slice a4 2 k4) (.slice b4 N2 l4) 2 N2 (twoC nA nB) V) := hc4; have HB34 : Hid (Chain w3 w4) := ((Chain.refl _).alloc _).trans hb4; obtain ⟨z0, z1, z2, _, _⟩ := kept_new hb4; have hx := carry2 HB34.out x0 x1 x2; clear x0 x1 x2; obtain ⟨x0, x1, x2⟩ := hx; have hy := carry2 HB34.out y0 y1 y2; clear y0 y1 y2; obtain ⟨y0, y1, y2⟩ := hy; have hg := carry1 HB34.out g0 g1; clear g0 g1; obtain ⟨g0, g1⟩ := hg; clear hc4 hb4 CE2)
    | (go_at_call 5; refine (CE3.out _ _ _ _ _ _ ((((HB1.out.trans HB12.out).trans HB23.out).trans HB34.out).alloc _) (HC1.out.chain (((HB12.out.trans HB23.out).trans HB34.out).alloc _)) (HC1.out.chain (((HB12.out.trans HB23.out).trans HB34.out).alloc _)) (strs_chain HCO.out (HB34.out.alloc _))).mono ?_; rintro e w5 ⟨a5, k5, b5, l5, rfl, hb5⟩; have HB45 : Hid (Chain w4 w5) := ((Chain.refl _).alloc _).trans hb5; obtain ⟨t0, t1, t2, _, _⟩ := kept_new hb5; have hx := carry2 HB45.out x0 x1 x2; clear x0 x1 x2; obtain ⟨x0, x1, x2⟩ := hx; have hy := carry2 HB45.out y0 y1 y2; clear y0 y1 y2; obtain ⟨y0, y1, y2⟩ := hy; have hz := carry2 HB45.out z0 z1 z2; clear z0 z1 z2; obtain ⟨z0, z1, z2⟩ := hz; have hg := carry1 HB45.out g0 g1; clear g0 g1; obtain ⟨g0, g1⟩ := hg; clear hb5 CE3))
  have HBW : Hid (Chain w w5) := (((HB1.out.trans HB12.out).trans HB23.out).trans HB34.out).trans HB45.out
  obtain ⟨W6, hW6⟩ : ∃ W, W = ((w5.alloc (.cells #[.slice a5 2 k5, .slice b5 0 l5] 26)).alloc (.cells #[.func (.func 6) #[] #[.pointer (some ⟨w.heap.size, 0, none⟩)]] 34)) := ⟨_, rfl⟩
  have h56 : Chain w5 W6 := by rw [hW6]; exact ((Chain.refl _).alloc _).alloc _
  have s0 : W6.cell? ⟨w5.heap.size + 1, 0, none⟩ = some (.func (.func 6) #[] #[.pointer (some ⟨w.heap.size, 0, none⟩)]) := by rw [hW6]; simp
  have s1 : w5.heap.size + 1 < W6.heap.size := by rw [hW6]; simp
  have HS : Hid (∀ W, Chain W6 W → (W.cell? ⟨w.heap.size, 0, none⟩ = some (.bool false) ∧ w.heap.size < W.heap.size) ∧ (W.cell? ⟨w5.heap.size + 1, 0, none⟩ = some (.func (.func 6) #[] #[.pointer (some ⟨w.heap.size, 0, none⟩)]) ∧ w5.heap.size + 1 < W.heap.size) ∧ (W.cell? ⟨w1.heap.size, 0, none⟩ = some (.slice ca 2 cc) ∧ W.cell? ⟨w1.heap.size, 1, none⟩ = some (.slice ra M rc) ∧ w1.heap.size < W.heap.size) ∧ (W.cell? ⟨w2.heap.size, 0, none⟩ = some (.slice cb 2 cd) ∧ W.cell? ⟨w2.heap.size, 1, none⟩ = some (.slice rb M' rd) ∧ w2.heap.size < W.heap.size) ∧ (W.cell? ⟨w3.heap.size, 0, none⟩ = some (.slice a3 2 k3) ∧ W.cell? ⟨w3.heap.size, 1, none⟩ = some (.slice b3 N1 l3) ∧ w3.heap.size < W.heap.size) ∧ (W.cell? ⟨w4.heap.size, 0, none⟩ = some (.slice a4 2 k4) ∧ W.cell? ⟨w4.heap.size, 1, none⟩ = some (.slice b4 N2 l4) ∧ w4.heap.size < W.heap.size)) := fun W h => ⟨carry1 (h56.trans h) g0 g1, carry1 h s0 s1, carry2 (h56.trans h) x0 x1 x2, carry2 (h56.trans h) y0 y1 y2, carry2 (h56.trans h) z0 z1 z2, carry2 (h56.trans h) t0 t1 t2⟩
  have HWW : Hid (∀ W, Chain W6 W → Chain w W) := fun W h => (HBW.out.trans h56).trans h
  have HRB : Hid (∀ W, Chain W6 W → RowsIs W (.slice rb M' rd) M' (rawR Y)) := fun W h => HC2.out.2.below ((((HB23.out.trans HB34.out).trans HB45.out).trans h56).trans h)
  have HRU : Hid (∀ W, Chain W6 W → RowsIs W (.slice b3 N1 l3) N1 U) := fun W h => HC3.out.2.below (((HB34.out.trans HB45.out).trans h56).trans h)
  have HRV : Hid (∀ W, Chain W6 W → RowsIs W (.slice b4 N2 l4) N2 V) := fun W h => HC4.out.2.below ((HB45.out.trans h56).trans h)
  rw [← hW6]
  clear hW6 h56 s0 s1 HBW HB1 HB12 HB23 HB34 HB45 HC1 HC2 HC3 HC4 HCO x0 x1 x2 y0 y1 y2 z0 z1 z2 t0 t1 t2 g0 g1
  obtain ⟨⟨g0, g1⟩, ⟨s0, s1⟩, ⟨x0, x1, x2⟩, ⟨y0, y1, y2⟩, ⟨z0, z1, z2⟩, ⟨t0, t1, t2⟩⟩ := HS.out W6 (Chain.refl _)
  go_wp2_with fail
  go_loopw [71] (fun i wr => ∃ k : Nat, k ≤ N1 ∧ i = .int .i64 k ∧ Chain W6 wr) (fun i _ => N1 - (intOf i).toNat)
  case atStart => exact ⟨0, Nat.zero_le _, rfl, Chain.refl _⟩
  case round =>
    clear g0 g1 s0 s1 x0 x1 x2 y0 y1 y2 z0 z1 z2 t0 t1 t2
    obtain ⟨k, hk, rfl, hch⟩ := hrel
    have HCH : Hid (Chain W6 wr) := hch
    obtain ⟨⟨g0, g1⟩, ⟨s0, s1⟩, ⟨x0, x1, x2⟩, ⟨y0, y1, y2⟩, ⟨z0, z1, z2⟩, ⟨t0, t1, t2⟩⟩ := HS.out wr hch
    by_cases hkl : k < N1
    · obtain ⟨_, _, e', _, _, _, h4⟩ := HRU.out wr hch
      cases e'
      obtain ⟨b, off, rfl, hb0, h5⟩ := h4 (by omega)
      obtain ⟨uu, e1, hu⟩ := h5 k hkl
      rw [HLU.out k] at hu
      have HU : Hid (ItsIs wr uu 2 (U k).at_) := hu
      obtain ⟨ua1, uc1, rfl, _⟩ := hu
      have hki : (k : Int) < (N1 : Int) := by omega
      have CC : Hid (Calls Tryd.prog 7 #[.slice rb M' rd, .func (.func 8) #[] #[.pointer (some ⟨w5.heap.size + 1, 0, none⟩), .pointer (some ⟨wr.heap.size, 0, none⟩)]] (wr.alloc (.cells #[.slice ua1 2 uc1] 31)) fun e w' => e = .returned (.bool false) ∧ ∃ q, w' = (wr.alloc (.cells #[.slice ua1 2 uc1] 31)).drewN q) := by
        have h1 := HS.out _ (hch.alloc (.cells #[.slice ua1 2 uc1] 31))
        exact CF2.out _ w.heap.size (w5.heap.size + 1) wr.heap.size (.slice rb M' rd) (.slice ua1 2 uc1) k hkl h1.1.1 h1.2.1.1 (by simp) (HU.out.below ((Below.refl _ _).alloc (Nat.le_refl _) _)) (HRB.out _ (hch.alloc _))
      clear h4 h5 hch
      go_wp2_with (go_at_call 7; refine CC.out.mono ?_; rintro e w7 ⟨rfl, q7, hw7⟩; have HW7 : Hid (Chain W6 w7) := (by rw [hw7]; exact below_drawn (HCH.out.alloc _) q7); clear hw7)
      go_roundw
      case rel => exact ⟨k + 1, by omega, by go_num, HW7.out⟩
      case measure => simp [intOf]; omega
    · have e : k = N1 := by omega
      subst e
      go_wp2_with fail
      go_loopw [83] (fun i wr' => ∃ j : Nat, j ≤ N2 ∧ i = .int .i64 j ∧ Chain W6 wr') (fun i _ => N2 - (intOf i).toNat)
      case atStart => exact ⟨0, Nat.zero_le _, rfl, HCH.out⟩
      case round =>
        clear g0 g1 s0 s1 x0 x1 x2 y0 y1 y2 z0 z1 z2 t0 t1 t2
        obtain ⟨j, hj, rfl, hch2⟩ := hrel
        have HCH2 : Hid (Chain W6 wr) := hch2
        obtain ⟨⟨g0, g1⟩, ⟨s0, s1⟩, ⟨x0, x1, x2⟩, ⟨y0, y1, y2⟩, ⟨z0, z1, z2⟩, ⟨t0, t1, t2⟩⟩ := HS.out wr hch2
        by_cases hjl : j < N2
        · obtain ⟨_, _, e', _, _, _, h4⟩ := HRV.out wr hch2
          cases e'
          obtain ⟨b, off, rfl, hb0, h5⟩ := h4 (by omega)
          obtain ⟨uu, e1, hu⟩ := h5 j hjl
          rw [HLV.out j] at hu
          have HU : Hid (ItsIs wr uu 2 (V j).at_) := hu
          obtain ⟨ua1, uc1, rfl, _⟩ := hu
          have hji : (j : Int) < (N2 : Int) := by omega
          have CC : Hid (Calls Tryd.prog 7 #[.slice rb M' rd, .func (.func 9) #[] #[.pointer (some ⟨w5.heap.size + 1, 0, none⟩), .pointer (some ⟨wr.heap.size, 0, none⟩)]] (wr.alloc (.cells #[.slice ua1 2 uc1] 31)) fun e w' => e = .returned (.bool true) ∧ ∃ q, w' = (wr.alloc (.cells #[.slice ua1 2 uc1] 31)).drewN q) := by
            have h1 := HS.out _ (hch2.alloc (.cells #[.slice ua1 2 uc1] 31))
            exact CF3.out _ w.heap.size (w5.heap.size + 1) wr.heap.size (.slice rb M' rd) (.slice ua1 2 uc1) j hjl h1.1.1 h1.2.1.1 (by simp) (HU.out.below ((Below.refl _ _).alloc (Nat.le_refl _) _)) (HRB.out _ (hch2.alloc _))
          clear h4 h5 hch2
          go_wp2_with (go_at_call 7; refine CC.out.mono ?_; rintro e w7 ⟨rfl, q7, hw7⟩; have HW7 : Hid (Chain W6 w7) := (by rw [hw7]; exact below_drawn (HCH2.out.alloc _) q7); clear hw7)
          go_roundw
          case rel => exact ⟨j + 1, by omega, by go_num, HW7.out⟩
          case measure => simp [intOf]; omega
        · have e : j = N2 := by omega
          subst e
          have hwr : IntKind.i64.wrap ((k : Int) + (j : Int)) = (k : Int) + (j : Int) := IntWalk.i64_in _ (by omega)
          have hse : (k : Int) + (j : Int) = (M : Int) := by omega
          go_wp2_with fail
          go_ret
          exact ⟨ret_bool (by simp), HWW.out _ HCH2.out⟩
set_option maxHeartbeats 12800000 in
theorem lawExceptYes (v u : Value) (n n' : Nat) (X Y : Nat → Rw) (w : World) (hv : RawsIs w v n X) (hf : RawsFine n X) (hu : RawsIs w u n' Y) (hf' : RawsFine n' Y) (hT : Tabs w) :
    Calls Tryd.prog 3 #[v, u, .bool true] w fun e w' => e = .returned (.bool true) ∧ Below w.heap.size w w' := by
  have hm := rawN_le n
  have hm' := rawN_le n'
  have CA : Hid (∀ W, Chain w W → Calls Tryd.prog 4 #[v, .string ⟨#[97]⟩, .string ⟨#[98]⟩] W fun e w' => ∃ ca cc ra rc, e = .returned (.agg #[.slice ca 2 cc, .slice ra (rawN n) rc]) ∧ CopyIs w' (.slice ca 2 cc) (.slice ra (rawN n) rc) 2 (rawN n) (twoC nA nB) (rawR X) ∧ Chain W w') := fun W hW => relation_ex v n X nA nB W (hv.below hW) hf
  have CB : Hid (∀ W, Chain w W → Calls Tryd.prog 4 #[u, .string ⟨#[97]⟩, .string ⟨#[98]⟩] W fun e w' => ∃ ca cc ra rc, e = .returned (.agg #[.slice ca 2 cc, .slice ra (rawN n') rc]) ∧ CopyIs w' (.slice ca 2 cc) (.slice ra (rawN n') rc) 2 (rawN n') (twoC nA nB) (rawR Y) ∧ Chain W w') := fun W hW => relation_ex u n' Y nA nB W (hu.below hW) hf'
  obtain ⟨M, hM⟩ : ∃ M, M = rawN n := ⟨_, rfl⟩
  obtain ⟨M', hM'⟩ : ∃ M', M' = rawN n' := ⟨_, rfl⟩
  rw [← hM] at CA hm
  rw [← hM'] at CB hm'
  obtain ⟨N1, hN1⟩ : ∃ N, N = keptN (exK true (rawR X) (rawR Y) M') M := ⟨_, rfl⟩
  obtain ⟨U, hU⟩ : ∃ U, U = keptR (exK true (rawR X) (rawR Y) M') M (rawR X) := ⟨_, rfl⟩
  obtain ⟨N2, hN2⟩ : ∃ N, N = keptN (exK true (rawR X) U N1) M := ⟨_, rfl⟩
  obtain ⟨V, hV⟩ : ∃ V, V = keptR (exK true (rawR X) U N1) M (rawR X) := ⟨_, rfl⟩
  have hn1 : N1 ≤ 12 := by rw [hN1]; exact Nat.le_trans (keptN_le _ _) hm
  have hn2 : N2 ≤ 12 := by rw [hN2]; exact Nat.le_trans (keptN_le _ _) hm
  have hsum : N1 + N2 = M := by rw [hN2, hU, hN1]; exact split_ex true (rawR X) (rawR Y) M M'
  have HLU : Hid (∀ t, (U t).len = 2) := fun t => by rw [hU]; rfl
  have HLV : Hid (∀ t, (V t).len = 2) := fun t => by rw [hV]; rfl
  have HAU : Hid (∀ t, t < N1 → (List.range M').any (fun j => rowB true (U t) (rawR Y j)) = false) := fun t ht => by
    rw [hN1] at ht
    rw [hU]
    exact rest_any true (rawR X) (rawR Y) M M' t ht
  have HAV : Hid (∀ t, t < N2 → (List.range M').any (fun j => rowB true (V t) (rawR Y j)) = true) := fun t ht => by
    rw [hN2, hU, hN1] at ht
    rw [hV, hU, hN1]
    exact gone_any true (rawR X) (rawR Y) M M' t ht
  have CE1 : Hid (∀ W c q c' q' l, Chain w W → CopyIs W c q 2 M (twoC nA nB) (rawR X) → CopyIs W c' q' 2 M' (twoC nA nB) (rawR Y) → StrsIs W l (exk true) (exO true) → Calls Tryd.prog 5 #[.agg #[c, q], .agg #[c', q'], l] W fun e w' => ∃ a3 k3 b3 l3, e = .returned (.tuple #[.agg #[.slice a3 2 k3, .slice b3 N1 l3], .int .i64 0]) ∧ CopyIs w' (.slice a3 2 k3) (.slice b3 N1 l3) 2 N1 (twoC nA nB) U ∧ Chain W w') := fun W c q c' q' l hW h1 h2 hl => by
    have h := exc_gen true X M M' (rawR Y) hm hm' (rel_ab Y M' hm') (raw_fine Y M' hm') c q c' q' l W (Utf8Tabs_below hT hW) h1 h2 hl
    rw [← hN1, ← hU] at h
    exact h
  have CE2 : Hid (∀ W c q c' q' l, Chain w W → CopyIs W c q 2 M (twoC nA nB) (rawR X) → CopyIs W c' q' 2 N1 (twoC nA nB) U → StrsIs W l (exk true) (exO true) → Calls Tryd.prog 5 #[.agg #[c, q], .agg #[c', q'], l] W fun e w' => ∃ a3 k3 b3 l3, e = .returned (.tuple #[.agg #[.slice a3 2 k3, .slice b3 N2 l3], .int .i64 0]) ∧ CopyIs w' (.slice a3 2 k3) (.slice b3 N2 l3) 2 N2 (twoC nA nB) V ∧ Chain W w') := fun W c q c' q' l hW h1 h2 hl => by
    have h := exc_gen true X M N1 U hm hn1 (by rw [hU]; exact kept_rel X _ M N1 hn1) (by rw [hU]; exact kept_fine X _ M N1 hn1) c q c' q' l W (Utf8Tabs_below hT hW) h1 h2 hl
    rw [← hN2, ← hV] at h
    exact h
  have CE3 : Hid (∀ W c q c' q' l, Chain w W → CopyIs W c q 2 M (twoC nA nB) (rawR X) → CopyIs W c' q' 2 M (twoC nA nB) (rawR X) → StrsIs W l (exk true) (exO true) → Calls Tryd.prog 5 #[.agg #[c, q], .agg #[c', q'], l] W fun e w' => ∃ a3 k3 b3 l3, e = .returned (.tuple #[.agg #[.slice a3 2 k3, .slice b3 0 l3], .int .i64 0]) ∧ Chain W w') := fun W c q c' q' l hW h1 h2 hl => by
    have h := exc_gen true X M M (rawR X) hm hm (rel_ab X M hm) (raw_fine X M hm) c q c' q' l W (Utf8Tabs_below hT hW) h1 h2 hl
    rw [none_ex] at h
    refine h.mono ?_
    rintro e w' ⟨a3, k3, b3, l3, h3, _, h5⟩
    exact ⟨a3, k3, b3, l3, h3, h5⟩
  have CF2 : Hid (∀ W g gs gr bq uv t, t < N1 → W.cell? ⟨g, 0, none⟩ = some (.bool true) → W.cell? ⟨gs, 0, none⟩ = some (.func (.func 6) #[] #[.pointer (some ⟨g, 0, none⟩)]) → W.cell? ⟨gr, 0, none⟩ = some uv → ItsIs W uv 2 (U t).at_ → RowsIs W bq M' (rawR Y) → Calls Tryd.prog 7 #[bq, .func (.func 8) #[] #[.pointer (some ⟨gs, 0, none⟩), .pointer (some ⟨gr, 0, none⟩)]] W fun e w' => e = .returned (.bool false) ∧ ∃ q, w' = W.drewN q) := fun W g gs gr bq uv t ht h1 h2 h3 h4 h5 => by
    have h := containsFunc_gen 8 #[.pointer (some ⟨gs, 0, none⟩), .pointer (some ⟨gr, 0, none⟩)] (fun j => rowB true (U t) (rawR Y j)) bq M' (rawR Y) W h5 (fun _ _ => rfl) (fun k q y hk hy => has2_is uv y (U t).at_ (rawR Y k).at_ g gs gr true (W.drewN q) (its_drawn h4 q) hy ((drawn_keep2 rfl).trans h1) ((drawn_keep2 rfl).trans h2) ((drawn_keep2 rfl).trans h3))
    rw [HAU.out t ht] at h
    exact h
  have CF3 : Hid (∀ W g gs gr bq uv t, t < N2 → W.cell? ⟨g, 0, none⟩ = some (.bool true) → W.cell? ⟨gs, 0, none⟩ = some (.func (.func 6) #[] #[.pointer (some ⟨g, 0, none⟩)]) → W.cell? ⟨gr, 0, none⟩ = some uv → ItsIs W uv 2 (V t).at_ → RowsIs W bq M' (rawR Y) → Calls Tryd.prog 7 #[bq, .func (.func 9) #[] #[.pointer (some ⟨gs, 0, none⟩), .pointer (some ⟨gr, 0, none⟩)]] W fun e w' => e = .returned (.bool true) ∧ ∃ q, w' = W.drewN q) := fun W g gs gr bq uv t ht h1 h2 h3 h4 h5 => by
    have h := containsFunc_gen 9 #[.pointer (some ⟨gs, 0, none⟩), .pointer (some ⟨gr, 0, none⟩)] (fun j => rowB true (V t) (rawR Y j)) bq M' (rawR Y) W h5 (fun _ _ => rfl) (fun k q y hk hy => has3_is uv y (V t).at_ (rawR Y k).at_ g gs gr true (W.drewN q) (its_drawn h4 q) hy ((drawn_keep2 rfl).trans h1) ((drawn_keep2 rfl).trans h2) ((drawn_keep2 rfl).trans h3))
    rw [HAV.out t ht] at h
    exact h
  obtain ⟨i0, hi0, hz0', hz1, hz2'⟩ := info_parts infoStr
  obtain ⟨va, vc, rfl, _⟩ := hv
  obtain ⟨ua, uc, rfl, _⟩ := hu
  clear hf hT hM hM' hN1 hU hN2 hV hf' HAU HAV
  have hmf : ∀ (fn : Fn) (first cap : Array Value) (w : World), (Instr.makeFunc fn first cap).run Tryd.prog w = .ok (.func fn first cap) w := fun _ _ _ _ => rfl
  go_enter Tryd.func3, Tryd.ntmps3
  go_wp2_with (first
    | (go_at_call_has 4 (Value.slice va n vc); refine (CA.out _ ((Chain.refl _).alloc _)).mono ?_; rintro e w1 ⟨ca, cc, ra, rc, rfl, hc1, hb1⟩; have HC1 : Hid (CopyIs w1 (.slice ca 2 cc) (.slice ra M rc) 2 M (twoC nA nB) (rawR X)) := hc1; have g0 := (Below.cell hb1 (p := ⟨w.heap.size, 0, none⟩) (by simp)).trans (show (w.alloc (.cells #[.bool true] 4)).cell? ⟨w.heap.size, 0, none⟩ = some (.bool true) by simp); have g1 : w.heap.size < w1.heap.size := (by have := Below.size hb1; simp at this; omega); have HB1 : Hid (Chain w w1) := ((Chain.refl _).alloc _).trans hb1; clear hc1 hb1 CA)
    | (go_at_call_has 4 (Value.slice ua n' uc); refine (CB.out _ (HB1.out.alloc _)).mono ?_; rintro e w2 ⟨cb, cd, rb, rd, rfl, hc2, hb2⟩; have HC2 : Hid (CopyIs w2 (.slice cb 2 cd) (.slice rb M' rd) 2 M' (twoC nA nB) (rawR Y)) := hc2; obtain ⟨x0, x1, x2, _, _⟩ := kept_new hb2; have HB12 : Hid (Chain w1 w2) := ((Chain.refl _).alloc _).trans hb2; have hg := carry1 HB12.out g0 g1; clear g0 g1; obtain ⟨g0, g1⟩ := hg; clear hc2 hb2 CB)
    | (at_builtin; refine wpList_append_own _ rfl (.tmp 27) (.tmp 28) 23 rfl (w2.heap.size + 1) 9 i0 _ 1 16 Tryd.underlying23 hi0 hz0' hz1 hz2' rfl (by decide) _ _ _ rfl (lit_own _ _ _) ⟨w2.heap.size + 1 + 1, 0, none⟩ 1 1 [.string ⟨#[98]⟩] rfl rfl (elemV_inb _ _ _ (by simp)) (str_one _) (by unfold maxLen; omega) (by omega) (by simp <;> omega) ?_; intro v6 w6 hown6 hgrow6 _; obtain ⟨va6, vc6, rfl⟩ := own_shape hown6; have HCO : Hid (StrsIs w6 (.slice va6 2 vc6) 2 (twoC nA nB)) := two_own hown6; have hb6 : Chain (w2.alloc (.cells #[.slice cb 2 cd, .slice rb M' rd] 26)) w6 := Below.mono (((((Below.refl (w2.heap.size + 1) (w2.alloc (.cells #[.slice cb 2 cd, .slice rb M' rd] 26))).alloc (by simp) (.cells #[.string ⟨#[97]⟩] 9)).alloc (by simp <;> omega) (.cells #[.string ⟨#[98]⟩] 9)).grown hgrow6 (by simp <;> omega) (fun z hz => ((lit_own (w := w2) (.cells #[.slice cb 2 cd, .slice rb M' rd] 26) ⟨#[97]⟩ ⟨#[98]⟩).lt z hz).1))) (by simp); obtain ⟨y0, y1, y2, _, _⟩ := kept_new hb6; have HB26 : Hid (Chain w2 w6) := ((Chain.refl _).alloc _).trans hb6; have hx := carry2 HB26.out x0 x1 x2; clear x0 x1 x2; obtain ⟨x0, x1, x2⟩ := hx; have hg := carry1 HB26.out g0 g1; clear g0 g1; obtain ⟨g0, g1⟩ := hg; clear hown6 hgrow6 hb6)
    | (go_at_call_has 5 (Value.slice rb M' rd); refine (CE1.out _ _ _ _ _ _ ?_ ?_ ?_ ?_).mono ?_; (focus (repeat (first | exact (HB1.out.trans HB12.out).trans HB26.out | refine Chain.alloc ?_ _))); (focus (repeat (first | exact HC1.out.chain (HB12.out.trans HB26.out) | refine CopyIs.alloc ?_ _))); (focus (repeat (first | exact HC2.out.chain HB26.out | refine CopyIs.alloc ?_ _))); (focus (exact strs_chain HCO.out (by repeat (first | exact Chain.refl _ | refine Chain.alloc ?_ _)))); rintro e w3 ⟨a3, k3, b3, l3, rfl, hc3, hb3⟩; have hb3' : Chain w6 w3 := Chain.trans (by (repeat (first | exact Chain.refl _ | refine Chain.alloc ?_ _))) hb3; have hco := strs_chain HCO.out hb3'; clear HCO; have HCO : Hid (StrsIs w3 (.slice va6 2 vc6) (exk true) (exO true)) := hco; have HC3 : Hid (CopyIs w3 (.slice a3 2 k3) (.slice b3 N1 l3) 2 N1 (twoC nA nB) U) := hc3; have HB63 : Hid (Chain w6 w3) := hb3'; have HB23 : Hid (Chain w2 w3) := HB26.out.trans hb3'; have hx := carry2 HB63.out x0 x1 x2; clear x0 x1 x2; obtain ⟨x0, x1, x2⟩ := hx; have hy := carry2 HB63.out y0 y1 y2; clear y0 y1 y2; obtain ⟨y0, y1, y2⟩ := hy; have hg := carry1 HB63.out g0 g1; clear g0 g1; obtain ⟨g0, g1⟩ := hg; clear hc3 hb3 hb3' CE1 hco)
    | (go_at_call_has 5 (Value.slice b3 N1 l3); refine (CE2.out _ _ _ _ _ _ (((HB1.out.trans HB12.out).trans HB23.out).alloc _) (HC1.out.chain ((HB12.out.trans HB23.out).alloc _)) (HC3.out.alloc _) (strs_chain HCO.out ((Chain.refl _).alloc _))).mono ?_; rintro e w4 ⟨a4, k4, b4, l4, rfl, hc4, hb4⟩; have HC4 : Hid (CopyIs w4 (.slice a4 2 k4) (.slice b4 N2 l4) 2 N2 (twoC nA nB) V) := hc4; have HB34 : Hid (Chain w3 w4) := ((Chain.refl _).alloc _).trans hb4; obtain ⟨z0, z1, z2, _, _⟩ := kept_new hb4; have hx := carry2 HB34.out x0 x1 x2; clear x0 x1 x2; obtain ⟨x0, x1, x2⟩ := hx; have hy := carry2 HB34.out y0 y1 y2; clear y0 y1 y2; obtain ⟨y0, y1, y2⟩ := hy; have hg := carry1 HB34.out g0 g1; clear g0 g1; obtain ⟨g0, g1⟩ := hg; clear hc4 hb4 CE2)
    | (go_at_call 5; refine (CE3.out _ _ _ _ _ _ ((((HB1.out.trans HB12.out).trans HB23.out).trans HB34.out).alloc _) (HC1.out.chain (((HB12.out.trans HB23.out).trans HB34.out).alloc _)) (HC1.out.chain (((HB12.out.trans HB23.out).trans HB34.out).alloc _)) (strs_chain HCO.out (HB34.out.alloc _))).mono ?_; rintro e w5 ⟨a5, k5, b5, l5, rfl, hb5⟩; have HB45 : Hid (Chain w4 w5) := ((Chain.refl _).alloc _).trans hb5; obtain ⟨t0, t1, t2, _, _⟩ := kept_new hb5; have hx := carry2 HB45.out x0 x1 x2; clear x0 x1 x2; obtain ⟨x0, x1, x2⟩ := hx; have hy := carry2 HB45.out y0 y1 y2; clear y0 y1 y2; obtain ⟨y0, y1, y2⟩ := hy; have hz := carry2 HB45.out z0 z1 z2; clear z0 z1 z2; obtain ⟨z0, z1, z2⟩ := hz; have hg := carry1 HB45.out g0 g1; clear g0 g1; obtain ⟨g0, g1⟩ := hg; clear hb5 CE3))
  have HBW : Hid (Chain w w5) := (((HB1.out.trans HB12.out).trans HB23.out).trans HB34.out).trans HB45.out
  obtain ⟨W6, hW6⟩ : ∃ W, W = ((w5.alloc (.cells #[.slice a5 2 k5, .slice b5 0 l5] 26)).alloc (.cells #[.func (.func 6) #[] #[.pointer (some ⟨w.heap.size, 0, none⟩)]] 34)) := ⟨_, rfl⟩
  have h56 : Chain w5 W6 := by rw [hW6]; exact ((Chain.refl _).alloc _).alloc _
  have s0 : W6.cell? ⟨w5.heap.size + 1, 0, none⟩ = some (.func (.func 6) #[] #[.pointer (some ⟨w.heap.size, 0, none⟩)]) := by rw [hW6]; simp
  have s1 : w5.heap.size + 1 < W6.heap.size := by rw [hW6]; simp
  have HS : Hid (∀ W, Chain W6 W → (W.cell? ⟨w.heap.size, 0, none⟩ = some (.bool true) ∧ w.heap.size < W.heap.size) ∧ (W.cell? ⟨w5.heap.size + 1, 0, none⟩ = some (.func (.func 6) #[] #[.pointer (some ⟨w.heap.size, 0, none⟩)]) ∧ w5.heap.size + 1 < W.heap.size) ∧ (W.cell? ⟨w1.heap.size, 0, none⟩ = some (.slice ca 2 cc) ∧ W.cell? ⟨w1.heap.size, 1, none⟩ = some (.slice ra M rc) ∧ w1.heap.size < W.heap.size) ∧ (W.cell? ⟨w2.heap.size, 0, none⟩ = some (.slice cb 2 cd) ∧ W.cell? ⟨w2.heap.size, 1, none⟩ = some (.slice rb M' rd) ∧ w2.heap.size < W.heap.size) ∧ (W.cell? ⟨w3.heap.size, 0, none⟩ = some (.slice a3 2 k3) ∧ W.cell? ⟨w3.heap.size, 1, none⟩ = some (.slice b3 N1 l3) ∧ w3.heap.size < W.heap.size) ∧ (W.cell? ⟨w4.heap.size, 0, none⟩ = some (.slice a4 2 k4) ∧ W.cell? ⟨w4.heap.size, 1, none⟩ = some (.slice b4 N2 l4) ∧ w4.heap.size < W.heap.size)) := fun W h => ⟨carry1 (h56.trans h) g0 g1, carry1 h s0 s1, carry2 (h56.trans h) x0 x1 x2, carry2 (h56.trans h) y0 y1 y2, carry2 (h56.trans h) z0 z1 z2, carry2 (h56.trans h) t0 t1 t2⟩
  have HWW : Hid (∀ W, Chain W6 W → Chain w W) := fun W h => (HBW.out.trans h56).trans h
  have HRB : Hid (∀ W, Chain W6 W → RowsIs W (.slice rb M' rd) M' (rawR Y)) := fun W h => HC2.out.2.below ((((HB23.out.trans HB34.out).trans HB45.out).trans h56).trans h)
  have HRU : Hid (∀ W, Chain W6 W → RowsIs W (.slice b3 N1 l3) N1 U) := fun W h => HC3.out.2.below (((HB34.out.trans HB45.out).trans h56).trans h)
  have HRV : Hid (∀ W, Chain W6 W → RowsIs W (.slice b4 N2 l4) N2 V) := fun W h => HC4.out.2.below ((HB45.out.trans h56).trans h)
  rw [← hW6]
  clear hW6 h56 s0 s1 HBW HB1 HB12 HB23 HB34 HB45 HC1 HC2 HC3 HC4 HCO x0 x1 x2 y0 y1 y2 z0 z1 z2 t0 t1 t2 g0 g1
  obtain ⟨⟨g0, g1⟩, ⟨s0, s1⟩, ⟨x0, x1, x2⟩, ⟨y0, y1, y2⟩, ⟨z0, z1, z2⟩, ⟨t0, t1, t2⟩⟩ := HS.out W6 (Chain.refl _)
  go_wp2_with fail
  go_loopw [71] (fun i wr => ∃ k : Nat, k ≤ N1 ∧ i = .int .i64 k ∧ Chain W6 wr) (fun i _ => N1 - (intOf i).toNat)
  case atStart => exact ⟨0, Nat.zero_le _, rfl, Chain.refl _⟩
  case round =>
    clear g0 g1 s0 s1 x0 x1 x2 y0 y1 y2 z0 z1 z2 t0 t1 t2
    obtain ⟨k, hk, rfl, hch⟩ := hrel
    have HCH : Hid (Chain W6 wr) := hch
    obtain ⟨⟨g0, g1⟩, ⟨s0, s1⟩, ⟨x0, x1, x2⟩, ⟨y0, y1, y2⟩, ⟨z0, z1, z2⟩, ⟨t0, t1, t2⟩⟩ := HS.out wr hch
    by_cases hkl : k < N1
    · obtain ⟨_, _, e', _, _, _, h4⟩ := HRU.out wr hch
      cases e'
      obtain ⟨b, off, rfl, hb0, h5⟩ := h4 (by omega)
      obtain ⟨uu, e1, hu⟩ := h5 k hkl
      rw [HLU.out k] at hu
      have HU : Hid (ItsIs wr uu 2 (U k).at_) := hu
      obtain ⟨ua1, uc1, rfl, _⟩ := hu
      have hki : (k : Int) < (N1 : Int) := by omega
      have CC : Hid (Calls Tryd.prog 7 #[.slice rb M' rd, .func (.func 8) #[] #[.pointer (some ⟨w5.heap.size + 1, 0, none⟩), .pointer (some ⟨wr.heap.size, 0, none⟩)]] (wr.alloc (.cells #[.slice ua1 2 uc1] 31)) fun e w' => e = .returned (.bool false) ∧ ∃ q, w' = (wr.alloc (.cells #[.slice ua1 2 uc1] 31)).drewN q) := by
        have h1 := HS.out _ (hch.alloc (.cells #[.slice ua1 2 uc1] 31))
        exact CF2.out _ w.heap.size (w5.heap.size + 1) wr.heap.size (.slice rb M' rd) (.slice ua1 2 uc1) k hkl h1.1.1 h1.2.1.1 (by simp) (HU.out.below ((Below.refl _ _).alloc (Nat.le_refl _) _)) (HRB.out _ (hch.alloc _))
      clear h4 h5 hch
      go_wp2_with (go_at_call 7; refine CC.out.mono ?_; rintro e w7 ⟨rfl, q7, hw7⟩; have HW7 : Hid (Chain W6 w7) := (by rw [hw7]; exact below_drawn (HCH.out.alloc _) q7); clear hw7)
      go_roundw
      case rel => exact ⟨k + 1, by omega, by go_num, HW7.out⟩
      case measure => simp [intOf]; omega
    · have e : k = N1 := by omega
      subst e
      go_wp2_with fail
      go_loopw [83] (fun i wr' => ∃ j : Nat, j ≤ N2 ∧ i = .int .i64 j ∧ Chain W6 wr') (fun i _ => N2 - (intOf i).toNat)
      case atStart => exact ⟨0, Nat.zero_le _, rfl, HCH.out⟩
      case round =>
        clear g0 g1 s0 s1 x0 x1 x2 y0 y1 y2 z0 z1 z2 t0 t1 t2
        obtain ⟨j, hj, rfl, hch2⟩ := hrel
        have HCH2 : Hid (Chain W6 wr) := hch2
        obtain ⟨⟨g0, g1⟩, ⟨s0, s1⟩, ⟨x0, x1, x2⟩, ⟨y0, y1, y2⟩, ⟨z0, z1, z2⟩, ⟨t0, t1, t2⟩⟩ := HS.out wr hch2
        by_cases hjl : j < N2
        · obtain ⟨_, _, e', _, _, _, h4⟩ := HRV.out wr hch2
          cases e'
          obtain ⟨b, off, rfl, hb0, h5⟩ := h4 (by omega)
          obtain ⟨uu, e1, hu⟩ := h5 j hjl
          rw [HLV.out j] at hu
          have HU : Hid (ItsIs wr uu 2 (V j).at_) := hu
          obtain ⟨ua1, uc1, rfl, _⟩ := hu
          have hji : (j : Int) < (N2 : Int) := by omega
          have CC : Hid (Calls Tryd.prog 7 #[.slice rb M' rd, .func (.func 9) #[] #[.pointer (some ⟨w5.heap.size + 1, 0, none⟩), .pointer (some ⟨wr.heap.size, 0, none⟩)]] (wr.alloc (.cells #[.slice ua1 2 uc1] 31)) fun e w' => e = .returned (.bool true) ∧ ∃ q, w' = (wr.alloc (.cells #[.slice ua1 2 uc1] 31)).drewN q) := by
            have h1 := HS.out _ (hch2.alloc (.cells #[.slice ua1 2 uc1] 31))
            exact CF3.out _ w.heap.size (w5.heap.size + 1) wr.heap.size (.slice rb M' rd) (.slice ua1 2 uc1) j hjl h1.1.1 h1.2.1.1 (by simp) (HU.out.below ((Below.refl _ _).alloc (Nat.le_refl _) _)) (HRB.out _ (hch2.alloc _))
          clear h4 h5 hch2
          go_wp2_with (go_at_call 7; refine CC.out.mono ?_; rintro e w7 ⟨rfl, q7, hw7⟩; have HW7 : Hid (Chain W6 w7) := (by rw [hw7]; exact below_drawn (HCH2.out.alloc _) q7); clear hw7)
          go_roundw
          case rel => exact ⟨j + 1, by omega, by go_num, HW7.out⟩
          case measure => simp [intOf]; omega
        · have e : j = N2 := by omega
          subst e
          have hwr : IntKind.i64.wrap ((k : Int) + (j : Int)) = (k : Int) + (j : Int) := IntWalk.i64_in _ (by omega)
          have hse : (k : Int) + (j : Int) = (M : Int) := by omega
          go_wp2_with fail
          go_ret
          exact ⟨ret_bool (by simp), HWW.out _ HCH2.out⟩
end Go.Proofs.YtieoefalngioiaaDoor
