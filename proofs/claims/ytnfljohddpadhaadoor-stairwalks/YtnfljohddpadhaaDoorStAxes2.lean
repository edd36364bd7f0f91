/-
  CONTRACTS of package axes: ways up from a context node; what is within; what each context node adds.
-/
import Derived.Test.YtnfljohddpadhaaDoorStAxes
import Derived.Deep.QuietTactic
import Derived.BigQuiet
import Derived.WalkLawsBesides
import Derived.Outline
import Derived.Deep.RegionHeld3
import Derived.Deep.RegionLaw
import Derived.Deep.RegionWith
set_option linter.unusedVariables false
namespace Go.Proofs.YtnfljohddpadhaaDoor
set_option maxRecDepth 100000
open Go.RowKit Go.WideShapes

set_option maxHeartbeats 3200000 in
theorem ancestor_is (la : Option Addr) (lb lo N lcap : Nat) (E : Nat → Nd) (ca : Option Addr) (K ccap M : Nat) (xb c : Nat) (S : Nat → Prop) (w : World) (t : Tr E N) (hw : Wk w la lb lo N lcap E) (hM : lb ≠ M) (hx : BoxAt w xb la N lcap ca K ccap M) (hxM : xb ≠ M) (hc : c < N) (hS : Seen w M S) (hcl : ∀ i a, S i → An E a i → S a) :
    Calls Tryd.prog 34 #[.int .i64 (c : Int), .pointer (some ⟨xb, 0, none⟩)] w fun e w' => e = .returned (.tuple #[]) ∧ Seen w' M (fun i => S i ∨ (An E i c ∧ i ≠ c)) ∧ Kept (fun b => b = M) w w' := by
  obtain ⟨y, hy, hy2, CC⟩ : ∃ y : Int, (E c).parent = y ∧ fit64 y ∧ Hid (∀ W, Below w.heap.size w W → Calls Tryd.prog 35 #[.agg #[.slice la N lcap, .slice ca K ccap, .map (some M)], .int .i64 y] W fun e w' => e = .returned (.tuple #[]) ∧ Seen w' M (fun i => S i ∨ (An E i c ∧ i ≠ c)) ∧ Kept (fun b => b = M) W w') := by
    have hn := hw.n
    rcases t.up c hc with h | ⟨p, h1, h2, h3⟩
    · refine ⟨-1, h, ⟨by decide, by decide⟩, fun W hW => ?_⟩
      refine (climb_none la lb lo N lcap E ca K ccap M S W (Seen.keep hS (hW.block M hS.lt))).mono ?_
      rintro e w' ⟨rfl, g1, g2⟩
      refine ⟨rfl, Seen.congr g1 (fun i => ⟨.inl, fun k => k.elim id (fun k => ?_)⟩), g2⟩
      obtain ⟨p, k1, _⟩ := An.parent t hc k.1 k.2
      omega
    · refine ⟨p, h1, ⟨by omega, by omega⟩, fun W hW => ?_⟩
      refine (climb_some la lb lo N lcap E ca K ccap M p S W t (hw.below hW) (by omega) (Seen.keep hS (hW.block M hS.lt)) hM hcl).mono ?_
      rintro e w' ⟨rfl, g1, g2⟩
      refine ⟨rfl, Seen.congr g1 (fun i => ⟨fun k => k.elim .inl (fun k => .inr ⟨An.trans t (by have := k.1; omega) k ⟨by omega, h3⟩, ?_⟩), fun k => k.elim .inl (fun k => .inr ?_)⟩), g2⟩
      · have := k.1; omega
      · obtain ⟨p', k1, _, k2, _⟩ := An.parent t hc k.1 k.2
        obtain rfl : p' = p := by omega
        exact k2
  obtain rfl := hw.la (by omega)
  have HX : Hid (∀ W, Kept (fun b => b = M) w W → ((W.cell? ⟨xb, 0, none⟩ = some (.slice (some ⟨lb, lo, none⟩) N lcap) ∧ W.cell? ⟨xb, 1, none⟩ = some (.slice ca K ccap) ∧ W.cell? ⟨xb, 2, none⟩ = some (.map (some M))) ∧ W.cell? ⟨lb, lo + c * 6 + 5, none⟩ = some (.int .i64 y))) := fun W hW => ⟨(hx.keep hW hxM).cells, by rw [← hy]; exact ((hw.keep hW hM).at_ c hc).2.2.2.2.2⟩
  obtain ⟨⟨x0, x1, x2⟩, x5⟩ := HX.out w (Kept.refl _ _)
  obtain ⟨q1, q2, q3, q4, q5, q6⟩ := hw
  have hci : (c : Int) < (N : Int) := by omega
  unfold maxLen at q4
  clear t hx hS hcl q6 q1 q5 hy
  go_enter Tryd.func34, Tryd.ntmps34
  go_region_held3 (fun W => (W.cell? ⟨xb, 0, none⟩ = some (.slice (some ⟨lb, lo, none⟩) N lcap) ∧ W.cell? ⟨xb, 1, none⟩ = some (.slice ca K ccap) ∧ W.cell? ⟨xb, 2, none⟩ = some (.map (some M))) ∧ W.cell? ⟨lb, lo + c * 6 + 5, none⟩ = some (.int .i64 y))
    ((refine HX.out _ ?_; repeat (first | exact Hid.out (by assumption) | exact Kept.refl _ _ | refine Kept.drew ?_)))
    (first
      | (go_at_call 35; refine (CC.out _ ?_).mono ?_; (focus (repeat (first | exact Hid.out (by assumption) | exact Below.refl _ _ | refine Below.drew ?_))); rintro e w2 ⟨rfl, hs2, hk2⟩; have HS2 := hidS hs2; have HK2 : Hid (Kept (fun b => b = M) w w2) := (⟨hk2.os, hk2.tape, hk2.output, hk2.size, hk2.block⟩ : Kept (fun b => b = M) w w2); clear hs2 hk2))
  all_goals
    go_wp2_with fail
    first | go_end0 | refine bodyPost_ret (results_none rfl _ _ _) rfl ?_
    exact ⟨rfl, HS2.out, HK2.out⟩
theorem heap_set_same {w : World} {b : Nat} {cs : Array Value} {T : TypeId} (h : w.heap[b]? = some (.cells cs T)) (j : Nat) (v : Value) : (w.setCell ⟨b, j, none⟩ v).heap[b]? = some (.cells (cs.setIfInBounds j v) T) := by
  simp [World.setCell, Array.getElem?_modify, h]
theorem bk1 {w : World} {b : Nat} {x : Value} {T : TypeId} (h : w.heap[b]? = some (.cells #[x] T)) : w.cell? ⟨b, 0, none⟩ = some x ∧ (∀ o, w.frozen? ⟨b, o, none⟩ = false) ∧ b < w.heap.size :=
  ⟨by rw [Lib.cell_of_heap h]; rfl, fun o => Lib.frozen_of_heap h _, (Array.getElem?_eq_some_iff.1 h).1⟩
set_option maxHeartbeats 800000 in
theorem within_is (la : Option Addr) (lb lo N lcap : Nat) (E : Nat → Nd) (ca : Option Addr) (K ccap M : Nat) (w : World) :
    Calls Tryd.prog 31 #[.agg #[.slice la N lcap, .slice ca K ccap, .map (some M)]] w fun e w' => e = .returned (.func (.func 52) #[] #[.pointer (some ⟨w.heap.size + 1, 0, none⟩), .pointer (some ⟨w.heap.size, 0, none⟩)]) ∧ w'.heap[w.heap.size + 1]? = some (.cells #[.int .i64 0] 3) ∧ BoxAt w' w.heap.size la N lcap ca K ccap M ∧ Below w.heap.size w w' := by
  go_enter Tryd.func31, Tryd.ntmps31
  go_wp2
  go_ret
  exact ⟨rfl, by simpa using heap_alloc_new (w.alloc (.cells #[.slice la N lcap, .slice ca K ccap, .map (some M)] 39)) (.cells #[.int .i64 0] 3), (Below.heap_alloc _ _ _ (by simp)).trans (heap_alloc_new _ _), ((Below.refl _ _).alloc (Nat.le_refl _) _).alloc (by simp) _⟩
set_option maxHeartbeats 3200000 in
theorem within1_is (la : Option Addr) (lb lo N lcap : Nat) (E : Nat → Nd) (ca : Option Addr) (K ccap M : Nat) (xb nb c nx : Nat) (S : Nat → Prop) (w : World) (t : Tr E N) (hw : Wk w la lb lo N lcap E) (hM : lb ≠ M) (hx : BoxAt w xb la N lcap ca K ccap M) (hxM : xb ≠ M) (hnb : w.heap[nb]? = some (.cells #[.int .i64 (nx : Int)] 3)) (hnM : nb ≠ M) (hnx : nb ≠ xb) (hnl : nb ≠ lb) (hnN : nx ≤ N) (hc : c < N) (hS : Seen w M S) :
    Calls Tryd.prog 52 #[.int .i64 (c : Int), .pointer (some ⟨nb, 0, none⟩), .pointer (some ⟨xb, 0, none⟩)] w fun e w' => e = .returned (.tuple #[]) ∧ Seen w' M (fun i => S i ∨ ((max nx (c + 1) ≤ i ∧ i ≤ c + zN E c) ∧ (E i).kind ≠ 2)) ∧ w'.heap[nb]? = some (.cells #[.int .i64 ((max nx (c + zN E c + 1) : Nat) : Int)] 3) ∧ Kept (fun b => b = M ∨ b = nb) w w' := by
  have hcz := (t.sz c hc).2
  have q2 := hw.n
  have HW := hidS hw
  have HX := hidS hx
  have HNB := hidS hnb
  have HS := hidS hS
  have CL : Hid (∀ W, Wk W la lb lo N lcap E → Calls Tryd.prog 29 #[.agg #[.slice la N lcap, .slice ca K ccap, .map (some M)], .int .i64 (c : Int)] W fun e w' => e = .returned (.int .i64 ((c + zN E c : Nat) : Int)) ∧ Below W.heap.size W w') := fun W hW => last_is la lb lo N lcap E ca K ccap M c W t hW hc
  have CO : Hid (∀ (W : World) (S' : Nat → Prop) (n : Nat), n < N → Wk W la lb lo N lcap E → Seen W M S' → Calls Tryd.prog 30 #[.agg #[.slice la N lcap, .slice ca K ccap, .map (some M)], .int .i64 (n : Int)] W fun e w' => e = .returned (.tuple #[]) ∧ Seen w' M (fun i => S' i ∨ (i = n ∧ (E i).kind ≠ 2)) ∧ Kept (fun b => b = M) W w') := fun W S' n hn hW hs => seeOther_is la lb lo N lcap E ca K ccap M n S' W t hW hn hs
  obtain ⟨n0, nf, nl⟩ := bk1 hnb
  obtain ⟨x0, x1, x2⟩ := hx.cells
  clear t hw hx hnb hS
  go_enter Tryd.func52, Tryd.ntmps52
  go_upto_region 1 with fail
  have HA : Hid ((max (nx : Int) ((c : Int) + 1)) = ((max nx (c + 1) : Nat) : Int)) := by
    have h : (max (nx : Int) ((c : Int) + 1)) = ((max nx (c + 1) : Nat) : Int) := by omega
    exact h
  rw [HA.out]
  generalize haa : max nx (c + 1) = a at *
  have ha1 : c < a := by omega
  have ha2 : a ≤ N := by omega
  clear HA
  go_loopw [4] (fun v wr => ∃ m : Nat, v = .int .i64 (m : Int) ∧ a ≤ m ∧ m ≤ N ∧ (a < m → m ≤ c + zN E c + 1) ∧ Seen wr M (fun i => S i ∨ ((a ≤ i ∧ i < m) ∧ (E i).kind ≠ 2)) ∧ Kept (fun b => b = M) w wr) (fun v _ => c + zN E c + 1 - (intOf v).toNat)
  case atStart => exact ⟨a, rfl, Nat.le_refl _, ha2, fun h => by omega, Seen.congr HS.out (fun i => ⟨.inl, fun h => h.elim id (fun k => by omega)⟩), Kept.refl _ _⟩
  case round =>
    obtain ⟨m, rfl, hm1, hmN1, hm2, hsn, hkp⟩ := hrel
    have HSN := hidS hsn
    have HKP := hidS hkp
    obtain ⟨y0, y1, y2⟩ := (HX.out.keep hkp hxM).cells
    have CL1 := hidS (CL.out wr (HW.out.keep hkp hM))
    clear hsn hkp x0 x1 x2 n0 nf nl
    generalize hz1 : ((c + zN E c : Nat) : Int) = z1 at CL1
    by_cases hmt : m ≤ c + zN E c
    · have hmi : (m : Int) ≤ z1 := by omega
      have hmN : m < N := by omega
      go_wp2_with (first
        | (go_at_call 29; refine CL1.out.mono ?_; rintro e w6 ⟨rfl, hb6⟩; have HS6 := hidS (Seen.keep HSN.out (hb6.block M HSN.out.lt)); have HK6 : Hid (Kept (fun b => b = M) w w6) := HKP.out.trans (Kept.of_below hb6); clear hb6 y0 y1 y2; obtain ⟨y0, y1, y2⟩ := (HX.out.keep HK6.out hxM).cells; clear CL1)
        | (go_at_call 30; refine (CO.out w6 _ m hmN (HW.out.keep HK6.out hM) HS6.out).mono ?_; rintro e w7 ⟨rfl, hs7, hk7⟩; have HS7 := hidS hs7; have HK7 : Hid (Kept (fun b => b = M) w w7) := HK6.out.trans hk7; clear hs7 hk7))
      go_roundw
      case rel => exact ⟨m + 1, by go_num, by omega, by omega, fun _ => by omega, Seen.congr HS7.out (fun i => ⟨fun h => by
          rcases h with (h | h) | h
          · exact .inl h
          · exact .inr ⟨⟨h.1.1, by omega⟩, h.2⟩
          · obtain ⟨rfl, h⟩ := h
            exact .inr ⟨⟨hm1, by omega⟩, h⟩, fun h => by
          rcases h with h | ⟨⟨h1, h2⟩, h3⟩
          · exact .inl (.inl h)
          · by_cases e : i < m
            · exact .inl (.inr ⟨⟨h1, e⟩, h3⟩)
            · exact .inr ⟨by omega, h3⟩⟩), HK7.out⟩
      case measure => simp [intOf] <;> omega
    · have hmi : ¬ (m : Int) ≤ z1 := by omega
      have HF : Hid (∀ i, (S i ∨ ((a ≤ i ∧ i < m) ∧ (E i).kind ≠ 2)) ↔ (S i ∨ ((a ≤ i ∧ i ≤ c + zN E c) ∧ (E i).kind ≠ 2))) := by
        intro i
        constructor
        · rintro (h | h)
          · exact .inl h
          · exact .inr ⟨⟨h.1.1, by have := h.1; omega⟩, h.2⟩
        · rintro (h | h)
          · exact .inl h
          · exact .inr ⟨⟨h.1.1, by have := h.1; omega⟩, h.2⟩
      go_upto_region 4 with (first
        | (go_at_call 29; refine CL1.out.mono ?_; rintro e w6 ⟨rfl, hb6⟩; have HS6 := hidS (Seen.keep HSN.out (hb6.block M HSN.out.lt)); have HK6 : Hid (Kept (fun b => b = M) w w6) := HKP.out.trans (Kept.of_below hb6); clear hb6 y0 y1 y2; obtain ⟨y0, y1, y2⟩ := (HX.out.keep HK6.out hxM).cells; clear CL1))
      have hN6 : w6.heap[nb]? = some (.cells #[.int .i64 (nx : Int)] 3) := (HK6.out.block nb (Array.getElem?_eq_some_iff.1 HNB.out).1 hnM).trans HNB.out
      obtain ⟨n0, nf, nl⟩ := bk1 hN6
      have HN6 := hidS hN6
      have hwr : IntKind.i64.wrap (z1 + 1) = ((c + zN E c + 1 : Nat) : Int) := by rw [IntWalk.i64_in _ (by omega)]; omega
      have hmx : (max (nx : Int) ((c + zN E c + 1 : Nat) : Int)) = ((max nx (c + zN E c + 1) : Nat) : Int) := by omega
      have CL2 : Hid (∀ W, Below w6.heap.size w6 W → Calls Tryd.prog 29 #[.agg #[.slice la N lcap, .slice ca K ccap, .map (some M)], .int .i64 (c : Int)] W fun e w' => e = .returned (.int .i64 z1) ∧ Below W.heap.size W w') := fun W hW => by rw [← hz1]; exact CL.out W ((HW.out.keep HK6.out hM).below hW)
      clear hN6 CL CO
      generalize hz3 : ((max nx (c + zN E c + 1) : Nat) : Int) = z3 at *
      generalize ((c + zN E c + 1 : Nat) : Int) = z2 at *
      go_region_with (go_at_call 29; refine (CL2.out _ ?_).mono ?_; (focus (repeat (first | exact Hid.out (by assumption) | exact Below.refl _ _ | refine Below.drew ?_))); rintro e w8 ⟨rfl, hb8⟩; have HB8 : Hid (Below w6.heap.size w6 w8) := (⟨hb8.os, hb8.tape, hb8.output, hb8.size, hb8.block⟩ : Below w6.heap.size w6 w8); have hN8 := (HB8.out.block nb nl).trans HN6.out; have HN8 := hidS hN8; obtain ⟨n8, nf8, nl8⟩ := bk1 hN8; clear hb8 hN8)
      all_goals
        first | go_end0 | refine bodyPost_ret (results_none rfl _ _ _) rfl ?_
        exact ⟨rfl, by rw [haa]; exact Seen.congr (Seen.keep (Seen.keep HS6.out (HB8.out.block M HS6.out.lt)) (Below.heap_setCell w8 ⟨nb, 0, none⟩ _ M (Ne.symm hnM))) HF.out, by rw [hz3]; exact heap_set_same HN8.out 0 _, ((HK6.out.mono (fun _ _ h => .inl h)).trans (Kept.of_below HB8.out)).setCell 0 _ (fun _ => .inr rfl)⟩
end Go.Proofs.YtnfljohddpadhaaDoor
