/-
  CONTRACTS of package axes: along what is within.
-/
import Derived.Test.YtnfljohddpadhaaDoorStMath
import Derived.Test.YtnfljohddpadhaaDoorStSets
import Derived.Deep.QuietTactic
import Derived.BigQuiet
import Derived.WalkLawsBesides
import Derived.Outline
import Derived.Deep.RegionHeld3
import Derived.Deep.RegionLaw
import Derived.Laws.EntriesVeiled
set_option linter.unusedVariables false
namespace Go.Proofs.YtnfljohddpadhaaDoor
set_option maxRecDepth 100000
open Go.RowKit Go.WideShapes

set_option maxHeartbeats 3200000 in
theorem along_2 (la : Option Addr) (lb lo N lcap : Nat) (E : Nat → Nd) (ca : Option Addr) (K ccap M : Nat) (cb co : Nat) (C : Nat → Nat) (w : World) (t : Tr E N) (hcap : K ≤ ccap) (hK : ccap ≤ maxLen) (hw : Wk w la lb lo N lcap E) (hM : lb ≠ M) (hC : CxAt w ca cb co K C) (hcM : cb ≠ M) (hCN : ∀ j, j < K → C j < N) (hasc : ∀ j k, j < k → k < K → C j ≤ C k) (hS : Seen w M (fun _ => False)) (hlb : lb < w.heap.size) (hcb : cb < w.heap.size) :
    Calls Tryd.prog 16 #[.agg #[.slice la N lcap, .slice ca K ccap, .map (some M)], .int .i64 2] w fun e w' => e = .returned (.tuple #[]) ∧ Seen w' M (onJ E N K C 2) ∧ Kept (fun b => b = M) w w' := by
  have hlt := hS.lt
  obtain ⟨W1, hW1⟩ : ∃ W, W = (w.alloc (.cells #[.slice la N lcap, .slice ca K ccap, .map (some M)] 39)) := ⟨_, rfl⟩
  have b1 : Below w.heap.size w W1 := by rw [hW1]; exact (Below.refl _ _).alloc (Nat.le_refl _) _
  have hx1 : BoxAt W1 w.heap.size la N lcap ca K ccap M := by rw [hW1]; exact heap_alloc_new _ _
  have hC1 := hC.keep (Kept.of_below (X := fun _ => False) b1) (fun h => h)
  have hS1 : Seen W1 M (fun _ => False) := Seen.keep hS (b1.block M hlt)
  have q2 := hw.n
  have HB1 := hidS b1
  have HT := hidS t
  have HCN := hidS hCN
  have hz1 : w.heap.size < W1.heap.size := hx1.lt
  have CI : Hid (∀ W, Calls Tryd.prog 31 #[.agg #[.slice la N lcap, .slice ca K ccap, .map (some M)]] W fun e w' => ∃ s, e = .returned (.func (.func 52) #[] #[.pointer (some ⟨s + 1, 0, none⟩), .pointer (some ⟨s, 0, none⟩)]) ∧ s = W.heap.size ∧ w'.heap[s + 1]? = some (.cells #[.int .i64 0] 3) ∧ BoxAt w' s la N lcap ca K ccap M ∧ Below W.heap.size W w') := fun W => (within_is la lb lo N lcap E ca K ccap M W).mono (by rintro e w' ⟨rfl, k1, k2, k3⟩; exact ⟨_, rfl, rfl, k1, k2, k3⟩)
  have CW : Hid (∀ (W : World) (s : Nat) (S' : Nat → Prop), Kept (fun b => b = M) W1 W → W1.heap.size ≤ s → W.heap[s + 1]? = some (.cells #[.int .i64 0] 3) → BoxAt W s la N lcap ca K ccap M → Seen W M S' → Calls Tryd.prog 26 #[.agg #[.slice la N lcap, .slice ca K ccap, .map (some M)], .func (.func 52) #[] #[.pointer (some ⟨s + 1, 0, none⟩), .pointer (some ⟨s, 0, none⟩)]] W fun e w' => e = .returned (.tuple #[]) ∧ Seen w' M (fun i => S' i ∨ ∃ j, j < K ∧ ((C j < i ∧ i ≤ C j + zN E (C j)) ∧ (E i).kind ≠ 2)) ∧ Kept (fun b => b = M ∨ b = s + 1) W w') := fun W s S' hW hs g1 g2 g3 => each_within la lb lo N lcap E ca K ccap M cb co C S' W t hcap hK ((hw.below b1).keep hW hM) hM (hC1.keep hW hcM) hcM hCN s (s + 1) g2 (by omega) g1 (by omega) (by omega) (by omega) (by omega) hasc g3
  have HX1 := hidS hx1
  have HS1 := hidS hS1
  clear hw hC hS t hCN hasc b1 hC1 hS1
  obtain ⟨x0, x1, x2⟩ := hx1.cells
  go_enter Tryd.func16, Tryd.ntmps16
  go_upto_region 1 with fail
  rw [← hW1]
  clear hW1
  go_upto_region 5 with fail
  have HS2 := hidS HS1.out
  have HK2 : Hid (Kept (fun b => b = M) W1 W1) := Kept.refl _ _
  have HX2 : Hid (∀ W, Kept (fun b => b = M) W1 W → (W.cell? ⟨w.heap.size, 0, none⟩ = some (.slice la N lcap) ∧ W.cell? ⟨w.heap.size, 1, none⟩ = some (.slice ca K ccap) ∧ W.cell? ⟨w.heap.size, 2, none⟩ = some (.map (some M)))) := fun W hW => (HX1.out.keep (HK2.out.trans hW) (by omega)).cells
  have CW5f : Hid (∀ w5 s, Below W1.heap.size W1 w5 → s = W1.heap.size → w5.heap[s + 1]? = some (.cells #[.int .i64 0] 3) → BoxAt w5 s la N lcap ca K ccap M → ∀ W, Below w5.heap.size w5 W → Calls Tryd.prog 26 #[.agg #[.slice la N lcap, .slice ca K ccap, .map (some M)], .func (.func 52) #[] #[.pointer (some ⟨s + 1, 0, none⟩), .pointer (some ⟨s, 0, none⟩)]] W fun e w' => e = .returned (.tuple #[]) ∧ Seen w' M (fun i => (False) ∨ ∃ j, j < K ∧ ((C j < i ∧ i ≤ C j + zN E (C j)) ∧ (E i).kind ≠ 2)) ∧ Kept (fun b => b = M ∨ b = s + 1) W w') := fun w5 s h5 hs g1 g2 W hW => CW.out W s (fun i => False) ((HK2.out.trans (Kept.of_below h5)).trans (Kept.of_below hW)) (by have := HK2.out.size; omega) ((hW.block (s + 1) (Array.getElem?_eq_some_iff.1 g1).1).trans g1) (g2.below hW) (Seen.keep (Seen.keep HS2.out (h5.block M HS2.out.lt)) (hW.block M (Nat.lt_of_lt_of_le HS2.out.lt h5.size)))
  clear CW
  go_region_held3 (fun W => W.cell? ⟨w.heap.size, 0, none⟩ = some (.slice la N lcap) ∧ W.cell? ⟨w.heap.size, 1, none⟩ = some (.slice ca K ccap) ∧ W.cell? ⟨w.heap.size, 2, none⟩ = some (.map (some M)))
    ((refine HX2.out _ ?_; repeat (first | exact Hid.out (by assumption) | exact Kept.refl _ _ | refine Kept.drew ?_)))
    (first
      | (go_at_call 31; refine (CI.out _).mono ?_; rintro e w5 ⟨s, rfl, hs5, g1, g2, g3⟩; have HB5 : Hid (Below W1.heap.size W1 w5) := (⟨g3.os, g3.tape, g3.output, g3.size, g3.block⟩ : Below W1.heap.size W1 w5); have HK5 : Hid (Kept (fun b => b = M) W1 w5) := Kept.of_below HB5.out; have HSZ : Hid (s = W1.heap.size) := hs5; have CW5 := hidS (CW5f.out w5 s HB5.out HSZ.out g1 g2); clear g1 g2 g3 hs5 CI CW5f)
      | (go_at_call 26; refine (CW5.out _ ?_).mono ?_; (focus (repeat (first | exact Hid.out (by assumption) | exact Below.refl _ _ | refine Below.drew ?_))); rintro e w6 ⟨rfl, hs6, hk6⟩; have HS6 := hidS hs6; have HK6 : Hid (Kept (fun b => b = M) W1 w6) := (HK5.out.trans' (⟨hk6.os, hk6.tape, hk6.output, hk6.size, hk6.block⟩ : Kept (fun b => b = M ∨ b = s + 1) w5 w6) (fun i hi h => h.elim id (fun e => by have := HSZ.out; omega))); clear hs6 hk6))
  all_goals
    go_wp2_with fail
    first | go_end0 | refine bodyPost_ret (results_none rfl _ _ _) rfl ?_
    exact ⟨rfl, Seen.congr HS6.out (fun i => ⟨fun h => h.elim (fun k => k.elim) (fun ⟨j, j1, k1⟩ => ⟨by have := (HT.out.sz _ (HCN.out j j1)).2; have := k1.1.2; omega, j, j1, (onA_2 E _ i).2 k1⟩), fun ⟨h, j, j1, k⟩ => .inr ⟨j, j1, (onA_2 E _ i).1 k⟩⟩), ((Kept.of_below HB1.out).trans HK2.out).trans HK6.out⟩
set_option maxHeartbeats 3200000 in
theorem along_3 (la : Option Addr) (lb lo N lcap : Nat) (E : Nat → Nd) (ca : Option Addr) (K ccap M : Nat) (cb co : Nat) (C : Nat → Nat) (w : World) (t : Tr E N) (hcap : K ≤ ccap) (hK : ccap ≤ maxLen) (hw : Wk w la lb lo N lcap E) (hM : lb ≠ M) (hC : CxAt w ca cb co K C) (hcM : cb ≠ M) (hCN : ∀ j, j < K → C j < N) (hasc : ∀ j k, j < k → k < K → C j ≤ C k) (hS : Seen w M (fun _ => False)) (hlb : lb < w.heap.size) (hcb : cb < w.heap.size) :
    Calls Tryd.prog 16 #[.agg #[.slice la N lcap, .slice ca K ccap, .map (some M)], .int .i64 3] w fun e w' => e = .returned (.tuple #[]) ∧ Seen w' M (onJ E N K C 3) ∧ Kept (fun b => b = M) w w' := by
  have hlt := hS.lt
  obtain ⟨W1, hW1⟩ : ∃ W, W = (w.alloc (.cells #[.slice la N lcap, .slice ca K ccap, .map (some M)] 39)) := ⟨_, rfl⟩
  have b1 : Below w.heap.size w W1 := by rw [hW1]; exact (Below.refl _ _).alloc (Nat.le_refl _) _
  have hx1 : BoxAt W1 w.heap.size la N lcap ca K ccap M := by rw [hW1]; exact heap_alloc_new _ _
  have hC1 := hC.keep (Kept.of_below (X := fun _ => False) b1) (fun h => h)
  have hS1 : Seen W1 M (fun _ => False) := Seen.keep hS (b1.block M hlt)
  have q2 := hw.n
  have HB1 := hidS b1
  have HT := hidS t
  have HCN := hidS hCN
  have hz1 : w.heap.size < W1.heap.size := hx1.lt
  have CE : Hid (Calls Tryd.prog 26 #[.agg #[.slice la N lcap, .slice ca K ccap, .map (some M)], .func (.func 32) #[.agg #[.slice la N lcap, .slice ca K ccap, .map (some M)]] #[]] W1 fun e w' => e = .returned (.tuple #[]) ∧ Seen w' M (fun i => False ∨ ∃ j, j < K ∧ (fun c i => i = c) (C j) i) ∧ Kept (fun b => b = M) W1 w') :=
    each_set 32 #[.agg #[.slice la N lcap, .slice ca K ccap, .map (some M)]] #[] (fun c i => i = c) (fun _ => True) (fun V => BoxAt V w.heap.size la N lcap ca K ccap M) la lb lo N lcap E ca K ccap M cb co C (fun i => False) W1 t hcap hK (hw.below b1) hM hC1 hcM hCN (fun args V => by kernel_rfl) hx1 (fun V V' hV hk => hV.keep hk (by omega)) hS1 trivial (fun _ _ _ _ => trivial) (fun V S' c hc hV hZ hs _ => see_is la lb lo N lcap E ca K ccap M c S' V (by omega) hs)
  have CI : Hid (∀ W, Calls Tryd.prog 31 #[.agg #[.slice la N lcap, .slice ca K ccap, .map (some M)]] W fun e w' => ∃ s, e = .returned (.func (.func 52) #[] #[.pointer (some ⟨s + 1, 0, none⟩), .pointer (some ⟨s, 0, none⟩)]) ∧ s = W.heap.size ∧ w'.heap[s + 1]? = some (.cells #[.int .i64 0] 3) ∧ BoxAt w' s la N lcap ca K ccap M ∧ Below W.heap.size W w') := fun W => (within_is la lb lo N lcap E ca K ccap M W).mono (by rintro e w' ⟨rfl, k1, k2, k3⟩; exact ⟨_, rfl, rfl, k1, k2, k3⟩)
  have CW : Hid (∀ (W : World) (s : Nat) (S' : Nat → Prop), Kept (fun b => b = M) W1 W → W1.heap.size ≤ s → W.heap[s + 1]? = some (.cells #[.int .i64 0] 3) → BoxAt W s la N lcap ca K ccap M → Seen W M S' → Calls Tryd.prog 26 #[.agg #[.slice la N lcap, .slice ca K ccap, .map (some M)], .func (.func 52) #[] #[.pointer (some ⟨s + 1, 0, none⟩), .pointer (some ⟨s, 0, none⟩)]] W fun e w' => e = .returned (.tuple #[]) ∧ Seen w' M (fun i => S' i ∨ ∃ j, j < K ∧ ((C j < i ∧ i ≤ C j + zN E (C j)) ∧ (E i).kind ≠ 2)) ∧ Kept (fun b => b = M ∨ b = s + 1) W w') := fun W s S' hW hs g1 g2 g3 => each_within la lb lo N lcap E ca K ccap M cb co C S' W t hcap hK ((hw.below b1).keep hW hM) hM (hC1.keep hW hcM) hcM hCN s (s + 1) g2 (by omega) g1 (by omega) (by omega) (by omega) (by omega) hasc g3
  have HX1 := hidS hx1
  have HS1 := hidS hS1
  clear hw hC hS t hCN hasc b1 hC1 hS1
  obtain ⟨x0, x1, x2⟩ := hx1.cells
  go_enter Tryd.func16, Tryd.ntmps16
  go_upto_region 1 with fail
  rw [← hW1]
  clear hW1
  go_upto_region 8 with (go_at_call 26; refine CE.out.mono ?_; rintro e w2 ⟨rfl, hs2, hk2⟩; have HS2 := hidS hs2; have HK2 := hidS hk2; clear hs2 hk2)
  obtain ⟨y0, y1, y2⟩ := (HX1.out.keep HK2.out (by omega)).cells
  have hz2 := HK2.out.size
  have HX2 : Hid (∀ W, Kept (fun b => b = M) w2 W → (W.cell? ⟨w.heap.size, 0, none⟩ = some (.slice la N lcap) ∧ W.cell? ⟨w.heap.size, 1, none⟩ = some (.slice ca K ccap) ∧ W.cell? ⟨w.heap.size, 2, none⟩ = some (.map (some M)))) := fun W hW => (HX1.out.keep (HK2.out.trans hW) (by omega)).cells
  have CW5f : Hid (∀ w5 s, Below w2.heap.size w2 w5 → s = w2.heap.size → w5.heap[s + 1]? = some (.cells #[.int .i64 0] 3) → BoxAt w5 s la N lcap ca K ccap M → ∀ W, Below w5.heap.size w5 W → Calls Tryd.prog 26 #[.agg #[.slice la N lcap, .slice ca K ccap, .map (some M)], .func (.func 52) #[] #[.pointer (some ⟨s + 1, 0, none⟩), .pointer (some ⟨s, 0, none⟩)]] W fun e w' => e = .returned (.tuple #[]) ∧ Seen w' M (fun i => (False ∨ ∃ j, j < K ∧ (fun c i => i = c) (C j) i) ∨ ∃ j, j < K ∧ ((C j < i ∧ i ≤ C j + zN E (C j)) ∧ (E i).kind ≠ 2)) ∧ Kept (fun b => b = M ∨ b = s + 1) W w') := fun w5 s h5 hs g1 g2 W hW => CW.out W s (fun i => False ∨ ∃ j, j < K ∧ (fun c i => i = c) (C j) i) ((HK2.out.trans (Kept.of_below h5)).trans (Kept.of_below hW)) (by have := HK2.out.size; omega) ((hW.block (s + 1) (Array.getElem?_eq_some_iff.1 g1).1).trans g1) (g2.below hW) (Seen.keep (Seen.keep HS2.out (h5.block M HS2.out.lt)) (hW.block M (Nat.lt_of_lt_of_le HS2.out.lt h5.size)))
  clear CW
  go_region_held3 (fun W => W.cell? ⟨w.heap.size, 0, none⟩ = some (.slice la N lcap) ∧ W.cell? ⟨w.heap.size, 1, none⟩ = some (.slice ca K ccap) ∧ W.cell? ⟨w.heap.size, 2, none⟩ = some (.map (some M)))
    ((refine HX2.out _ ?_; repeat (first | exact Hid.out (by assumption) | exact Kept.refl _ _ | refine Kept.drew ?_)))
    (first
      | (go_at_call 31; refine (CI.out _).mono ?_; rintro e w5 ⟨s, rfl, hs5, g1, g2, g3⟩; have HB5 : Hid (Below w2.heap.size w2 w5) := (⟨g3.os, g3.tape, g3.output, g3.size, g3.block⟩ : Below w2.heap.size w2 w5); have HK5 : Hid (Kept (fun b => b = M) w2 w5) := Kept.of_below HB5.out; have HSZ : Hid (s = w2.heap.size) := hs5; have CW5 := hidS (CW5f.out w5 s HB5.out HSZ.out g1 g2); clear g1 g2 g3 hs5 CI CW5f)
      | (go_at_call 26; refine (CW5.out _ ?_).mono ?_; (focus (repeat (first | exact Hid.out (by assumption) | exact Below.refl _ _ | refine Below.drew ?_))); rintro e w6 ⟨rfl, hs6, hk6⟩; have HS6 := hidS hs6; have HK6 : Hid (Kept (fun b => b = M) w2 w6) := (HK5.out.trans' (⟨hk6.os, hk6.tape, hk6.output, hk6.size, hk6.block⟩ : Kept (fun b => b = M ∨ b = s + 1) w5 w6) (fun i hi h => h.elim id (fun e => by have := HSZ.out; omega))); clear hs6 hk6))
  all_goals
    go_wp2_with fail
    first | go_end0 | refine bodyPost_ret (results_none rfl _ _ _) rfl ?_
    exact ⟨rfl, Seen.congr HS6.out (fun i => ⟨fun h => h.elim (fun k => k.elim (fun q => q.elim) (fun ⟨j, j1, q⟩ => ⟨by have := HCN.out j j1; have q' : i = C j := q; omega, j, j1, (onA_3 E _ i).2 (.inl q)⟩)) (fun ⟨j, j1, k1⟩ => ⟨by have := (HT.out.sz _ (HCN.out j j1)).2; have := k1.1.2; omega, j, j1, (onA_3 E _ i).2 (.inr k1)⟩), fun ⟨h, j, j1, k⟩ => ((onA_3 E _ i).1 k).elim (fun q => .inl (.inr ⟨j, j1, q⟩)) (fun q => .inr ⟨j, j1, q⟩)⟩), ((Kept.of_below HB1.out).trans HK2.out).trans HK6.out⟩
end Go.Proofs.YtnfljohddpadhaaDoor
