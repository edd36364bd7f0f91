/-
  CONTRACTS of package axes: what is done for a context node along the axes down and up.
-/
import Derived.Test.YtnfljohddpadhaaDoorStEach
import Derived.Deep.QuietTactic
import Derived.BigQuiet
import Derived.WalkLawsBesides
import Derived.Outline
import Derived.Deep.RegionHeld3
import Derived.Deep.RegionLaw
set_option linter.unusedVariables false
namespace Go.Proofs.YtnfljohddpadhaaDoor
set_option maxRecDepth 100000
open Go.RowKit Go.WideShapes

/-- the box that a walk lies in -/
def BoxAt (w : World) (b : Nat) (la : Option Addr) (N lcap : Nat) (ca : Option Addr) (K ccap M : Nat) : Prop := w.heap[b]? = some (.cells #[.slice la N lcap, .slice ca K ccap, .map (some M)] 39)
theorem BoxAt.cells {w : World} {b : Nat} {la : Option Addr} {N lcap : Nat} {ca : Option Addr} {K ccap M : Nat} (h : BoxAt w b la N lcap ca K ccap M) : w.cell? ⟨b, 0, none⟩ = some (.slice la N lcap) ∧ w.cell? ⟨b, 1, none⟩ = some (.slice ca K ccap) ∧ w.cell? ⟨b, 2, none⟩ = some (.map (some M)) := ⟨(bk3 h).1, (bk3 h).2.1, (bk3 h).2.2.1⟩
theorem BoxAt.lt {w : World} {b : Nat} {la : Option Addr} {N lcap : Nat} {ca : Option Addr} {K ccap M : Nat} (h : BoxAt w b la N lcap ca K ccap M) : b < w.heap.size := (bk3 h).2.2.2
theorem BoxAt.keep {w w' : World} {b : Nat} {la : Option Addr} {N lcap : Nat} {ca : Option Addr} {K ccap M : Nat} {X : Nat → Prop} (h : BoxAt w b la N lcap ca K ccap M) (hk : Kept X w w') (hX : ¬ X b) : BoxAt w' b la N lcap ca K ccap M := (hk.block b h.lt hX).trans h
theorem BoxAt.below {w w' : World} {b : Nat} {la : Option Addr} {N lcap : Nat} {ca : Option Addr} {K ccap M : Nat} (h : BoxAt w b la N lcap ca K ccap M) (hk : Below w.heap.size w w') : BoxAt w' b la N lcap ca K ccap M := (hk.block b h.lt).trans h
theorem Kept.drew {X : Nat → Prop} {a b : World} (h : Kept X a b) : Kept X a b.drew := ⟨h.os, h.tape, h.output, h.size, h.block⟩
theorem Kept.undrew {X : Nat → Prop} {a b : World} (h : Kept X a.drew b) : Kept X a b := ⟨h.os, h.tape, h.output, h.size, h.block⟩
theorem Below.undrew {B : Nat} {a b : World} (h : Below B a.drew b) : Below B a b := ⟨h.os, h.tape, h.output, h.size, h.block⟩
set_option maxHeartbeats 3200000 in
theorem child_is (la : Option Addr) (lb lo N lcap : Nat) (E : Nat → Nd) (ca : Option Addr) (K ccap M : Nat) (xb c : Nat) (S : Nat → Prop) (w : World) (t : Tr E N) (hw : Wk w la lb lo N lcap E) (hM : lb ≠ M) (hx : BoxAt w xb la N lcap ca K ccap M) (hxM : xb ≠ M) (hc : c < N) (hS : Seen w M S) :
    Calls Tryd.prog 27 #[.int .i64 (c : Int), .pointer (some ⟨xb, 0, none⟩)] w fun e w' => e = .returned (.tuple #[]) ∧ Seen w' M (fun i => S i ∨ (i < N ∧ (E i).parent = (c : Int) ∧ (E i).kind ≠ 2)) ∧ Kept (fun b => b = M) w w' := by
  have HX : Hid (∀ W, Kept (fun b => b = M) w W → (W.cell? ⟨xb, 0, none⟩ = some (.slice la N lcap) ∧ W.cell? ⟨xb, 1, none⟩ = some (.slice ca K ccap) ∧ W.cell? ⟨xb, 2, none⟩ = some (.map (some M)))) := fun W hW => (hx.keep hW hxM).cells
  have CL : Hid (∀ W, Below w.heap.size w W → Calls Tryd.prog 29 #[.agg #[.slice la N lcap, .slice ca K ccap, .map (some M)], .int .i64 (c : Int)] W fun e w' => e = .returned (.int .i64 ((c + zN E c : Nat) : Int)) ∧ Below W.heap.size W w') := fun W hW => last_is la lb lo N lcap E ca K ccap M c W t (hw.below hW) hc
  have CR : Hid (∀ W, Below w.heap.size w W → Calls Tryd.prog 28 #[.agg #[.slice la N lcap, .slice ca K ccap, .map (some M)], .int .i64 ((c + 1 : Nat) : Int), .int .i64 ((c + zN E c : Nat) : Int), .func (.func 30) #[.agg #[.slice la N lcap, .slice ca K ccap, .map (some M)]] #[]] W fun e w' => e = .returned (.tuple #[]) ∧ Seen w' M (fun i => S i ∨ ((c + 1 ≤ i ∧ i ≤ c + zN E c) ∧ (E i).parent = (c : Int) ∧ (E i).kind ≠ 2)) ∧ Kept (fun b => b = M) W w') := fun W hW => row_gen 30 (fun i => (E i).kind ≠ 2) la lb lo N lcap E ca K ccap M c (c + 1) (c + zN E c) S W t (hw.below hW) hM (Seen.keep hS (hW.block M hS.lt)) hc (Row1.start t hc) (Nat.le_refl _) (fun args V => by kernel_rfl) (fun V S' n hn hV hs => seeOther_is la lb lo N lcap E ca K ccap M n S' V t hV hn hs)
  have HT := hidS t
  obtain ⟨x0, x1, x2⟩ := hx.cells
  have hcz := (t.sz c hc).2
  have q2 := hw.n
  have hwr : IntKind.i64.wrap ((c : Int) + 1) = ((c + 1 : Nat) : Int) := by rw [IntWalk.i64_in _ (by omega)]; simp
  generalize hz1 : ((c + zN E c : Nat) : Int) = z1 at CL CR
  generalize hz2 : ((c + 1 : Nat) : Int) = z2 at CR hwr
  clear t hw hx hS
  go_enter Tryd.func27, Tryd.ntmps27
  go_region_held3 (fun W => W.cell? ⟨xb, 0, none⟩ = some (.slice la N lcap) ∧ W.cell? ⟨xb, 1, none⟩ = some (.slice ca K ccap) ∧ W.cell? ⟨xb, 2, none⟩ = some (.map (some M)))
    ((refine HX.out _ ?_; repeat (first | exact Hid.out (by assumption) | exact Kept.refl _ _ | refine Kept.drew ?_)))
    (first
      | (go_at_call 29; refine (CL.out _ ?_).mono ?_; (focus (repeat (first | exact Hid.out (by assumption) | exact Below.refl _ _ | refine Below.drew ?_))); rintro e w1 ⟨rfl, hb1⟩; have HB1 : Hid (Below w.heap.size w w1) := (⟨hb1.os, hb1.tape, hb1.output, hb1.size, hb1.block⟩ : Below w.heap.size w w1); have HKa : Hid (Kept (fun b => b = M) w w1) := Kept.of_below HB1.out; clear hb1)
      | (go_at_call 28; refine (CR.out _ ?_).mono ?_; (focus (repeat (first | exact Hid.out (by assumption) | exact Below.refl _ _ | refine Below.drew ?_))); rintro e w2 ⟨rfl, hs2, hk2⟩; have HS2 := hidS hs2; have HK2 : Hid (Kept (fun b => b = M) w1 w2) := (⟨hk2.os, hk2.tape, hk2.output, hk2.size, hk2.block⟩ : Kept (fun b => b = M) w1 w2); have HKb : Hid (Kept (fun b => b = M) w w2) := HKa.out.trans HK2.out; clear hs2 hk2))
  all_goals
    have HF : Hid (∀ i, (S i ∨ ((c + 1 ≤ i ∧ i ≤ c + zN E c) ∧ (E i).parent = (c : Int) ∧ (E i).kind ≠ 2)) ↔ (S i ∨ (i < N ∧ (E i).parent = (c : Int) ∧ (E i).kind ≠ 2))) := by
      intro i
      constructor
      · rintro (h | h)
        · exact .inl h
        · exact .inr ⟨by omega, h.2⟩
      · rintro (h | ⟨h1, h2, h3⟩)
        · exact .inl h
        · rcases HT.out.up i h1 with k | ⟨p, k1, k2, k3⟩
          · omega
          · obtain rfl : p = c := by omega
            exact .inr ⟨⟨by omega, k3⟩, h2, h3⟩
    go_wp2_with fail
    first | go_end0 | refine bodyPost_ret (results_none rfl _ _ _) rfl ?_
    exact ⟨rfl, Seen.congr HS2.out HF.out, (Kept.of_below HB1.out).trans HK2.out⟩
set_option maxHeartbeats 3200000 in
theorem attr_is (la : Option Addr) (lb lo N lcap : Nat) (E : Nat → Nd) (ca : Option Addr) (K ccap M : Nat) (xb c : Nat) (S : Nat → Prop) (w : World) (t : Tr E N) (hw : Wk w la lb lo N lcap E) (hM : lb ≠ M) (hx : BoxAt w xb la N lcap ca K ccap M) (hxM : xb ≠ M) (hc : c < N) (hS : Seen w M S) :
    Calls Tryd.prog 40 #[.int .i64 (c : Int), .pointer (some ⟨xb, 0, none⟩)] w fun e w' => e = .returned (.tuple #[]) ∧ Seen w' M (fun i => S i ∨ (i < N ∧ (E i).parent = (c : Int) ∧ (E i).kind = 2)) ∧ Kept (fun b => b = M) w w' := by
  have HX : Hid (∀ W, Kept (fun b => b = M) w W → (W.cell? ⟨xb, 0, none⟩ = some (.slice la N lcap) ∧ W.cell? ⟨xb, 1, none⟩ = some (.slice ca K ccap) ∧ W.cell? ⟨xb, 2, none⟩ = some (.map (some M)))) := fun W hW => (hx.keep hW hxM).cells
  have CL : Hid (∀ W, Below w.heap.size w W → Calls Tryd.prog 29 #[.agg #[.slice la N lcap, .slice ca K ccap, .map (some M)], .int .i64 (c : Int)] W fun e w' => e = .returned (.int .i64 ((c + zN E c : Nat) : Int)) ∧ Below W.heap.size W w') := fun W hW => last_is la lb lo N lcap E ca K ccap M c W t (hw.below hW) hc
  have CR : Hid (∀ W, Below w.heap.size w W → Calls Tryd.prog 28 #[.agg #[.slice la N lcap, .slice ca K ccap, .map (some M)], .int .i64 ((c + 1 : Nat) : Int), .int .i64 ((c + zN E c : Nat) : Int), .func (.func 41) #[.agg #[.slice la N lcap, .slice ca K ccap, .map (some M)]] #[]] W fun e w' => e = .returned (.tuple #[]) ∧ Seen w' M (fun i => S i ∨ ((c + 1 ≤ i ∧ i ≤ c + zN E c) ∧ (E i).parent = (c : Int) ∧ (E i).kind = 2)) ∧ Kept (fun b => b = M) W w') := fun W hW => row_gen 41 (fun i => (E i).kind = 2) la lb lo N lcap E ca K ccap M c (c + 1) (c + zN E c) S W t (hw.below hW) hM (Seen.keep hS (hW.block M hS.lt)) hc (Row1.start t hc) (Nat.le_refl _) (fun args V => by kernel_rfl) (fun V S' n hn hV hs => seeAttr_is la lb lo N lcap E ca K ccap M n S' V t hV hn hs)
  have HT := hidS t
  obtain ⟨x0, x1, x2⟩ := hx.cells
  have hcz := (t.sz c hc).2
  have q2 := hw.n
  have hwr : IntKind.i64.wrap ((c : Int) + 1) = ((c + 1 : Nat) : Int) := by rw [IntWalk.i64_in _ (by omega)]; simp
  generalize hz1 : ((c + zN E c : Nat) : Int) = z1 at CL CR
  generalize hz2 : ((c + 1 : Nat) : Int) = z2 at CR hwr
  clear t hw hx hS
  go_enter Tryd.func40, Tryd.ntmps40
  go_region_held3 (fun W => W.cell? ⟨xb, 0, none⟩ = some (.slice la N lcap) ∧ W.cell? ⟨xb, 1, none⟩ = some (.slice ca K ccap) ∧ W.cell? ⟨xb, 2, none⟩ = some (.map (some M)))
    ((refine HX.out _ ?_; repeat (first | exact Hid.out (by assumption) | exact Kept.refl _ _ | refine Kept.drew ?_)))
    (first
      | (go_at_call 29; refine (CL.out _ ?_).mono ?_; (focus (repeat (first | exact Hid.out (by assumption) | exact Below.refl _ _ | refine Below.drew ?_))); rintro e w1 ⟨rfl, hb1⟩; have HB1 : Hid (Below w.heap.size w w1) := (⟨hb1.os, hb1.tape, hb1.output, hb1.size, hb1.block⟩ : Below w.heap.size w w1); have HKa : Hid (Kept (fun b => b = M) w w1) := Kept.of_below HB1.out; clear hb1)
      | (go_at_call 28; refine (CR.out _ ?_).mono ?_; (focus (repeat (first | exact Hid.out (by assumption) | exact Below.refl _ _ | refine Below.drew ?_))); rintro e w2 ⟨rfl, hs2, hk2⟩; have HS2 := hidS hs2; have HK2 : Hid (Kept (fun b => b = M) w1 w2) := (⟨hk2.os, hk2.tape, hk2.output, hk2.size, hk2.block⟩ : Kept (fun b => b = M) w1 w2); have HKb : Hid (Kept (fun b => b = M) w w2) := HKa.out.trans HK2.out; clear hs2 hk2))
  all_goals
    have HF : Hid (∀ i, (S i ∨ ((c + 1 ≤ i ∧ i ≤ c + zN E c) ∧ (E i).parent = (c : Int) ∧ (E i).kind = 2)) ↔ (S i ∨ (i < N ∧ (E i).parent = (c : Int) ∧ (E i).kind = 2))) := by
      intro i
      constructor
      · rintro (h | h)
        · exact .inl h
        · exact .inr ⟨by omega, h.2⟩
      · rintro (h | ⟨h1, h2, h3⟩)
        · exact .inl h
        · rcases HT.out.up i h1 with k | ⟨p, k1, k2, k3⟩
          · omega
          · obtain rfl : p = c := by omega
            exact .inr ⟨⟨by omega, k3⟩, h2, h3⟩
    go_wp2_with fail
    first | go_end0 | refine bodyPost_ret (results_none rfl _ _ _) rfl ?_
    exact ⟨rfl, Seen.congr HS2.out HF.out, (Kept.of_below HB1.out).trans HK2.out⟩
end Go.Proofs.YtnfljohddpadhaaDoor
