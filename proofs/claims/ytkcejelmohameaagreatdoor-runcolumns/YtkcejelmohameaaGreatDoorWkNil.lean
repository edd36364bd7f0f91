/-
  PACKAGE axes OF NO NODES: nothing is seen.
-/
import Derived.Test.YtkcejelmohameaaGreatDoorStRng
import Derived.Test.YtkcejelmohameaaGreatDoorUnroll
import Derived.Test.YtkcejelmohameaaGreatDoorRcAlone
import Derived.Deep.QuietTactic
import Derived.BigQuiet
import Derived.Deep.RegionHeld3
import Derived.Deep.RegionLaw
import Derived.Laws.EntriesVeiled
import Derived.WalkLawsBesides
import Derived.Outline
set_option linter.unusedVariables false
namespace Go.Proofs.YtkcejelmohameaaGreatDoor
set_option maxRecDepth 100000
open Go.RowKit Go.WideShapes

theorem drewW (B : Nat) (w : World) : Below B w w.drew := ⟨rfl, rfl, rfl, Nat.le_refl _, fun _ _ => rfl⟩
def noV : Int → Option Value := fun _ => none
theorem w3 {w : World} {b M : Nat} (h : w.heap[b]? = some (.cells #[.slice none 0 0, .slice none 0 0, .map (some M)] 148)) : w.cell? ⟨b, 0, none⟩ = some (.slice none 0 0) ∧ w.cell? ⟨b, 1, none⟩ = some (.slice none 0 0) ∧ w.cell? ⟨b, 2, none⟩ = some (.map (some M)) ∧ b < w.heap.size :=
  ⟨(kCell h (j := 0) (by simp)).1, (kCell h (j := 1) (by simp)).1, (kCell h (j := 2) (by simp)).1, kLt h⟩
theorem each_nil (M f : Nat) (b c : Array Value) (w : World) : Calls Tryz.prog 173 #[.agg #[.slice none 0 0, .slice none 0 0, .map (some M)], .func (.func f) b c] w fun e w' => e = .returned (.tuple #[]) ∧ Below w.heap.size w w' := by
  go_enter Tryz.func173, Tryz.ntmps173
  go_wp2
  refine LoopN.wp 1 (LoopN.next ?_)
  go_wp2
  first | go_end0 | refine bodyPost_ret (results_none rfl _ _ _) rfl ?_
  exact ⟨rfl, (Below.refl _ _).alloc (Nat.le_refl _) _⟩
theorem within_nil (M : Nat) (w : World) : Calls Tryz.prog 178 #[.agg #[.slice none 0 0, .slice none 0 0, .map (some M)]] w fun e w' => (∃ c, e = .returned (.func (.func 207) #[] c)) ∧ Below w.heap.size w w' := by
  have hmf : ∀ (fn : Fn) (first cap : Array Value) (w : World), (Instr.makeFunc fn first cap).run Tryz.prog w = .ok (.func fn first cap) w := fun _ _ _ _ => rfl
  go_enter Tryz.func178, Tryz.ntmps178
  go_wp2
  go_ret
  refine ⟨⟨_, rfl⟩, ?_⟩
  (focus (repeat (first | exact Below.refl _ _ | exact Hid.out (by assumption) | refine Below.setCell ?_ (by first | omega | (simp <;> omega)) _ | refine Below.alloc ?_ (by first | omega | (simp <;> omega)) _)))
theorem roots_nil (M : Nat) (w : World) : Calls Tryz.prog 210 #[.agg #[.slice none 0 0, .slice none 0 0, .map (some M)]] w fun e w' => (∃ c, e = .returned (.func (.func 239) #[] c)) ∧ Below w.heap.size w w' := by
  have hmf : ∀ (fn : Fn) (first cap : Array Value) (w : World), (Instr.makeFunc fn first cap).run Tryz.prog w = .ok (.func fn first cap) w := fun _ _ _ _ => rfl
  go_enter Tryz.func210, Tryz.ntmps210
  go_wp2
  go_ret
  refine ⟨⟨_, rfl⟩, ?_⟩
  (focus (repeat (first | exact Below.refl _ _ | exact Hid.out (by assumption) | refine Below.setCell ?_ (by first | omega | (simp <;> omega)) _ | refine Below.alloc ?_ (by first | omega | (simp <;> omega)) _)))
set_option maxHeartbeats 1600000 in
theorem best_nil (M f g : Nat) (b c b' c' : Array Value) (w : World) : Calls Tryz.prog 209 #[.agg #[.slice none 0 0, .slice none 0 0, .map (some M)], .func (.func f) b c, .func (.func g) b' c'] w fun e w' => (∃ O, e = .returned (.map (some O)) ∧ IMap w' O noV ∧ w.heap.size ≤ O) ∧ Below w.heap.size w w' := by
  have hmf : ∀ (fn : Fn) (first cap : Array Value) (w : World), (Instr.makeFunc fn first cap).run Tryz.prog w = .ok (.func fn first cap) w := fun _ _ _ _ => rfl
  have hmm := @run_makeMap Tryz.prog
  have CE : Hid (∀ W c, Calls Tryz.prog 173 #[.agg #[.slice none 0 0, .slice none 0 0, .map (some M)], .func (.func 238) #[] c] W fun e w' => e = .returned (.tuple #[]) ∧ Below W.heap.size W w') := fun W c => each_nil M _ _ _ W
  go_enter Tryz.func209, Tryz.ntmps209
  go_upto_region 2 with fail
  obtain ⟨W1, hW1⟩ : ∃ W, W = (((((w.alloc (.cells #[.slice none 0 0, .slice none 0 0, .map (some M)] 148)).alloc (.cells #[.func (.func f) b c] 50)).alloc (.cells #[.func (.func g) b' c'] 79)).alloc (.map #[] 0)).alloc (.cells #[.map (some (w.heap.size + 1 + 1 + 1))] 194)) := ⟨_, rfl⟩
  have HB1 : Hid (Below w.heap.size w W1) := by rw [hW1]; (focus (repeat (first | exact Below.refl _ _ | exact Hid.out (by assumption) | refine Below.setCell ?_ (by first | omega | (simp <;> omega)) _ | refine Below.alloc ?_ (by first | omega | (simp <;> omega)) _)))
  have h0 : W1.heap[w.heap.size]? = some (.cells #[.slice none 0 0, .slice none 0 0, .map (some M)] 148) := by rw [hW1]; exact kOld (kOld (kOld (kOld (kNew rfl))))
  have h4 : W1.heap[w.heap.size + 1 + 1 + 1 + 1]? = some (.cells #[.map (some (w.heap.size + 1 + 1 + 1))] 194) := by rw [hW1]; exact kNew (by simp)
  have HM1 : Hid (IMap W1 (w.heap.size + 1 + 1 + 1) noV) := by
    rw [hW1]
    have h := IMap.made (((w.alloc (.cells #[.slice none 0 0, .slice none 0 0, .map (some M)] 148)).alloc (.cells #[.func (.func f) b c] 50)).alloc (.cells #[.func (.func g) b' c'] 79))
    rw [show (((w.alloc (.cells #[.slice none 0 0, .slice none 0 0, .map (some M)] 148)).alloc (.cells #[.func (.func f) b c] 50)).alloc (.cells #[.func (.func g) b' c'] 79)).heap.size = w.heap.size + 1 + 1 + 1 by simp] at h
    exact h.alloc _
  rw [← hW1]
  clear hW1
  obtain ⟨x0, x1, x2, xl⟩ := w3 h0
  have H4 := hidK h4
  have x4 := kLt h4
  clear h0 h4
  go_wp2_with (go_at_call 173; refine (CE.out _ _).mono ?_; rintro e w2 ⟨rfl, hb2⟩; have HB2 := hidK hb2; have y0 := (kCell ((hb2.block _ x4).trans H4.out) (j := 0) (by simp)).1; clear hb2 CE)
  refine bodyPost_ret (v := .map (some (w.heap.size + 1 + 1 + 1))) (by simp [results, Tryz.results209, go_sem]) rfl ⟨⟨_, rfl, HM1.out.keep (HB2.out.block _ HM1.out.lt), by omega⟩, HB1.out.trans (HB2.out.mono HB1.out.size)⟩
set_option maxHeartbeats 1600000 in
theorem following_nil (M : Nat) (w : World) : Calls Tryz.prog 183 #[.agg #[.slice none 0 0, .slice none 0 0, .map (some M)]] w fun e w' => e = .returned (.tuple #[]) ∧ Below w.heap.size w w' := by
  have hmf : ∀ (fn : Fn) (first cap : Array Value) (w : World), (Instr.makeFunc fn first cap).run Tryz.prog w = .ok (.func fn first cap) w := fun _ _ _ _ => rfl
  have CB : Hid (∀ W f g b c b' c', Calls Tryz.prog 209 #[.agg #[.slice none 0 0, .slice none 0 0, .map (some M)], .func (.func f) b c, .func (.func g) b' c'] W fun e w' => (∃ O, e = .returned (.map (some O)) ∧ IMap w' O noV ∧ W.heap.size ≤ O) ∧ Below W.heap.size W w') := fun W f g b c b' c' => best_nil M f g b c b' c' W
  have CR : Hid (∀ W, Calls Tryz.prog 210 #[.agg #[.slice none 0 0, .slice none 0 0, .map (some M)]] W fun e w' => (∃ c, e = .returned (.func (.func 239) #[] c)) ∧ Below W.heap.size W w') := fun W => roots_nil M W
  obtain ⟨W1, hW1⟩ : ∃ W, W = w.alloc (.cells #[.slice none 0 0, .slice none 0 0, .map (some M)] 148) := ⟨_, rfl⟩
  have h0 : W1.heap[w.heap.size]? = some (.cells #[.slice none 0 0, .slice none 0 0, .map (some M)] 148) := by rw [hW1]; exact kNew rfl
  have HX1 := hidK h0
  have HB1 : Hid (Below w.heap.size w W1) := by rw [hW1]; exact (Below.refl _ _).alloc (Nat.le_refl _) _
  have HS : Hid (∀ W, Below W1.heap.size W1 W → W.cell? ⟨w.heap.size, 0, none⟩ = some (.slice none 0 0) ∧ W.cell? ⟨w.heap.size, 1, none⟩ = some (.slice none 0 0) ∧ W.cell? ⟨w.heap.size, 2, none⟩ = some (.map (some M))) := fun W hW => by
    obtain ⟨y0, y1, y2, _⟩ := w3 ((hW.block _ (kLt HX1.out)).trans HX1.out)
    exact ⟨y0, y1, y2⟩
  obtain ⟨x0, x1, x2⟩ := HS.out W1 (Below.refl _ _)
  go_enter Tryz.func183, Tryz.ntmps183
  go_upto_region 2 with fail
  rw [← hW1]
  clear hW1 h0
  go_region_law (first
    | (refine step_callS rfl 210 #[.agg #[.slice none 0 0, .slice none 0 0, .map (some M)]] (by simp [go_sem]) (fun v w' => ∃ c, v = .func (.func 239) #[] c ∧ Below W1.heap.size W1 w') ((CR.out _).mono (fun e w' h => by obtain ⟨⟨c, h1⟩, h2⟩ := h; exact ⟨_, h1, c, rfl, Below.trans (by repeat (first | exact Hid.out (by assumption) | exact Below.refl _ _ | refine Below.drew ?_)) (h2.mono (Nat.le_refl _))⟩)) ?_; rintro v2 w2 ⟨cc, rfl, g5⟩; have G5 := hidK g5; obtain ⟨y0, y1, y2⟩ := HS.out _ g5; clear CR g5)
    | (refine step_callS rfl 209 #[.agg #[.slice none 0 0, .slice none 0 0, .map (some M)], .func (.func 239) #[] cc, .func (.func 208) #[] #[.pointer (some ⟨w.heap.size, 0, none⟩)]] (by simp [go_sem]) (fun v w' => ∃ O, v = .map (some O) ∧ IMap w' O noV ∧ Below W1.heap.size W1 w') ((CB.out _ _ _ _ _ _ _).mono (fun e w' h => by obtain ⟨⟨O, h1, h2, h4⟩, h3⟩ := h; exact ⟨_, h1, O, rfl, h2, G5.out.trans (h3.mono G5.out.size)⟩)) ?_; rintro v3 w3 ⟨O, rfl, f2, f3⟩; have f1 := f3.size; obtain ⟨w4, left4, hrun4, hr4, hz4, hk4, ho4, ht4, hp4⟩ := f2.range (t := 194) Tryz.underlying194; have HR4 := hidK hr4; have HB4 : Hid (Below w.heap.size w w4) := HB1.out.trans (Below.mono (f3.trans ⟨ho4, ht4, hp4, by omega, fun b hb => hk4 b (by have := f3.size; omega)⟩) HB1.out.size); clear CB f1 f2 f3 hr4 hk4 ho4 ht4 hp4))
  all_goals
    generalize hrr : w3.heap.size = r at *
    clear hrr hz4 x0 x1 x2 y0 y1 y2 hrun4
    go_wp2_with fail
    go_loopw [13] (fun _ wr => (∃ (D : Int → Prop) (left : Nat), IRng wr r O noV D left) ∧ Below w.heap.size w wr) (fun _ wr => 0)
    case atStart => exact ⟨⟨_, _, HR4.out⟩, HB4.out⟩
    case round =>
      obtain ⟨⟨D, left, hrg⟩, hbr⟩ := hrel
      have HR := hidK hrg
      have HBR := hidK hbr
      clear hrg hbr
      go_wp2_with (refine wpList_inext rfl (.tmp 12) rfl r O noV D left (by simp [Act.eval]) HR.out ?_ ?_)
      rotate_left
      · intro x v w5 left5 hx
        cases hx
      · intro _
        go_wp2
        first | go_end0 | refine bodyPost_ret (results_none rfl _ _ _) rfl ?_
        exact ⟨rfl, HBR.out⟩
set_option maxHeartbeats 1600000 in
theorem preceding_nil (M : Nat) (w : World) : Calls Tryz.prog 184 #[.agg #[.slice none 0 0, .slice none 0 0, .map (some M)]] w fun e w' => e = .returned (.tuple #[]) ∧ Below w.heap.size w w' := by
  have hmf : ∀ (fn : Fn) (first cap : Array Value) (w : World), (Instr.makeFunc fn first cap).run Tryz.prog w = .ok (.func fn first cap) w := fun _ _ _ _ => rfl
  have CB : Hid (∀ W f g b c b' c', Calls Tryz.prog 209 #[.agg #[.slice none 0 0, .slice none 0 0, .map (some M)], .func (.func f) b c, .func (.func g) b' c'] W fun e w' => (∃ O, e = .returned (.map (some O)) ∧ IMap w' O noV ∧ W.heap.size ≤ O) ∧ Below W.heap.size W w') := fun W f g b c b' c' => best_nil M f g b c b' c' W
  have CR : Hid (∀ W, Calls Tryz.prog 210 #[.agg #[.slice none 0 0, .slice none 0 0, .map (some M)]] W fun e w' => (∃ c, e = .returned (.func (.func 239) #[] c)) ∧ Below W.heap.size W w') := fun W => roots_nil M W
  obtain ⟨W1, hW1⟩ : ∃ W, W = w.alloc (.cells #[.slice none 0 0, .slice none 0 0, .map (some M)] 148) := ⟨_, rfl⟩
  have h0 : W1.heap[w.heap.size]? = some (.cells #[.slice none 0 0, .slice none 0 0, .map (some M)] 148) := by rw [hW1]; exact kNew rfl
  have HX1 := hidK h0
  have HB1 : Hid (Below w.heap.size w W1) := by rw [hW1]; exact (Below.refl _ _).alloc (Nat.le_refl _) _
  have HS : Hid (∀ W, Below W1.heap.size W1 W → W.cell? ⟨w.heap.size, 0, none⟩ = some (.slice none 0 0) ∧ W.cell? ⟨w.heap.size, 1, none⟩ = some (.slice none 0 0) ∧ W.cell? ⟨w.heap.size, 2, none⟩ = some (.map (some M))) := fun W hW => by
    obtain ⟨y0, y1, y2, _⟩ := w3 ((hW.block _ (kLt HX1.out)).trans HX1.out)
    exact ⟨y0, y1, y2⟩
  obtain ⟨x0, x1, x2⟩ := HS.out W1 (Below.refl _ _)
  go_enter Tryz.func184, Tryz.ntmps184
  go_upto_region 1 with fail
  rw [← hW1]
  clear hW1 h0
  go_region_law (first
    | (refine step_callS rfl 210 #[.agg #[.slice none 0 0, .slice none 0 0, .map (some M)]] (by simp [go_sem]) (fun v w' => ∃ c, v = .func (.func 239) #[] c ∧ Below W1.heap.size W1 w') ((CR.out _).mono (fun e w' h => by obtain ⟨⟨c, h1⟩, h2⟩ := h; exact ⟨_, h1, c, rfl, Below.trans (by repeat (first | exact Hid.out (by assumption) | exact Below.refl _ _ | refine Below.drew ?_)) (h2.mono (Nat.le_refl _))⟩)) ?_; rintro v2 w2 ⟨cc, rfl, g5⟩; have G5 := hidK g5; obtain ⟨y0, y1, y2⟩ := HS.out _ g5; clear CR g5)
    | (refine step_callS rfl 209 #[.agg #[.slice none 0 0, .slice none 0 0, .map (some M)], .func (.func 239) #[] cc, .func (.func 211) #[] #[]] (by simp [go_sem]) (fun v w' => ∃ O, v = .map (some O) ∧ IMap w' O noV ∧ Below W1.heap.size W1 w') ((CB.out _ _ _ _ _ _ _).mono (fun e w' h => by obtain ⟨⟨O, h1, h2, h4⟩, h3⟩ := h; exact ⟨_, h1, O, rfl, h2, G5.out.trans (h3.mono G5.out.size)⟩)) ?_; rintro v3 w3 ⟨O, rfl, f2, f3⟩; have f1 := f3.size; obtain ⟨w4, left4, hrun4, hr4, hz4, hk4, ho4, ht4, hp4⟩ := f2.range (t := 194) Tryz.underlying194; have HR4 := hidK hr4; have HB4 : Hid (Below w.heap.size w w4) := HB1.out.trans (Below.mono (f3.trans ⟨ho4, ht4, hp4, by omega, fun b hb => hk4 b (by have := f3.size; omega)⟩) HB1.out.size); clear CB f1 f2 f3 hr4 hk4 ho4 ht4 hp4))
  all_goals
    generalize hrr : w3.heap.size = r at *
    clear hrr hz4 x0 x1 x2 y0 y1 y2 hrun4
    go_wp2_with fail
    go_loopw [10] (fun _ wr => (∃ (D : Int → Prop) (left : Nat), IRng wr r O noV D left) ∧ Below w.heap.size w wr) (fun _ wr => 0)
    case atStart => exact ⟨⟨_, _, HR4.out⟩, HB4.out⟩
    case round =>
      obtain ⟨⟨D, left, hrg⟩, hbr⟩ := hrel
      have HR := hidK hrg
      have HBR := hidK hbr
      clear hrg hbr
      go_wp2_with (refine wpList_inext rfl (.tmp 9) rfl r O noV D left (by simp [Act.eval]) HR.out ?_ ?_)
      rotate_left
      · intro x v w5 left5 hx
        cases hx
      · intro _
        go_wp2
        first | go_end0 | refine bodyPost_ret (results_none rfl _ _ _) rfl ?_
        exact ⟨rfl, HBR.out⟩
set_option maxHeartbeats 1600000 in
theorem followingSiblings_nil (M : Nat) (w : World) : Calls Tryz.prog 185 #[.agg #[.slice none 0 0, .slice none 0 0, .map (some M)]] w fun e w' => e = .returned (.tuple #[]) ∧ Below w.heap.size w w' := by
  have hmf : ∀ (fn : Fn) (first cap : Array Value) (w : World), (Instr.makeFunc fn first cap).run Tryz.prog w = .ok (.func fn first cap) w := fun _ _ _ _ => rfl
  have CB : Hid (∀ W f g b c b' c', Calls Tryz.prog 209 #[.agg #[.slice none 0 0, .slice none 0 0, .map (some M)], .func (.func f) b c, .func (.func g) b' c'] W fun e w' => (∃ O, e = .returned (.map (some O)) ∧ IMap w' O noV ∧ W.heap.size ≤ O) ∧ Below W.heap.size W w') := fun W f g b c b' c' => best_nil M f g b c b' c' W
  have CR : Hid (∀ W, Calls Tryz.prog 210 #[.agg #[.slice none 0 0, .slice none 0 0, .map (some M)]] W fun e w' => (∃ c, e = .returned (.func (.func 239) #[] c)) ∧ Below W.heap.size W w') := fun W => roots_nil M W
  obtain ⟨W1, hW1⟩ : ∃ W, W = w.alloc (.cells #[.slice none 0 0, .slice none 0 0, .map (some M)] 148) := ⟨_, rfl⟩
  have h0 : W1.heap[w.heap.size]? = some (.cells #[.slice none 0 0, .slice none 0 0, .map (some M)] 148) := by rw [hW1]; exact kNew rfl
  have HX1 := hidK h0
  have HB1 : Hid (Below w.heap.size w W1) := by rw [hW1]; exact (Below.refl _ _).alloc (Nat.le_refl _) _
  have HS : Hid (∀ W, Below W1.heap.size W1 W → W.cell? ⟨w.heap.size, 0, none⟩ = some (.slice none 0 0) ∧ W.cell? ⟨w.heap.size, 1, none⟩ = some (.slice none 0 0) ∧ W.cell? ⟨w.heap.size, 2, none⟩ = some (.map (some M))) := fun W hW => by
    obtain ⟨y0, y1, y2, _⟩ := w3 ((hW.block _ (kLt HX1.out)).trans HX1.out)
    exact ⟨y0, y1, y2⟩
  obtain ⟨x0, x1, x2⟩ := HS.out W1 (Below.refl _ _)
  go_enter Tryz.func185, Tryz.ntmps185
  go_upto_region 1 with fail
  rw [← hW1]
  clear hW1 h0
  go_wp2_with (first
    | (go_at_call 209; refine (CB.out _ _ _ _ _ _ _).mono ?_; rintro e w3 ⟨⟨O, rfl, f2, f4⟩, f3⟩; have f1 := f3.size; have F2 := hidK f2; have HB3 : Hid (Below w.heap.size w w3) := HB1.out.trans (f3.mono HB1.out.size); clear CB f1 f2 f3 f4)
    | (refine wpList_irange rfl (.tmp 7) 194 3 rfl Tryz.underlying194 O noV (by simp [Act.eval]) F2.out ?_; intro w4 left4 hr4 hb4; have HR4 := hidK hr4; have HB4 : Hid (Below w.heap.size w w4) := HB3.out.trans (hb4.mono HB3.out.size); clear hr4 hb4))
  generalize hrr : w3.heap.size = r at *
  clear hrr x0 x1 x2
  go_frame
  go_loopw [9] (fun _ wr => (∃ (D : Int → Prop) (left : Nat), IRng wr r O noV D left) ∧ Below w.heap.size w wr) (fun _ wr => 0)
  case atStart => exact ⟨⟨_, _, HR4.out⟩, HB4.out⟩
  case round =>
    obtain ⟨⟨D, left, hrg⟩, hbr⟩ := hrel
    have HR := hidK hrg
    have HBR := hidK hbr
    clear hrg hbr
    go_wp2_with (refine wpList_inext rfl (.tmp 8) rfl r O noV D left (by simp [Act.eval]) HR.out ?_ ?_)
    rotate_left
    · intro x v w5 left5 hx
      cases hx
    · intro _
      go_wp2
      first | go_end0 | refine bodyPost_ret (results_none rfl _ _ _) rfl ?_
      exact ⟨rfl, HBR.out⟩
set_option maxHeartbeats 1600000 in
theorem precedingSiblings_nil (M : Nat) (w : World) : Calls Tryz.prog 186 #[.agg #[.slice none 0 0, .slice none 0 0, .map (some M)]] w fun e w' => e = .returned (.tuple #[]) ∧ Below w.heap.size w w' := by
  have hmf : ∀ (fn : Fn) (first cap : Array Value) (w : World), (Instr.makeFunc fn first cap).run Tryz.prog w = .ok (.func fn first cap) w := fun _ _ _ _ => rfl
  have CB : Hid (∀ W f g b c b' c', Calls Tryz.prog 209 #[.agg #[.slice none 0 0, .slice none 0 0, .map (some M)], .func (.func f) b c, .func (.func g) b' c'] W fun e w' => (∃ O, e = .returned (.map (some O)) ∧ IMap w' O noV ∧ W.heap.size ≤ O) ∧ Below W.heap.size W w') := fun W f g b c b' c' => best_nil M f g b c b' c' W
  have CR : Hid (∀ W, Calls Tryz.prog 210 #[.agg #[.slice none 0 0, .slice none 0 0, .map (some M)]] W fun e w' => (∃ c, e = .returned (.func (.func 239) #[] c)) ∧ Below W.heap.size W w') := fun W => roots_nil M W
  obtain ⟨W1, hW1⟩ : ∃ W, W = w.alloc (.cells #[.slice none 0 0, .slice none 0 0, .map (some M)] 148) := ⟨_, rfl⟩
  have h0 : W1.heap[w.heap.size]? = some (.cells #[.slice none 0 0, .slice none 0 0, .map (some M)] 148) := by rw [hW1]; exact kNew rfl
  have HX1 := hidK h0
  have HB1 : Hid (Below w.heap.size w W1) := by rw [hW1]; exact (Below.refl _ _).alloc (Nat.le_refl _) _
  have HS : Hid (∀ W, Below W1.heap.size W1 W → W.cell? ⟨w.heap.size, 0, none⟩ = some (.slice none 0 0) ∧ W.cell? ⟨w.heap.size, 1, none⟩ = some (.slice none 0 0) ∧ W.cell? ⟨w.heap.size, 2, none⟩ = some (.map (some M))) := fun W hW => by
    obtain ⟨y0, y1, y2, _⟩ := w3 ((hW.block _ (kLt HX1.out)).trans HX1.out)
    exact ⟨y0, y1, y2⟩
  obtain ⟨x0, x1, x2⟩ := HS.out W1 (Below.refl _ _)
  go_enter Tryz.func186, Tryz.ntmps186
  go_upto_region 1 with fail
  rw [← hW1]
  clear hW1 h0
  go_wp2_with (first
    | (go_at_call 209; refine (CB.out _ _ _ _ _ _ _).mono ?_; rintro e w3 ⟨⟨O, rfl, f2, f4⟩, f3⟩; have f1 := f3.size; have F2 := hidK f2; have HB3 : Hid (Below w.heap.size w w3) := HB1.out.trans (f3.mono HB1.out.size); clear CB f1 f2 f3 f4)
    | (refine wpList_irange rfl (.tmp 7) 194 3 rfl Tryz.underlying194 O noV (by simp [Act.eval]) F2.out ?_; intro w4 left4 hr4 hb4; have HR4 := hidK hr4; have HB4 : Hid (Below w.heap.size w w4) := HB3.out.trans (hb4.mono HB3.out.size); clear hr4 hb4))
  generalize hrr : w3.heap.size = r at *
  clear hrr x0 x1 x2
  go_frame
  go_loopw [9] (fun _ wr => (∃ (D : Int → Prop) (left : Nat), IRng wr r O noV D left) ∧ Below w.heap.size w wr) (fun _ wr => 0)
  case atStart => exact ⟨⟨_, _, HR4.out⟩, HB4.out⟩
  case round =>
    obtain ⟨⟨D, left, hrg⟩, hbr⟩ := hrel
    have HR := hidK hrg
    have HBR := hidK hbr
    clear hrg hbr
    go_wp2_with (refine wpList_inext rfl (.tmp 8) rfl r O noV D left (by simp [Act.eval]) HR.out ?_ ?_)
    rotate_left
    · intro x v w5 left5 hx
      cases hx
    · intro _
      go_wp2
      first | go_end0 | refine bodyPost_ret (results_none rfl _ _ _) rfl ?_
      exact ⟨rfl, HBR.out⟩
set_option maxHeartbeats 1600000 in
theorem along_1 (M : Nat) (w : World) : Calls Tryz.prog 129 #[.agg #[.slice none 0 0, .slice none 0 0, .map (some M)], .int .i64 1] w fun e w' => e = .returned (.tuple #[]) ∧ Below w.heap.size w w' := by
  have hmf : ∀ (fn : Fn) (first cap : Array Value) (w : World), (Instr.makeFunc fn first cap).run Tryz.prog w = .ok (.func fn first cap) w := fun _ _ _ _ => rfl
  have CE : Hid (∀ W f b c, Calls Tryz.prog 173 #[.agg #[.slice none 0 0, .slice none 0 0, .map (some M)], .func (.func f) b c] W fun e w' => e = .returned (.tuple #[]) ∧ Below W.heap.size W w') := fun W f b c => each_nil M f b c W
  have CWI : Hid (∀ W, Calls Tryz.prog 178 #[.agg #[.slice none 0 0, .slice none 0 0, .map (some M)]] W fun e w' => (∃ c, e = .returned (.func (.func 207) #[] c)) ∧ Below W.heap.size W w') := fun W => within_nil M W
  go_enter Tryz.func129, Tryz.ntmps129
  go_wp2_with (go_at_call 173; refine (CE.out _ _ _ _).mono ?_; rintro e w2 ⟨rfl, hb2⟩; have HB2 : Hid (Below w.heap.size w w2) := Below.trans ((Below.refl _ _).alloc (Nat.le_refl _) _) (hb2.mono (by simp)); clear hb2)
  first | go_end0 | refine bodyPost_ret (results_none rfl _ _ _) rfl ?_
  exact ⟨rfl, HB2.out⟩
set_option maxHeartbeats 1600000 in
theorem along_2 (M : Nat) (w : World) : Calls Tryz.prog 129 #[.agg #[.slice none 0 0, .slice none 0 0, .map (some M)], .int .i64 2] w fun e w' => e = .returned (.tuple #[]) ∧ Below w.heap.size w w' := by
  have hmf : ∀ (fn : Fn) (first cap : Array Value) (w : World), (Instr.makeFunc fn first cap).run Tryz.prog w = .ok (.func fn first cap) w := fun _ _ _ _ => rfl
  have CE : Hid (∀ W f b c, Calls Tryz.prog 173 #[.agg #[.slice none 0 0, .slice none 0 0, .map (some M)], .func (.func f) b c] W fun e w' => e = .returned (.tuple #[]) ∧ Below W.heap.size W w') := fun W f b c => each_nil M f b c W
  have CWI : Hid (∀ W, Calls Tryz.prog 178 #[.agg #[.slice none 0 0, .slice none 0 0, .map (some M)]] W fun e w' => (∃ c, e = .returned (.func (.func 207) #[] c)) ∧ Below W.heap.size W w') := fun W => within_nil M W
  obtain ⟨W1, hW1⟩ : ∃ W, W = w.alloc (.cells #[.slice none 0 0, .slice none 0 0, .map (some M)] 148) := ⟨_, rfl⟩
  have h0 : W1.heap[w.heap.size]? = some (.cells #[.slice none 0 0, .slice none 0 0, .map (some M)] 148) := by rw [hW1]; exact kNew rfl
  have HX1 := hidK h0
  have HB1 : Hid (Below w.heap.size w W1) := by rw [hW1]; exact (Below.refl _ _).alloc (Nat.le_refl _) _
  have HS : Hid (∀ W, Below W1.heap.size W1 W → W.cell? ⟨w.heap.size, 0, none⟩ = some (.slice none 0 0) ∧ W.cell? ⟨w.heap.size, 1, none⟩ = some (.slice none 0 0) ∧ W.cell? ⟨w.heap.size, 2, none⟩ = some (.map (some M))) := fun W hW => by
    obtain ⟨y0, y1, y2, _⟩ := w3 ((hW.block _ (kLt HX1.out)).trans HX1.out)
    exact ⟨y0, y1, y2⟩
  obtain ⟨x0, x1, x2⟩ := HS.out W1 (Below.refl _ _)
  go_enter Tryz.func129, Tryz.ntmps129
  go_upto_region 5 with fail
  rw [← hW1]
  clear hW1 h0
  have HB2 : Hid (Below W1.heap.size W1 W1) := Below.refl _ _
  go_region_held3 (fun W => W.cell? ⟨w.heap.size, 0, none⟩ = some (.slice none 0 0) ∧ W.cell? ⟨w.heap.size, 1, none⟩ = some (.slice none 0 0) ∧ W.cell? ⟨w.heap.size, 2, none⟩ = some (.map (some M)))
    ((refine HS.out _ ?_; (focus (repeat (first | exact Below.refl _ _ | exact Hid.out (by assumption) | refine Below.setCell ?_ (by first | omega | (simp <;> omega)) _ | refine Below.alloc ?_ (by first | omega | (simp <;> omega)) _ | refine Below.trans ?_ (drewW _ _))))))
    (first
      | (go_at_call 178; refine (CWI.out _).mono ?_; rintro e w3 ⟨⟨cc, rfl⟩, hb3⟩; have HB3 : Hid (Below W1.heap.size W1 w3) := HB2.out.trans (Below.trans (drewW _ _) (hb3.mono (by exact HB2.out.size))); obtain ⟨x0, x1, x2⟩ := HS.out _ HB3.out; clear hb3 CWI)
      | (go_at_call 173; refine (CE.out _ _ _ _).mono ?_; rintro e w4 ⟨rfl, hb4⟩; have HB4 : Hid (Below W1.heap.size W1 w4) := HB3.out.trans (hb4.mono HB3.out.size); obtain ⟨x0, x1, x2⟩ := HS.out _ HB4.out; clear hb4 CE))
  go_wp2
  first | go_end0 | refine bodyPost_ret (results_none rfl _ _ _) rfl ?_
  exact ⟨rfl, HB1.out.trans (HB4.out.mono HB1.out.size)⟩
set_option maxHeartbeats 1600000 in
theorem along_3 (M : Nat) (w : World) : Calls Tryz.prog 129 #[.agg #[.slice none 0 0, .slice none 0 0, .map (some M)], .int .i64 3] w fun e w' => e = .returned (.tuple #[]) ∧ Below w.heap.size w w' := by
  have hmf : ∀ (fn : Fn) (first cap : Array Value) (w : World), (Instr.makeFunc fn first cap).run Tryz.prog w = .ok (.func fn first cap) w := fun _ _ _ _ => rfl
  have CE : Hid (∀ W f b c, Calls Tryz.prog 173 #[.agg #[.slice none 0 0, .slice none 0 0, .map (some M)], .func (.func f) b c] W fun e w' => e = .returned (.tuple #[]) ∧ Below W.heap.size W w') := fun W f b c => each_nil M f b c W
  have CWI : Hid (∀ W, Calls Tryz.prog 178 #[.agg #[.slice none 0 0, .slice none 0 0, .map (some M)]] W fun e w' => (∃ c, e = .returned (.func (.func 207) #[] c)) ∧ Below W.heap.size W w') := fun W => within_nil M W
  obtain ⟨W1, hW1⟩ : ∃ W, W = w.alloc (.cells #[.slice none 0 0, .slice none 0 0, .map (some M)] 148) := ⟨_, rfl⟩
  have h0 : W1.heap[w.heap.size]? = some (.cells #[.slice none 0 0, .slice none 0 0, .map (some M)] 148) := by rw [hW1]; exact kNew rfl
  have HX1 := hidK h0
  have HB1 : Hid (Below w.heap.size w W1) := by rw [hW1]; exact (Below.refl _ _).alloc (Nat.le_refl _) _
  have HS : Hid (∀ W, Below W1.heap.size W1 W → W.cell? ⟨w.heap.size, 0, none⟩ = some (.slice none 0 0) ∧ W.cell? ⟨w.heap.size, 1, none⟩ = some (.slice none 0 0) ∧ W.cell? ⟨w.heap.size, 2, none⟩ = some (.map (some M))) := fun W hW => by
    obtain ⟨y0, y1, y2, _⟩ := w3 ((hW.block _ (kLt HX1.out)).trans HX1.out)
    exact ⟨y0, y1, y2⟩
  obtain ⟨x0, x1, x2⟩ := HS.out W1 (Below.refl _ _)
  go_enter Tryz.func129, Tryz.ntmps129
  go_upto_region 7 with fail
  rw [← hW1]
  clear hW1 h0
  go_upto_region 8 with (go_at_call 173; refine (CE.out _ _ _ _).mono ?_; rintro e w2 ⟨rfl, hb2⟩; have HB2 : Hid (Below W1.heap.size W1 w2) := hb2; clear x0 x1 x2; obtain ⟨x0, x1, x2⟩ := HS.out _ HB2.out; clear hb2)
  go_region_held3 (fun W => W.cell? ⟨w.heap.size, 0, none⟩ = some (.slice none 0 0) ∧ W.cell? ⟨w.heap.size, 1, none⟩ = some (.slice none 0 0) ∧ W.cell? ⟨w.heap.size, 2, none⟩ = some (.map (some M)))
    ((refine HS.out _ ?_; (focus (repeat (first | exact Below.refl _ _ | exact Hid.out (by assumption) | refine Below.setCell ?_ (by first | omega | (simp <;> omega)) _ | refine Below.alloc ?_ (by first | omega | (simp <;> omega)) _ | refine Below.trans ?_ (drewW _ _))))))
    (first
      | (go_at_call 178; refine (CWI.out _).mono ?_; rintro e w3 ⟨⟨cc, rfl⟩, hb3⟩; have HB3 : Hid (Below W1.heap.size W1 w3) := HB2.out.trans (Below.trans (drewW _ _) (hb3.mono (by exact HB2.out.size))); obtain ⟨x0, x1, x2⟩ := HS.out _ HB3.out; clear hb3 CWI)
      | (go_at_call 173; refine (CE.out _ _ _ _).mono ?_; rintro e w4 ⟨rfl, hb4⟩; have HB4 : Hid (Below W1.heap.size W1 w4) := HB3.out.trans (hb4.mono HB3.out.size); obtain ⟨x0, x1, x2⟩ := HS.out _ HB4.out; clear hb4 CE))
  go_wp2
  first | go_end0 | refine bodyPost_ret (results_none rfl _ _ _) rfl ?_
  exact ⟨rfl, HB1.out.trans (HB4.out.mono HB1.out.size)⟩
set_option maxHeartbeats 1600000 in
theorem along_4 (M : Nat) (w : World) : Calls Tryz.prog 129 #[.agg #[.slice none 0 0, .slice none 0 0, .map (some M)], .int .i64 4] w fun e w' => e = .returned (.tuple #[]) ∧ Below w.heap.size w w' := by
  have hmf : ∀ (fn : Fn) (first cap : Array Value) (w : World), (Instr.makeFunc fn first cap).run Tryz.prog w = .ok (.func fn first cap) w := fun _ _ _ _ => rfl
  have CE : Hid (∀ W f b c, Calls Tryz.prog 173 #[.agg #[.slice none 0 0, .slice none 0 0, .map (some M)], .func (.func f) b c] W fun e w' => e = .returned (.tuple #[]) ∧ Below W.heap.size W w') := fun W f b c => each_nil M f b c W
  have CWI : Hid (∀ W, Calls Tryz.prog 178 #[.agg #[.slice none 0 0, .slice none 0 0, .map (some M)]] W fun e w' => (∃ c, e = .returned (.func (.func 207) #[] c)) ∧ Below W.heap.size W w') := fun W => within_nil M W
  go_enter Tryz.func129, Tryz.ntmps129
  go_wp2_with (go_at_call 173; refine (CE.out _ _ _ _).mono ?_; rintro e w2 ⟨rfl, hb2⟩; have HB2 : Hid (Below w.heap.size w w2) := Below.trans ((Below.refl _ _).alloc (Nat.le_refl _) _) (hb2.mono (by simp)); clear hb2)
  first | go_end0 | refine bodyPost_ret (results_none rfl _ _ _) rfl ?_
  exact ⟨rfl, HB2.out⟩
set_option maxHeartbeats 1600000 in
theorem along_5 (M : Nat) (w : World) : Calls Tryz.prog 129 #[.agg #[.slice none 0 0, .slice none 0 0, .map (some M)], .int .i64 5] w fun e w' => e = .returned (.tuple #[]) ∧ Below w.heap.size w w' := by
  have hmf : ∀ (fn : Fn) (first cap : Array Value) (w : World), (Instr.makeFunc fn first cap).run Tryz.prog w = .ok (.func fn first cap) w := fun _ _ _ _ => rfl
  have CE : Hid (∀ W f b c, Calls Tryz.prog 173 #[.agg #[.slice none 0 0, .slice none 0 0, .map (some M)], .func (.func f) b c] W fun e w' => e = .returned (.tuple #[]) ∧ Below W.heap.size W w') := fun W f b c => each_nil M f b c W
  have CWI : Hid (∀ W, Calls Tryz.prog 178 #[.agg #[.slice none 0 0, .slice none 0 0, .map (some M)]] W fun e w' => (∃ c, e = .returned (.func (.func 207) #[] c)) ∧ Below W.heap.size W w') := fun W => within_nil M W
  go_enter Tryz.func129, Tryz.ntmps129
  go_wp2_with (go_at_call 173; refine (CE.out _ _ _ _).mono ?_; rintro e w2 ⟨rfl, hb2⟩; have HB2 : Hid (Below w.heap.size w w2) := Below.trans ((Below.refl _ _).alloc (Nat.le_refl _) _) (hb2.mono (by simp)); clear hb2)
  first | go_end0 | refine bodyPost_ret (results_none rfl _ _ _) rfl ?_
  exact ⟨rfl, HB2.out⟩
set_option maxHeartbeats 1600000 in
theorem along_6 (M : Nat) (w : World) : Calls Tryz.prog 129 #[.agg #[.slice none 0 0, .slice none 0 0, .map (some M)], .int .i64 6] w fun e w' => e = .returned (.tuple #[]) ∧ Below w.heap.size w w' := by
  have hmf : ∀ (fn : Fn) (first cap : Array Value) (w : World), (Instr.makeFunc fn first cap).run Tryz.prog w = .ok (.func fn first cap) w := fun _ _ _ _ => rfl
  have CE : Hid (∀ W f b c, Calls Tryz.prog 173 #[.agg #[.slice none 0 0, .slice none 0 0, .map (some M)], .func (.func f) b c] W fun e w' => e = .returned (.tuple #[]) ∧ Below W.heap.size W w') := fun W f b c => each_nil M f b c W
  have CWI : Hid (∀ W, Calls Tryz.prog 178 #[.agg #[.slice none 0 0, .slice none 0 0, .map (some M)]] W fun e w' => (∃ c, e = .returned (.func (.func 207) #[] c)) ∧ Below W.heap.size W w') := fun W => within_nil M W
  go_enter Tryz.func129, Tryz.ntmps129
  go_wp2_with (go_at_call 173; refine (CE.out _ _ _ _).mono ?_; rintro e w2 ⟨rfl, hb2⟩; have HB2 : Hid (Below w.heap.size w w2) := Below.trans ((Below.refl _ _).alloc (Nat.le_refl _) _) (hb2.mono (by simp)); clear hb2)
  first | go_end0 | refine bodyPost_ret (results_none rfl _ _ _) rfl ?_
  exact ⟨rfl, HB2.out⟩
set_option maxHeartbeats 1600000 in
theorem along_7 (M : Nat) (w : World) : Calls Tryz.prog 129 #[.agg #[.slice none 0 0, .slice none 0 0, .map (some M)], .int .i64 7] w fun e w' => e = .returned (.tuple #[]) ∧ Below w.heap.size w w' := by
  have hmf : ∀ (fn : Fn) (first cap : Array Value) (w : World), (Instr.makeFunc fn first cap).run Tryz.prog w = .ok (.func fn first cap) w := fun _ _ _ _ => rfl
  have CE : Hid (∀ W f b c, Calls Tryz.prog 173 #[.agg #[.slice none 0 0, .slice none 0 0, .map (some M)], .func (.func f) b c] W fun e w' => e = .returned (.tuple #[]) ∧ Below W.heap.size W w') := fun W f b c => each_nil M f b c W
  have CWI : Hid (∀ W, Calls Tryz.prog 178 #[.agg #[.slice none 0 0, .slice none 0 0, .map (some M)]] W fun e w' => (∃ c, e = .returned (.func (.func 207) #[] c)) ∧ Below W.heap.size W w') := fun W => within_nil M W
  go_enter Tryz.func129, Tryz.ntmps129
  go_wp2_with (go_at_call 173; refine (CE.out _ _ _ _).mono ?_; rintro e w2 ⟨rfl, hb2⟩; have HB2 : Hid (Below w.heap.size w w2) := Below.trans ((Below.refl _ _).alloc (Nat.le_refl _) _) (hb2.mono (by simp)); clear hb2)
  first | go_end0 | refine bodyPost_ret (results_none rfl _ _ _) rfl ?_
  exact ⟨rfl, HB2.out⟩
set_option maxHeartbeats 1600000 in
theorem along_8 (M : Nat) (w : World) : Calls Tryz.prog 129 #[.agg #[.slice none 0 0, .slice none 0 0, .map (some M)], .int .i64 8] w fun e w' => e = .returned (.tuple #[]) ∧ Below w.heap.size w w' := by
  have hmf : ∀ (fn : Fn) (first cap : Array Value) (w : World), (Instr.makeFunc fn first cap).run Tryz.prog w = .ok (.func fn first cap) w := fun _ _ _ _ => rfl
  have CE : Hid (∀ W f b c, Calls Tryz.prog 173 #[.agg #[.slice none 0 0, .slice none 0 0, .map (some M)], .func (.func f) b c] W fun e w' => e = .returned (.tuple #[]) ∧ Below W.heap.size W w') := fun W f b c => each_nil M f b c W
  have CWI : Hid (∀ W, Calls Tryz.prog 178 #[.agg #[.slice none 0 0, .slice none 0 0, .map (some M)]] W fun e w' => (∃ c, e = .returned (.func (.func 207) #[] c)) ∧ Below W.heap.size W w') := fun W => within_nil M W
  have CN : Hid (∀ W, Calls Tryz.prog 183 #[.agg #[.slice none 0 0, .slice none 0 0, .map (some M)]] W fun e w' => e = .returned (.tuple #[]) ∧ Below W.heap.size W w') := fun W => following_nil M W
  go_enter Tryz.func129, Tryz.ntmps129
  go_wp2_with (go_at_call 183; refine (CN.out _).mono ?_; rintro e w2 ⟨rfl, hb2⟩; have HB2 : Hid (Below w.heap.size w w2) := Below.trans ((Below.refl _ _).alloc (Nat.le_refl _) _) (hb2.mono (by simp)); clear hb2)
  first | go_end0 | refine bodyPost_ret (results_none rfl _ _ _) rfl ?_
  exact ⟨rfl, HB2.out⟩
set_option maxHeartbeats 1600000 in
theorem along_9 (M : Nat) (w : World) : Calls Tryz.prog 129 #[.agg #[.slice none 0 0, .slice none 0 0, .map (some M)], .int .i64 9] w fun e w' => e = .returned (.tuple #[]) ∧ Below w.heap.size w w' := by
  have hmf : ∀ (fn : Fn) (first cap : Array Value) (w : World), (Instr.makeFunc fn first cap).run Tryz.prog w = .ok (.func fn first cap) w := fun _ _ _ _ => rfl
  have CE : Hid (∀ W f b c, Calls Tryz.prog 173 #[.agg #[.slice none 0 0, .slice none 0 0, .map (some M)], .func (.func f) b c] W fun e w' => e = .returned (.tuple #[]) ∧ Below W.heap.size W w') := fun W f b c => each_nil M f b c W
  have CWI : Hid (∀ W, Calls Tryz.prog 178 #[.agg #[.slice none 0 0, .slice none 0 0, .map (some M)]] W fun e w' => (∃ c, e = .returned (.func (.func 207) #[] c)) ∧ Below W.heap.size W w') := fun W => within_nil M W
  have CN : Hid (∀ W, Calls Tryz.prog 184 #[.agg #[.slice none 0 0, .slice none 0 0, .map (some M)]] W fun e w' => e = .returned (.tuple #[]) ∧ Below W.heap.size W w') := fun W => preceding_nil M W
  go_enter Tryz.func129, Tryz.ntmps129
  go_wp2_with (go_at_call 184; refine (CN.out _).mono ?_; rintro e w2 ⟨rfl, hb2⟩; have HB2 : Hid (Below w.heap.size w w2) := Below.trans ((Below.refl _ _).alloc (Nat.le_refl _) _) (hb2.mono (by simp)); clear hb2)
  first | go_end0 | refine bodyPost_ret (results_none rfl _ _ _) rfl ?_
  exact ⟨rfl, HB2.out⟩
set_option maxHeartbeats 1600000 in
theorem along_10 (M : Nat) (w : World) : Calls Tryz.prog 129 #[.agg #[.slice none 0 0, .slice none 0 0, .map (some M)], .int .i64 10] w fun e w' => e = .returned (.tuple #[]) ∧ Below w.heap.size w w' := by
  have hmf : ∀ (fn : Fn) (first cap : Array Value) (w : World), (Instr.makeFunc fn first cap).run Tryz.prog w = .ok (.func fn first cap) w := fun _ _ _ _ => rfl
  have CE : Hid (∀ W f b c, Calls Tryz.prog 173 #[.agg #[.slice none 0 0, .slice none 0 0, .map (some M)], .func (.func f) b c] W fun e w' => e = .returned (.tuple #[]) ∧ Below W.heap.size W w') := fun W f b c => each_nil M f b c W
  have CWI : Hid (∀ W, Calls Tryz.prog 178 #[.agg #[.slice none 0 0, .slice none 0 0, .map (some M)]] W fun e w' => (∃ c, e = .returned (.func (.func 207) #[] c)) ∧ Below W.heap.size W w') := fun W => within_nil M W
  have CN : Hid (∀ W, Calls Tryz.prog 185 #[.agg #[.slice none 0 0, .slice none 0 0, .map (some M)]] W fun e w' => e = .returned (.tuple #[]) ∧ Below W.heap.size W w') := fun W => followingSiblings_nil M W
  go_enter Tryz.func129, Tryz.ntmps129
  go_wp2_with (go_at_call 185; refine (CN.out _).mono ?_; rintro e w2 ⟨rfl, hb2⟩; have HB2 : Hid (Below w.heap.size w w2) := Below.trans ((Below.refl _ _).alloc (Nat.le_refl _) _) (hb2.mono (by simp)); clear hb2)
  first | go_end0 | refine bodyPost_ret (results_none rfl _ _ _) rfl ?_
  exact ⟨rfl, HB2.out⟩
set_option maxHeartbeats 1600000 in
theorem along_11 (M : Nat) (w : World) : Calls Tryz.prog 129 #[.agg #[.slice none 0 0, .slice none 0 0, .map (some M)], .int .i64 11] w fun e w' => e = .returned (.tuple #[]) ∧ Below w.heap.size w w' := by
  have hmf : ∀ (fn : Fn) (first cap : Array Value) (w : World), (Instr.makeFunc fn first cap).run Tryz.prog w = .ok (.func fn first cap) w := fun _ _ _ _ => rfl
  have CE : Hid (∀ W f b c, Calls Tryz.prog 173 #[.agg #[.slice none 0 0, .slice none 0 0, .map (some M)], .func (.func f) b c] W fun e w' => e = .returned (.tuple #[]) ∧ Below W.heap.size W w') := fun W f b c => each_nil M f b c W
  have CWI : Hid (∀ W, Calls Tryz.prog 178 #[.agg #[.slice none 0 0, .slice none 0 0, .map (some M)]] W fun e w' => (∃ c, e = .returned (.func (.func 207) #[] c)) ∧ Below W.heap.size W w') := fun W => within_nil M W
  have CN : Hid (∀ W, Calls Tryz.prog 186 #[.agg #[.slice none 0 0, .slice none 0 0, .map (some M)]] W fun e w' => e = .returned (.tuple #[]) ∧ Below W.heap.size W w') := fun W => precedingSiblings_nil M W
  go_enter Tryz.func129, Tryz.ntmps129
  go_wp2_with (go_at_call 186; refine (CN.out _).mono ?_; rintro e w2 ⟨rfl, hb2⟩; have HB2 : Hid (Below w.heap.size w w2) := Below.trans ((Below.refl _ _).alloc (Nat.le_refl _) _) (hb2.mono (by simp)); clear hb2)
  first | go_end0 | refine bodyPost_ret (results_none rfl _ _ _) rfl ?_
  exact ⟨rfl, HB2.out⟩
set_option maxHeartbeats 1600000 in
theorem along_12 (M : Nat) (w : World) : Calls Tryz.prog 129 #[.agg #[.slice none 0 0, .slice none 0 0, .map (some M)], .int .i64 12] w fun e w' => e = .returned (.tuple #[]) ∧ Below w.heap.size w w' := by
  have hmf : ∀ (fn : Fn) (first cap : Array Value) (w : World), (Instr.makeFunc fn first cap).run Tryz.prog w = .ok (.func fn first cap) w := fun _ _ _ _ => rfl
  have CE : Hid (∀ W f b c, Calls Tryz.prog 173 #[.agg #[.slice none 0 0, .slice none 0 0, .map (some M)], .func (.func f) b c] W fun e w' => e = .returned (.tuple #[]) ∧ Below W.heap.size W w') := fun W f b c => each_nil M f b c W
  have CWI : Hid (∀ W, Calls Tryz.prog 178 #[.agg #[.slice none 0 0, .slice none 0 0, .map (some M)]] W fun e w' => (∃ c, e = .returned (.func (.func 207) #[] c)) ∧ Below W.heap.size W w') := fun W => within_nil M W
  go_enter Tryz.func129, Tryz.ntmps129
  go_wp2_with (go_at_call 173; refine (CE.out _ _ _ _).mono ?_; rintro e w2 ⟨rfl, hb2⟩; have HB2 : Hid (Below w.heap.size w w2) := Below.trans ((Below.refl _ _).alloc (Nat.le_refl _) _) (hb2.mono (by simp)); clear hb2)
  first | go_end0 | refine bodyPost_ret (results_none rfl _ _ _) rfl ?_
  exact ⟨rfl, HB2.out⟩
theorem along_nil (M : Nat) (axis : Int) (w : World) (h1 : 1 ≤ axis) (h2 : axis ≤ 12) : Calls Tryz.prog 129 #[.agg #[.slice none 0 0, .slice none 0 0, .map (some M)], .int .i64 axis] w fun e w' => e = .returned (.tuple #[]) ∧ Below w.heap.size w w' := by
  have hc : axis = 1 ∨ axis = 2 ∨ axis = 3 ∨ axis = 4 ∨ axis = 5 ∨ axis = 6 ∨ axis = 7 ∨ axis = 8 ∨ axis = 9 ∨ axis = 10 ∨ axis = 11 ∨ axis = 12 := by omega
  rcases hc with rfl | rfl | rfl | rfl | rfl | rfl | rfl | rfl | rfl | rfl | rfl | rfl
  · exact along_1 M w
  · exact along_2 M w
  · exact along_3 M w
  · exact along_4 M w
  · exact along_5 M w
  · exact along_6 M w
  · exact along_7 M w
  · exact along_8 M w
  · exact along_9 M w
  · exact along_10 M w
  · exact along_11 M w
  · exact along_12 M w
end Go.Proofs.YtkcejelmohameaaGreatDoor
