/-
  CONTRACTS: the same texts, items, relations (sameTexts, sameItems, sameRel, of package pleacherlaw); a call of a Go function as one step of a region that draws.
-/
import Derived.Test.YtlblomlblibbdaaDoorRlMem
import Derived.Test.YtlblomlblibbdaaDoorRlFault
import Derived.Deep.QuietTactic
import Derived.BigQuiet
set_option linter.unusedVariables false
namespace Go.Proofs.YtlblomlblibbdaaDoor
set_option maxRecDepth 100000
open Go.RowKit

theorem drawn_keep {w wr : World} {b o q : Nat} (h : wr = w.drewN q) : wr.cell? ⟨b, o, none⟩ = w.cell? ⟨b, o, none⟩ := by rw [h]; simp
set_option maxHeartbeats 800000 in
theorem sameTexts_some (b off cap b' off' cap' n : Nat) (C : Nat → ByteArray) (w : World) (hm : n ≤ maxLen) (hc : n ≤ cap) (hc' : n ≤ cap') (hE : StrsAt w b off n C) (hE' : StrsAt w b' off' n C) :
    Calls Tryd.prog 27 #[.slice (some ⟨b, off, none⟩) n cap, .slice (some ⟨b', off', none⟩) n cap'] w fun e w' => e = .returned (.bool true) ∧ ∃ q, w' = w.drewN q := by
  have HE : Hid (StrsAt w b off n C) := hE
  have HE' : Hid (StrsAt w b' off' n C) := hE'
  unfold maxLen at hm
  clear hE hE'
  go_enter Tryd.func27, Tryd.ntmps27
  go_wp2
  go_loopw [5] (fun i wr => ∃ k q : Nat, k ≤ n ∧ i = .int .i64 k ∧ wr = w.drewN q) (fun i _ => n - (intOf i).toNat)
  case atStart => exact ⟨0, 0, Nat.zero_le _, rfl, rfl⟩
  case round =>
    obtain ⟨k, q, hk, rfl, hwr⟩ := hrel
    have HW : Hid (wr = w.drewN q) := hwr
    by_cases hlt : k < n
    · have e1 := (drawn_keep (b := b) (o := off + k) hwr).trans (HE.out k hlt)
      have e2 := (drawn_keep (b := b') (o := off' + k) hwr).trans (HE'.out k hlt)
      have hki : (k : Int) < (n : Int) := by omega
      clear hwr
      go_wp2
      go_quiet (fail)
      go_wp2
      go_roundw
      case rel => exact ⟨k + 1, _, by omega, by go_num, by rw [HW.out, World.drewN_drewN]⟩
      case measure => simp [intOf]; omega
    · clear hwr
      go_wp2
      go_ret
      exact ⟨rfl, q, HW.out⟩
set_option maxHeartbeats 400000 in
theorem sameTexts_zero (a a' : Option Addr) (cap cap' : Nat) (w : World) :
    Calls Tryd.prog 27 #[.slice a 0 cap, .slice a' 0 cap'] w fun e w' => e = .returned (.bool true) ∧ ∃ q, w' = w.drewN q := by
  go_enter Tryd.func27, Tryd.ntmps27
  go_wp2
  go_loop [5] (fun i => i = .int .i64 0) (fun _ => 0)
  case atStart => rfl
  case round =>
    subst hrel
    go_wp2
    go_ret
    exact ⟨rfl, 0, rfl⟩
theorem sameTexts_is (u v : Value) (n : Nat) (C : Nat → ByteArray) (w : World) (hu : StrsIs w u n C) (hv : StrsIs w v n C) :
    Calls Tryd.prog 27 #[u, v] w fun e w' => e = .returned (.bool true) ∧ ∃ q, w' = w.drewN q := by
  obtain ⟨a, cap, rfl, h1, h2, _, h3⟩ := hu
  obtain ⟨a', cap', rfl, h1', h2', _, h3'⟩ := hv
  rcases Nat.eq_zero_or_pos n with hz | hz
  · subst hz
    exact sameTexts_zero a a' cap cap' w
  · obtain ⟨b, off, rfl, h4, h5⟩ := h3 hz
    obtain ⟨b', off', rfl, h4', h5'⟩ := h3' hz
    exact sameTexts_some b off cap b' off' cap' n C w (Nat.le_trans h1 h2) h1 h1' h5 h5'
set_option maxHeartbeats 800000 in
theorem sameItems_some (b off cap b' off' cap' n : Nat) (X : Nat → It) (w : World) (hm : n ≤ maxLen) (hc : n ≤ cap) (hc' : n ≤ cap') (hE : ItsAt w b off n X) (hE' : ItsAt w b' off' n X) :
    Calls Tryd.prog 28 #[.slice (some ⟨b, off, none⟩) n cap, .slice (some ⟨b', off', none⟩) n cap'] w fun e w' => e = .returned (.bool true) ∧ ∃ q, w' = w.drewN q := by
  have HE : Hid (ItsAt w b off n X) := hE
  have HE' : Hid (ItsAt w b' off' n X) := hE'
  unfold maxLen at hm
  clear hE hE'
  go_enter Tryd.func28, Tryd.ntmps28
  go_wp2
  go_loopw [5] (fun i wr => ∃ k q : Nat, k ≤ n ∧ i = .int .i64 k ∧ wr = w.drewN q) (fun i _ => n - (intOf i).toNat)
  case atStart => exact ⟨0, 0, Nat.zero_le _, rfl, rfl⟩
  case round =>
    obtain ⟨k, q, hk, rfl, hwr⟩ := hrel
    have HW : Hid (wr = w.drewN q) := hwr
    by_cases hlt : k < n
    · have e1 := (drawn_keep (b := b) (o := off + k * 3) hwr).trans (HE.out k hlt).1
      have e2 := (drawn_keep (b := b) (o := off + k * 3 + 1) hwr).trans (HE.out k hlt).2.1
      have e3 := (drawn_keep (b := b) (o := off + k * 3 + 2) hwr).trans (HE.out k hlt).2.2
      have f1 := (drawn_keep (b := b') (o := off' + k * 3) hwr).trans (HE'.out k hlt).1
      have f2 := (drawn_keep (b := b') (o := off' + k * 3 + 1) hwr).trans (HE'.out k hlt).2.1
      have f3 := (drawn_keep (b := b') (o := off' + k * 3 + 2) hwr).trans (HE'.out k hlt).2.2
      have hki : (k : Int) < (n : Int) := by omega
      clear hwr
      go_wp2
      go_quiet (fail)
      go_wp2
      go_roundw
      case rel => exact ⟨k + 1, _, by omega, by go_num, by rw [HW.out, World.drewN_drewN]⟩
      case measure => simp [intOf]; omega
    · clear hwr
      go_wp2
      go_ret
      exact ⟨rfl, q, HW.out⟩
set_option maxHeartbeats 400000 in
theorem sameItems_zero (a a' : Option Addr) (cap cap' : Nat) (w : World) :
    Calls Tryd.prog 28 #[.slice a 0 cap, .slice a' 0 cap'] w fun e w' => e = .returned (.bool true) ∧ ∃ q, w' = w.drewN q := by
  go_enter Tryd.func28, Tryd.ntmps28
  go_wp2
  go_loop [5] (fun i => i = .int .i64 0) (fun _ => 0)
  case atStart => rfl
  case round =>
    subst hrel
    go_wp2
    go_ret
    exact ⟨rfl, 0, rfl⟩
theorem sameItems_is (u v : Value) (n : Nat) (X : Nat → It) (w : World) (hu : ItsIs w u n X) (hv : ItsIs w v n X) :
    Calls Tryd.prog 28 #[u, v] w fun e w' => e = .returned (.bool true) ∧ ∃ q, w' = w.drewN q := by
  obtain ⟨a, cap, rfl, h1, h2, _, h3⟩ := hu
  obtain ⟨a', cap', rfl, h1', h2', _, h3'⟩ := hv
  rcases Nat.eq_zero_or_pos n with hz | hz
  · subst hz
    exact sameItems_zero a a' cap cap' w
  · obtain ⟨b, off, rfl, h4, h5⟩ := h3 hz
    obtain ⟨b', off', rfl, h4', h5'⟩ := h3' hz
    exact sameItems_some b off cap b' off' cap' n X w (Nat.le_trans h1 h2) h1 h1' h5 h5'

/-- two relations were boxed -/
theorem box22 {w wr : World} {c q c' q' : Value} {T T' : TypeId} (h : Below ((w.alloc (.cells #[c, q] T)).alloc (.cells #[c', q'] T')).heap.size ((w.alloc (.cells #[c, q] T)).alloc (.cells #[c', q'] T')) wr) :
    wr.cell? ⟨w.heap.size, 0, none⟩ = some c ∧ wr.cell? ⟨w.heap.size, 1, none⟩ = some q ∧ wr.cell? ⟨w.heap.size + 1, 0, none⟩ = some c' ∧ wr.cell? ⟨w.heap.size + 1, 1, none⟩ = some q' ∧ w.heap.size + 1 < wr.heap.size := by
  have hs := h.size
  simp at hs
  refine ⟨(h.cell (p := ⟨w.heap.size, 0, none⟩) (by simp <;> omega)).trans ?_, (h.cell (p := ⟨w.heap.size, 1, none⟩) (by simp <;> omega)).trans ?_, (h.cell (p := ⟨w.heap.size + 1, 0, none⟩) (by simp)).trans ?_, (h.cell (p := ⟨w.heap.size + 1, 1, none⟩) (by simp)).trans ?_, by omega⟩ <;> simp
theorem below_two {w : World} (o o' : Obj) : Below w.heap.size w ((w.alloc o).alloc o') := ((Below.refl _ _).alloc (Nat.le_refl _) _).alloc (by simp) _
set_option maxHeartbeats 1600000 in
theorem sameRel_is (c q c' q' : Value) (n m : Nat) (C : Nat → ByteArray) (R : Nat → Row) (w : World) (hc : StrsIs w c n C) (hq : RowsIs w q m R) (hc' : StrsIs w c' n C) (hq' : RowsIs w q' m R) :
    Calls Tryd.prog 7 #[.agg #[c, q], .agg #[c', q']] w fun e w' => e = .returned (.bool true) ∧ Below w.heap.size w w' := by
  have CT : Hid (∀ o o', Calls Tryd.prog 27 #[c, c'] ((w.alloc o).alloc o') fun e w' => e = .returned (.bool true) ∧ Below ((w.alloc o).alloc o').heap.size ((w.alloc o).alloc o') w') := fun o o' => (sameTexts_is c c' n C _ (hc.below (below_two o o')) (hc'.below (below_two o o'))).mono (fun e w' ⟨h, z, hz⟩ => ⟨h, by rw [hz]; exact below_drawn (Below.refl _ _) _⟩)
  obtain ⟨qa, qcap, rfl, q1, q2, _, q3⟩ := hq
  obtain ⟨qa', qcap', rfl, q1', q2', _, q3'⟩ := hq'
  have hmm : m ≤ 9223372036854775807 := by unfold maxLen at q2; omega
  have HQ : Hid (∀ W i, Below w.heap.size w W → i < m → ∃ b off u b' off' u', qa = some ⟨b, off, none⟩ ∧ qa' = some ⟨b', off', none⟩ ∧ b < w.heap.size ∧ b' < w.heap.size ∧ W.cell? ⟨b, off + i, none⟩ = some u ∧ W.cell? ⟨b', off' + i, none⟩ = some u' ∧ ItsIs W u (R i).len (R i).at_ ∧ ItsIs W u' (R i).len (R i).at_) := fun W i hW hi => by
    obtain ⟨b, off, h1, h2, h3⟩ := q3 (by omega)
    obtain ⟨b', off', h1', h2', h3'⟩ := q3' (by omega)
    obtain ⟨u, h4, h5⟩ := h3 i hi
    obtain ⟨u', h4', h5'⟩ := h3' i hi
    exact ⟨b, off, u, b', off', u', h1, h1', h2, h2', (hW.cell (p := ⟨b, off + i, none⟩) h2).trans h4, (hW.cell (p := ⟨b', off' + i, none⟩) h2').trans h4', h5.below hW, h5'.below hW⟩
  obtain ⟨ca, ccap, rfl, _⟩ := hc
  obtain ⟨ca', ccap', rfl, _⟩ := hc'
  clear q3 q3' q2 q2'
  go_enter Tryd.func7, Tryd.ntmps7
  go_wp2_with (first | (go_at_call 27; refine (CT.out _ _).mono ?_; rintro e w1 ⟨rfl, hb1⟩; have HB1 : Hid (Below _ _ w1) := hb1; obtain ⟨x0, x1, x2, x3, x4⟩ := box22 hb1; clear hb1))
  go_loopw [5] (fun i wr => ∃ k : Nat, k ≤ m ∧ i = .int .i64 k ∧ Below ((w.alloc (.cells #[.slice ca n ccap, .slice qa m qcap] 25)).alloc (.cells #[.slice ca' n ccap', .slice qa' m qcap'] 25)).heap.size ((w.alloc (.cells #[.slice ca n ccap, .slice qa m qcap] 25)).alloc (.cells #[.slice ca' n ccap', .slice qa' m qcap'] 25)) wr) (fun i _ => m - (intOf i).toNat)
  case atStart => exact ⟨0, Nat.zero_le _, rfl, HB1.out⟩
  case round =>
    obtain ⟨k, hk, rfl, hbr⟩ := hrel
    clear x0 x1 x2 x3 x4
    obtain ⟨x0, x1, x2, x3, x4⟩ := box22 hbr
    have HBR : Hid (Below ((w.alloc (.cells #[.slice ca n ccap, .slice qa m qcap] 25)).alloc (.cells #[.slice ca' n ccap', .slice qa' m qcap'] 25)).heap.size ((w.alloc (.cells #[.slice ca n ccap, .slice qa m qcap] 25)).alloc (.cells #[.slice ca' n ccap', .slice qa' m qcap'] 25)) wr) := hbr
    have HBW : Hid (Below w.heap.size w wr) := (below_two _ _).trans (hbr.mono (by simp; omega))
    clear hbr
    by_cases hlt : k < m
    · obtain ⟨b, off, u, b', off', u', rfl, rfl, hb0, hb0', e1, e2, hu, hu'⟩ := HQ.out wr k HBW.out hlt
      have hbz : b < wr.heap.size := by omega
      have hbz' : b' < wr.heap.size := by omega
      have hki : (k : Int) < (m : Int) := by omega
      have CI : Hid (∀ z, Calls Tryd.prog 28 #[u, u'] (wr.drewN z) fun e w' => e = .returned (.bool true) ∧ ∃ q, w' = (wr.drewN z).drewN q) := fun z => sameItems_is u u' _ _ _ (hu.below (below_drawn (Below.refl _ _) z)) (hu'.below (below_drawn (Below.refl _ _) z))
      obtain ⟨ua, ucap, rfl, _⟩ := hu
      obtain ⟨ua', ucap', rfl, _⟩ := hu'
      go_wp2
      go_quiet ((go_at_call 28; exact Calls.quiet_of (CI.out _)))
      go_wp2
      go_roundw
      case rel => exact ⟨k + 1, by omega, by go_num, below_drawn HBR.out _⟩
      case measure => simp [intOf]; omega
    · go_wp2
      go_ret
      exact ⟨rfl, HBW.out⟩

/-- a call of a Go function, as one step of a region that draws -/
theorem wp_call {P : Program} {o : Oper} {a : Act} {w : World} {K : Act → World → Prop} {Q : Exit → Act → World → Prop} (f : FuncId) (args : Array Value) (hrun : (execOp a.eval o).run P w = .ok (.enter f args) w)
    (Post : Value → World → Prop) (hc : Calls P f args w fun e w' => ∃ v, e = .returned v ∧ Post v w') (h : ∀ v w', Post v w' → K (a.put o.dst v) w') : o.wp P a w K Q := by
  unfold Oper.wp
  rw [hrun, Oper.upon_enter]
  refine hc.mono fun e w'' hh => ?_
  obtain ⟨v, rfl, hp⟩ := hh
  exact h v w'' hp
theorem step_call {P : Program} {ops : Array Oper} {o : Oper} {a : Act} {w : World} {K : Act → World → Prop} {Q : Exit → Act → World → Prop} {Z : Prop} (hgd : o.guard = none) (f : FuncId) (args : Array Value) (hrun : (execOp a.eval o).run P w = .ok (.enter f args) w)
    (Post : Value → World → Prop) (hc : Calls P f args w fun e w' => ∃ v, e = .returned v ∧ Post v w') (h : ∀ v w', Post v w' → K (a.put o.dst v) w') : if Region.wanted o (yielded ops a.tmps) = true then Oper.wp P o a w K Q else Z :=
  step_of hgd (wp_call f args hrun Post hc h)
end Go.Proofs.YtlblomlblibbdaaDoor
