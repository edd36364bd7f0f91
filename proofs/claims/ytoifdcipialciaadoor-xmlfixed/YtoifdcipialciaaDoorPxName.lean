/-
  CONTRACT of the parser's name.
-/
import Derived.Test.YtoifdcipialciaaDoorPxSmall
import Derived.Test.YtoifdcipialciaaDoorNames
import Derived.Deep.RegionHeld3
set_option linter.unusedVariables false
namespace Go.Proofs.YtoifdcipialciaaDoor
set_option maxRecDepth 100000
open Go.RowKit

/-- the bytes of a name are passed -/
def nmB (s : ByteArray) (f q : Nat) : Bool := nb (byteAt s q) ((q : Int) == (f : Int))
def nmF (s : ByteArray) (f : Nat) : Nat → Nat → Nat
  | q, 0 => q
  | q, k + 1 => if nmB s f q = true then nmF s f (q + 1) k else q
def nmTo (s : ByteArray) (p : Nat) : Nat := nmF s p p (s.size - p)
theorem nm_step {s : ByteArray} {f q : Nat} (hq : q < s.size) (h : nmB s f q = true) : nmF s f q (s.size - q) = nmF s f (q + 1) (s.size - (q + 1)) := by
  rw [show s.size - q = (s.size - (q + 1)) + 1 by omega, nmF, if_pos h]
theorem nm_stop {s : ByteArray} {f q : Nat} (h : nmB s f q = false) : nmF s f q (s.size - q) = q := by
  cases e : s.size - q with
  | zero => rfl
  | succ k => rw [nmF, if_neg (by rw [h]; decide)]
/-- what is told of a name -/
def nmE (s : ByteArray) (p : Nat) : Int := if nmTo s p = p then stE s p else 0
def nmS (s : ByteArray) (p : Nat) : ByteArray := if nmTo s p = p then ⟨#[]⟩ else s.extract p (nmTo s p)
/-- the parser's cells are turned, and memory may have grown -/
def GrowP (pb : Nat) (w wr : World) : Prop := w.heap.size ≤ wr.heap.size ∧ wr.os = w.os ∧ wr.tape = w.tape ∧ wr.output = w.output ∧ ∀ b, b < w.heap.size → b ≠ pb → wr.heap[b]? = w.heap[b]?
theorem ByP.grow {pb : Nat} {w wr : World} (h : ByP pb w wr) : GrowP pb w wr := ⟨by rw [h.1]; exact Nat.le_refl _, h.2.1, h.2.2.1, h.2.2.2.1, fun b _ hb => h.2.2.2.2 b hb⟩
theorem GrowP.below {pb : Nat} {w wr w' : World} (h : GrowP pb w wr) (hb : Below wr.heap.size wr w') : GrowP pb w w' := ⟨Nat.le_trans h.1 hb.size, hb.os.trans h.2.1, hb.tape.trans h.2.2.1, hb.output.trans h.2.2.2.1, fun b h1 h2 => (hb.block b (Nat.lt_of_lt_of_le h1 h.1)).trans (h.2.2.2.2 b h1 h2)⟩
theorem PCells.below {w w' : World} {pb : Nat} {s : ByteArray} {p : Nat} {ev op : Value} (h : PCells w pb s p ev op) (hb : Below w.heap.size w w') : PCells w' pb s p ev op := by
  obtain ⟨h0, h1, h2, h3, h4, h5, h6, h7⟩ := h
  exact ⟨(hb.cell (p := ⟨pb, 0, none⟩) h7).trans h0, (hb.cell (p := ⟨pb, 1, none⟩) h7).trans h1, (hb.cell (p := ⟨pb, 2, none⟩) h7).trans h2, (hb.cell (p := ⟨pb, 3, none⟩) h7).trans h3, (hb.frozen (p := ⟨pb, 1, none⟩) h7).trans h4, (hb.frozen (p := ⟨pb, 2, none⟩) h7).trans h5, (hb.frozen (p := ⟨pb, 3, none⟩) h7).trans h6, Nat.lt_of_lt_of_le h7 hb.size⟩
theorem below_drawnP {B : Nat} {a w : World} (h : Below B a w) (q : Nat) : Below B a (w.drewN q) := ⟨h.os, h.tape, h.output, h.size, h.block⟩
set_option maxHeartbeats 400000 in
theorem clone_is (s : ByteArray) (w : World) (hs : s.size ≤ 4000) : Calls Tryd.prog 39 #[.string s] w fun e w' => e = .returned (.string s) ∧ Below w.heap.size w w' := by
  have CC : Hid (Calls Tryd.prog 47 #[.string s] w fun e w' => e = .returned (.string s) ∧ Below w.heap.size w w') := Tryd.stringslite_Clone s w (by omega)
  go_enter Tryd.func39, Tryd.ntmps39
  go_wp2_with (first | (go_at_call 47; refine CC.out.mono ?_; rintro e w1 ⟨rfl, hb1⟩))
  all_goals (exact bodyPost_ret (v := .string s) (by simp [results, Tryd.results39, go_sem]) rfl ⟨rfl, hb1⟩)
set_option maxHeartbeats 1600000 in
theorem name_is (pb : Nat) (s : ByteArray) (p : Nat) (ev op : Value) (w : World) (h : PCells w pb s p ev op) (hp : p ≤ s.size) (hs : s.size ≤ 4000) :
    Calls Tryd.prog 23 #[.pointer (some ⟨pb, 0, none⟩)] w fun e w' => e = .returned (.tuple #[.string (nmS s p), .int .i64 (nmE s p)]) ∧ PCells w' pb s (nmTo s p) ev op ∧ GrowP pb w w' := by
  have HP : Hid (PCells w pb s p ev op) := h
  obtain ⟨h0, h1, h2, h3, h4, h5, h6, h7⟩ := h
  go_enter Tryd.func23, Tryd.ntmps23
  go_wp2
  clear h0 h1 h2 h3 h4 h5 h6 h7
  go_loopg [] (s.size - p) (fun g wr => ∃ q : Nat, p ≤ q ∧ q ≤ s.size ∧ g = s.size - q ∧ nmF s p q (s.size - q) = nmTo s p ∧ PCells wr pb s q ev op ∧ ByP pb w wr)
  case atStart => exact ⟨p, Nat.le_refl _, hp, rfl, rfl, HP.out, ByP.refl _ _⟩
  case round =>
    obtain ⟨q, hpq, hq, rfl, hbt, hpc, hby⟩ := hrel
    have HBT : Hid (nmF s p q (s.size - q) = nmTo s p) := hbt
    have HPC : Hid (PCells wr pb s q ev op) := hpc
    have HBY : Hid (ByP pb w wr) := hby
    obtain ⟨h0, h1, h2, h3, h4, h5, h6, h7⟩ := hpc
    clear hbt hby
    have hstop : (q < s.size ∧ nmB s p q = true) ∨ ((q < s.size ∧ nmB s p q = false) ∨ q = s.size) := by
      by_cases hl : q < s.size
      · cases hn : nmB s p q
        · exact .inr (.inl ⟨hl, rfl⟩)
        · exact .inl ⟨hl, rfl⟩
      · exact .inr (.inr (by omega))
    rcases hstop with ⟨hql, hn⟩ | hstop
    · have hqi : (q : Int) < (s.size : Int) := by omega
      have HBE : Hid ((s[q].toNat : Int) = byteAt s q) := byteAt_eq s q hql
      have CN : Hid (∀ z, Calls Tryd.prog 38 #[.int .u8 (s[q].toNat : Int), .bool ((q : Int) == (p : Int))] (wr.drewN z) fun e w' => e = .returned (.bool true) ∧ ∃ z', w' = (wr.drewN z).drewN z') := fun z => by
        have h := isName_any (s[q].toNat : Int) ((q : Int) == (p : Int)) (wr.drewN z)
        rw [HBE.out, show nb (byteAt s q) ((q : Int) == (p : Int)) = true from hn] at h
        rw [HBE.out]
        exact h.mono fun e w' ⟨h1, h2⟩ => ⟨h1, 0, h2⟩
      have HST : Hid (nmF s p (q + 1) (s.size - (q + 1)) = nmTo s p) := (nm_step hql hn).symm.trans HBT.out
      have hwq : IntKind.i64.wrap ((q : Int) + 1) = (q : Int) + 1 := IntWalk.i64_in _ (by omega)
      clear hn
      go_upto_region 2 with fail
      go_quiet ((go_at_call 38; refine Calls.quiet_of (CN.out _)))
      go_wp2
      go_roundg (s.size - (q + 1))
      case rel => exact ⟨q + 1, by omega, by omega, rfl, HST.out, by have h := (HPC.out.drewN nq).at (q + 1); rw [show ((q + 1 : Nat) : Int) = (q : Int) + 1 by simp] at h; exact h, (HBY.out.drewN nq).set _ _⟩
      case measure => omega
    · have HTO : Hid (nmTo s p = q) := by
        have h : nmTo s p = q := by
          rw [← HBT.out]
          rcases hstop with ⟨_, hn⟩ | e
          · exact nm_stop hn
          · rw [e, Nat.sub_self]; rfl
        exact h
      rcases hstop with ⟨hql, hn⟩ | e
      · have hqi : (q : Int) < (s.size : Int) := by omega
        have HBE : Hid ((s[q].toNat : Int) = byteAt s q) := byteAt_eq s q hql
        have CN : Hid (∀ z, Calls Tryd.prog 38 #[.int .u8 (s[q].toNat : Int), .bool ((q : Int) == (p : Int))] (wr.drewN z) fun e w' => e = .returned (.bool false) ∧ ∃ z', w' = (wr.drewN z).drewN z') := fun z => by
          have h := isName_any (s[q].toNat : Int) ((q : Int) == (p : Int)) (wr.drewN z)
          rw [HBE.out, show nb (byteAt s q) ((q : Int) == (p : Int)) = false from hn] at h
          rw [HBE.out]
          exact h.mono fun e w' ⟨h1, h2⟩ => ⟨h1, 0, h2⟩
        clear hn
        by_cases hpq2 : q = p
        · subst hpq2
          have HN1 : Hid (nmTo s q = q) := HTO.out
          have hbq : ((q : Int) == (q : Int)) = true := by simp
          rw [hbq] at CN
          go_upto_region 2 with fail
          go_quiet ((go_at_call 38; refine Calls.quiet_of (CN.out _)))
          obtain ⟨W5, hW5⟩ : ∃ W, W = wr.drewN nq := ⟨_, rfl⟩
          rw [← hW5]
          have HP5 : Hid (PCells W5 pb s q ev op) := by rw [hW5]; exact HPC.out.drewN nq
          have HB5 : Hid (ByP pb w W5) := by rw [hW5]; exact HBY.out.drewN nq
          clear hW5 h0 h1 h2 h3 h4 h5 h6 h7
          obtain ⟨h0, h1, h2, h3, h4, h5, h6, h7⟩ := HP5.out
          go_wp2_with (first | (go_at_call 22; refine (stuck_is pb s q ev op _ HP5.out).mono ?_; rintro e w3 ⟨rfl, hp3, hb3⟩))
          all_goals (exact bodyPost_ret (v := .tuple #[.string ⟨#[]⟩, .int .i64 (stE s q)]) (by simp [results, Tryd.results23, go_sem]) rfl ⟨by unfold nmS nmE; rw [if_pos HN1.out, if_pos HN1.out], by rw [HN1.out]; exact hp3, (HB5.out.trans hb3).grow⟩)
        · have hbq : ((q : Int) == (p : Int)) = false := by rw [beq_eq_false_iff_ne]; omega
          rw [hbq] at CN
          have HN1 : Hid (nmTo s p = q) := HTO.out
          have HN2 : Hid (¬ nmTo s p = p) := fun e => hpq2 (HN1.out.symm.trans e)
          go_upto_region 2 with fail
          go_quiet ((go_at_call 38; refine Calls.quiet_of (CN.out _)))
          obtain ⟨W5, hW5⟩ : ∃ W, W = wr.drewN nq := ⟨_, rfl⟩
          rw [← hW5]
          have HP5 : Hid (PCells W5 pb s q ev op) := by rw [hW5]; exact HPC.out.drewN nq
          have HB5 : Hid (ByP pb w W5) := by rw [hW5]; exact HBY.out.drewN nq
          clear hW5 h0 h1 h2 h3 h4 h5 h6 h7
          obtain ⟨h0, h1, h2, h3, h4, h5, h6, h7⟩ := HP5.out
          have hpi : (p : Int) ≤ (q : Int) := by omega
          have hqs : (q : Int) ≤ (s.size : Int) := by omega
          have CCL : Hid (∀ z, Calls Tryd.prog 39 #[.string (s.extract p q)] (W5.drewN z) fun e w' => e = .returned (.string (s.extract p q)) ∧ Below W5.heap.size W5 w') := fun z => (clone_is (s.extract p q) (W5.drewN z) (by rw [ByteArray.size_extract]; omega)).mono fun e w' ⟨h1, h2⟩ => ⟨h1, (below_drawnP (Below.refl _ _) z).trans h2⟩
          go_upto_region 6 with fail
          go_region_held3 (fun W => W.cell? ⟨pb, 0, none⟩ = some (.string s) ∧ W.cell? ⟨pb, 1, none⟩ = some (.int .i64 (q : Int)) ∧ pb < W.heap.size)
            (first | exact ⟨h0, h1, h7⟩ | exact ⟨g0, g1, g7⟩)
            (first | (go_at_call 39; refine (CCL.out 1).mono ?_; rintro e w6 ⟨rfl, hb6⟩; have g0 := (hb6.cell (p := ⟨pb, 0, none⟩) h7).trans h0; have g1 := (hb6.cell (p := ⟨pb, 1, none⟩) h7).trans h1; have g7 := Nat.lt_of_lt_of_le h7 hb6.size))
          all_goals
            go_split_ands
            go_wp2
            exact bodyPost_ret (v := .tuple #[.string (s.extract p q), .int .i64 0]) (by simp [results, Tryd.results23, go_sem]) rfl ⟨by unfold nmS nmE; rw [if_neg HN2.out, if_neg HN2.out, HN1.out], by rw [HN1.out]; exact HP5.out.below hb6, HB5.out.grow.below hb6⟩
      · have hqi : ¬ (q : Int) < (s.size : Int) := by omega
        clear e
        by_cases hpq2 : q = p
        · subst hpq2
          have HN1 : Hid (nmTo s q = q) := HTO.out
          have hbq : ((q : Int) == (q : Int)) = true := by simp
          go_upto_region 2 with fail
          go_quiet (fail)
          obtain ⟨W5, hW5⟩ : ∃ W, W = wr.drewN nq := ⟨_, rfl⟩
          rw [← hW5]
          have HP5 : Hid (PCells W5 pb s q ev op) := by rw [hW5]; exact HPC.out.drewN nq
          have HB5 : Hid (ByP pb w W5) := by rw [hW5]; exact HBY.out.drewN nq
          clear hW5 h0 h1 h2 h3 h4 h5 h6 h7
          obtain ⟨h0, h1, h2, h3, h4, h5, h6, h7⟩ := HP5.out
          go_wp2_with (first | (go_at_call 22; refine (stuck_is pb s q ev op _ HP5.out).mono ?_; rintro e w3 ⟨rfl, hp3, hb3⟩))
          all_goals (exact bodyPost_ret (v := .tuple #[.string ⟨#[]⟩, .int .i64 (stE s q)]) (by simp [results, Tryd.results23, go_sem]) rfl ⟨by unfold nmS nmE; rw [if_pos HN1.out, if_pos HN1.out], by rw [HN1.out]; exact hp3, (HB5.out.trans hb3).grow⟩)
        · have hbq : ((q : Int) == (p : Int)) = false := by rw [beq_eq_false_iff_ne]; omega
          have HN1 : Hid (nmTo s p = q) := HTO.out
          have HN2 : Hid (¬ nmTo s p = p) := fun e => hpq2 (HN1.out.symm.trans e)
          go_upto_region 2 with fail
          go_quiet (fail)
          obtain ⟨W5, hW5⟩ : ∃ W, W = wr.drewN nq := ⟨_, rfl⟩
          rw [← hW5]
          have HP5 : Hid (PCells W5 pb s q ev op) := by rw [hW5]; exact HPC.out.drewN nq
          have HB5 : Hid (ByP pb w W5) := by rw [hW5]; exact HBY.out.drewN nq
          clear hW5 h0 h1 h2 h3 h4 h5 h6 h7
          obtain ⟨h0, h1, h2, h3, h4, h5, h6, h7⟩ := HP5.out
          have hpi : (p : Int) ≤ (q : Int) := by omega
          have hqs : (q : Int) ≤ (s.size : Int) := by omega
          have CCL : Hid (∀ z, Calls Tryd.prog 39 #[.string (s.extract p q)] (W5.drewN z) fun e w' => e = .returned (.string (s.extract p q)) ∧ Below W5.heap.size W5 w') := fun z => (clone_is (s.extract p q) (W5.drewN z) (by rw [ByteArray.size_extract]; omega)).mono fun e w' ⟨h1, h2⟩ => ⟨h1, (below_drawnP (Below.refl _ _) z).trans h2⟩
          go_upto_region 6 with fail
          go_region_held3 (fun W => W.cell? ⟨pb, 0, none⟩ = some (.string s) ∧ W.cell? ⟨pb, 1, none⟩ = some (.int .i64 (q : Int)) ∧ pb < W.heap.size)
            (first | exact ⟨h0, h1, h7⟩ | exact ⟨g0, g1, g7⟩)
            (first | (go_at_call 39; refine (CCL.out 1).mono ?_; rintro e w6 ⟨rfl, hb6⟩; have g0 := (hb6.cell (p := ⟨pb, 0, none⟩) h7).trans h0; have g1 := (hb6.cell (p := ⟨pb, 1, none⟩) h7).trans h1; have g7 := Nat.lt_of_lt_of_le h7 hb6.size))
          all_goals
            go_split_ands
            go_wp2
            exact bodyPost_ret (v := .tuple #[.string (s.extract p q), .int .i64 0]) (by simp [results, Tryd.results23, go_sem]) rfl ⟨by unfold nmS nmE; rw [if_neg HN2.out, if_neg HN2.out, HN1.out], by rw [HN1.out]; exact HP5.out.below hb6, HB5.out.grow.below hb6⟩
end Go.Proofs.YtoifdcipialciaaDoor
