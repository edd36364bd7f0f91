/-
  A POET OF QUERIES (plainly made): CONTRACTS of its next, step, and of query where nothing is deep.
-/
import Derived.Test.YtbpggpnmbfjadaaDoorPoRaw
import Derived.Test.YtbpggpnmbfjadaaDoorPoEat
import Derived.Test.YtbpggpnmbfjadaaDoorPkPick
import Derived.Deep.RegionHeld3
import Derived.Sort.AtCall
set_option linter.unusedVariables false
namespace Go.Proofs.YtbpggpnmbfjadaaDoor
set_option maxRecDepth 100000
open Go.RowKit

/-- only the poet's cells are turned, and memory may have grown -/
def GrowQ (pb : Nat) (w wr : World) : Prop := w.heap.size ≤ wr.heap.size ∧ wr.os = w.os ∧ wr.tape = w.tape ∧ wr.output = w.output ∧ ∀ b, b < w.heap.size → b ≠ pb → wr.heap[b]? = w.heap[b]?
theorem GrowQ.refl (pb : Nat) (w : World) : GrowQ pb w w := ⟨Nat.le_refl _, rfl, rfl, rfl, fun _ _ _ => rfl⟩
theorem GrowQ.below {pb : Nat} {w wr w' : World} (h : GrowQ pb w wr) (hb : Below wr.heap.size wr w') : GrowQ pb w w' := ⟨Nat.le_trans h.1 hb.size, hb.os.trans h.2.1, hb.tape.trans h.2.2.1, hb.output.trans h.2.2.2.1, fun b h1 h2 => (hb.block b (Nat.lt_of_lt_of_le h1 h.1)).trans (h.2.2.2.2 b h1 h2)⟩
theorem GrowQ.trans {pb : Nat} {a b c : World} (h : GrowQ pb a b) (h' : GrowQ pb b c) : GrowQ pb a c := ⟨Nat.le_trans h.1 h'.1, h'.2.1.trans h.2.1, h'.2.2.1.trans h.2.2.1, h'.2.2.2.1.trans h.2.2.2.1, fun k h1 hk => (h'.2.2.2.2 k (Nat.lt_of_lt_of_le h1 h.1) hk).trans (h.2.2.2.2 k h1 hk)⟩
theorem GrowQ.alloc {pb : Nat} {w wr : World} (h : GrowQ pb w wr) (o : Obj) : GrowQ pb w (wr.alloc o) := h.below ((Below.refl _ _).alloc (Nat.le_refl _) o)
theorem GrowQ.drew {pb : Nat} {w wr : World} (h : GrowQ pb w wr) : GrowQ pb w wr.drew := h
theorem GrowQ.set {pb : Nat} {w wr : World} (h : GrowQ pb w wr) (t : Nat) (u : Value) : GrowQ pb w (wr.setCell ⟨pb, t, none⟩ u) := ⟨by simpa using h.1, h.2.1, h.2.2.1, h.2.2.2.1, fun b h1 h2 => (Below.heap_setCell _ _ _ _ (by simpa using h2)).trans (h.2.2.2.2 b h1 h2)⟩
theorem GrowQ.low {pb : Nat} {w w' : World} (h : GrowQ pb w w') (hp : pb ≤ w.heap.size) : Below pb w w' := ⟨h.2.1, h.2.2.1, h.2.2.2.1, h.1, fun b hb => h.2.2.2.2 b (by omega) (by omega)⟩
theorem GrowQ.cell {pb : Nat} {w w' : World} (h : GrowQ pb w w') {b k : Nat} (hb : b < w.heap.size) (hn : b ≠ pb) : w'.cell? ⟨b, k, none⟩ = w.cell? ⟨b, k, none⟩ := World.cell?_of_block (h.2.2.2.2 b hb hn)
/-- the poet's cells -/
def PoAt (w : World) (pb : Nat) (v : Value) (d : Bool) : Prop := w.cell? ⟨pb, 0, none⟩ = some v ∧ w.cell? ⟨pb, 1, none⟩ = some (.bool d) ∧ w.frozen? ⟨pb, 0, none⟩ = false ∧ w.frozen? ⟨pb, 1, none⟩ = false ∧ pb < w.heap.size
theorem PoAt.below {w w' : World} {pb : Nat} {v : Value} {d : Bool} (h : PoAt w pb v d) (hb : Below w.heap.size w w') : PoAt w' pb v d := by
  obtain ⟨h0, h1, h2, h3, h4⟩ := h
  exact ⟨(hb.cell (p := ⟨pb, 0, none⟩) h4).trans h0, (hb.cell (p := ⟨pb, 1, none⟩) h4).trans h1, (hb.frozen (p := ⟨pb, 0, none⟩) h4).trans h2, (hb.frozen (p := ⟨pb, 1, none⟩) h4).trans h3, Nat.lt_of_lt_of_le h4 hb.size⟩
theorem PoAt.setL {w : World} {pb : Nat} {v : Value} {d : Bool} (h : PoAt w pb v d) (u : Value) : PoAt (w.setCell ⟨pb, 0, none⟩ u) pb u d := by
  obtain ⟨h0, h1, h2, h3, h4⟩ := h
  exact ⟨by simp [go_sem, h0], by simp [go_sem, h1], by simp [go_sem, h2], by simp [go_sem, h3], by simpa using h4⟩
theorem PoAt.setD {w : World} {pb : Nat} {v : Value} {d : Bool} (h : PoAt w pb v d) (e : Bool) : PoAt (w.setCell ⟨pb, 1, none⟩ (.bool e)) pb v e := by
  obtain ⟨h0, h1, h2, h3, h4⟩ := h
  exact ⟨by simp [go_sem, h0], by simp [go_sem, h1], by simp [go_sem, h2], by simp [go_sem, h3], by simpa using h4⟩
/-- the poet, above a base in which the raw things lie -/
structure PoS (w0 w : World) (pb : Nat) (d : Bool) : Prop where
  size : w0.heap.size = pb
  st : ∃ v n X, PoAt w pb v d ∧ RawsIs w0 v n X ∧ RawsFine n X
  lo : Below pb w0 w
theorem PoS.below {w0 w w' : World} {pb : Nat} {d : Bool} (h : PoS w0 w pb d) (hb : Below w.heap.size w w') : PoS w0 w' pb d := by
  obtain ⟨hz, ⟨v, n, X, h1, h2, h3⟩, lo⟩ := h
  exact ⟨hz, ⟨v, n, X, h1.below hb, h2, h3⟩, lo.trans (hb.mono (by have := h1.2.2.2.2; omega))⟩
theorem PoS.lt {w0 w : World} {pb : Nat} {d : Bool} (h : PoS w0 w pb d) : pb < w.heap.size := by
  obtain ⟨v, n, X, h1, _⟩ := h.st
  exact h1.2.2.2.2
def rwV (r : Rw) : Value := .agg #[.int .i64 r.k, .int .i64 r.a, .int .i64 r.b, .int .i64 r.c, .string r.t]
def RwFine (r : Rw) : Prop := i64 r.k ∧ i64 r.a ∧ i64 r.b ∧ i64 r.c ∧ r.t.size ≤ maxLen
set_option maxHeartbeats 1600000 in
theorem next_is {w0 w : World} {pb : Nat} {d : Bool} (h : PoS w0 w pb d) :
    Calls Tryd.prog 18 #[.pointer (some ⟨pb, 0, none⟩)] w fun e w' => ∃ r, e = .returned (.agg #[.int .i64 r.k, .int .i64 r.a, .int .i64 r.b, .int .i64 r.c, .string r.t]) ∧ RwFine r ∧ GrowQ pb w w' ∧ PoS w0 w' pb d := by
  have HS : Hid (PoS w0 w pb d) := h
  obtain ⟨hz, ⟨v, n, X, hp, hr, hf⟩, lo⟩ := h
  have HP : Hid (PoAt w pb v d) := hp
  have HR : Hid (RawsIs w0 v n X) := hr
  have HF : Hid (RawsFine n X) := hf
  have HLO : Hid (Below pb w0 w) := lo
  obtain ⟨a, cap, rfl, hnc, hcm, hx⟩ := hr
  obtain ⟨h0, h1, h2, h3, h4⟩ := hp
  unfold maxLen at hcm
  by_cases e0 : n = 0
  · subst e0
    clear hf lo hx
    go_enter Tryd.func18, Tryd.ntmps18
    go_wp2
    refine bodyPost_ret (v := .agg #[.int .i64 0, .int .i64 0, .int .i64 0, .int .i64 0, .string ⟨#[]⟩]) (by simp [results, Tryd.results18, go_sem]) rfl ⟨⟨0, 0, 0, 0, ⟨#[]⟩⟩, rfl, ⟨⟨by decide, by decide⟩, ⟨by decide, by decide⟩, ⟨by decide, by decide⟩, ⟨by decide, by decide⟩, by show (0 : Nat) ≤ maxLen; unfold maxLen; omega⟩, (GrowQ.refl _ _).alloc _, HS.out.below ((Below.refl _ _).alloc (Nat.le_refl _) _)⟩
  · obtain ⟨b, off, rfl, hb, hraw⟩ := hx (by omega)
    obtain ⟨r0, r1, r2, r3, r4⟩ := hraw 0 (by omega)
    rw [Nat.zero_mul, Nat.add_zero] at r0 r1 r2 r3 r4
    have hbp : b < pb := by omega
    have x0 := (lo.cell (p := ⟨b, off, none⟩) hbp).trans r0
    have x1 := (lo.cell (p := ⟨b, off + 1, none⟩) hbp).trans r1
    have x2 := (lo.cell (p := ⟨b, off + 2, none⟩) hbp).trans r2
    have x3 := (lo.cell (p := ⟨b, off + 3, none⟩) hbp).trans r3
    have x4 := (lo.cell (p := ⟨b, off + 4, none⟩) hbp).trans r4
    have HFX : Hid (RwFine (X 0)) := hf 0 (by omega)
    have HTL : Hid (∀ u, ((cap = 1 ∧ ∃ u1, u = .slice u1 0 0) ∨ (¬ cap = 1 ∧ u = .slice (some ⟨b, off + 5, none⟩) (n - 1) (cap - 1))) → RawsIs w0 u (n - 1) (fun i => X (i + 1)) ∧ RawsFine (n - 1) (fun i => X (i + 1))) := by
      intro u hu
      refine ⟨?_, fun i hi => HF.out (i + 1) (by omega)⟩
      rcases hu with ⟨hc, u1, rfl⟩ | ⟨hc, rfl⟩
      · rw [show n - 1 = 0 by omega]
        exact ⟨_, _, rfl, Nat.le_refl _, Nat.zero_le _, fun h => absurd h (Nat.lt_irrefl 0)⟩
      · refine ⟨_, _, rfl, by omega, by unfold maxLen; omega, fun _ => ⟨b, off + 5, rfl, hb, fun i hi => ?_⟩⟩
        have := hraw (i + 1) (by omega)
        rw [show off + (i + 1) * 5 = off + 5 + i * 5 by omega] at this
        exact this
    generalize X 0 = x at x0 x1 x2 x3 x4 HFX
    clear hf lo hx hraw r0 r1 r2 r3 r4
    have hbw : b < w.heap.size := by omega
    have hbn : ¬ b = pb := by omega
    have hni : ¬ (n : Int) = 0 := by omega
    have hnb : ((n : Int) == 0) = false := by rw [beq_eq_false_iff_ne]; exact hni
    have hn1 : (1 : Int) ≤ (n : Int) := by omega
    have hn0 : (0 : Int) < (n : Int) := by omega
    have hcc : (n : Int) ≤ (cap : Int) := by omega
    by_cases hc1 : cap = 1
    · have en : n = 1 := by omega
      subst hc1
      subst en
      go_enter Tryd.func18, Tryd.ntmps18
      go_wp2
      refine bodyPost_ret (v := .agg #[.int .i64 x.k, .int .i64 x.a, .int .i64 x.b, .int .i64 x.c, .string x.t]) (by simp [results, Tryd.results18, go_sem]) rfl ⟨x, rfl, HFX.out, (((GrowQ.refl _ _).set 0 _).alloc _).alloc _, ?_⟩
      have hT := HTL.out (.slice (some ⟨b, off, none⟩) 0 0) (by first | exact .inl ⟨rfl, _, rfl⟩ | exact .inl ⟨trivial, _, rfl⟩)
      exact PoS.below (w := w.setCell ⟨pb, 0, none⟩ (.slice (some ⟨b, off, none⟩) 0 0)) ⟨hz, ⟨(.slice (some ⟨b, off, none⟩) 0 0), (1 - 1), _, HP.out.setL _, hT.1, hT.2⟩, HLO.out.trans (((GrowQ.refl pb w).set 0 _).low (by omega))⟩ (((Below.refl _ _).alloc (Nat.le_refl _) _).alloc (by simp) _)
    · have hc2 : ¬ (cap : Int) = 1 := by omega
      go_enter Tryd.func18, Tryd.ntmps18
      go_wp2
      refine bodyPost_ret (v := .agg #[.int .i64 x.k, .int .i64 x.a, .int .i64 x.b, .int .i64 x.c, .string x.t]) (by simp [results, Tryd.results18, go_sem]) rfl ⟨x, rfl, HFX.out, (((GrowQ.refl _ _).set 0 _).alloc _).alloc _, ?_⟩
      have hT := HTL.out (.slice (some ⟨b, off + 5, none⟩) (n - 1) (cap - 1)) (.inr ⟨hc1, rfl⟩)
      exact PoS.below (w := w.setCell ⟨pb, 0, none⟩ (.slice (some ⟨b, off + 5, none⟩) (n - 1) (cap - 1))) ⟨hz, ⟨(.slice (some ⟨b, off + 5, none⟩) (n - 1) (cap - 1)), (n - 1), _, HP.out.setL _, hT.1, hT.2⟩, HLO.out.trans (((GrowQ.refl pb w).set 0 _).low (by omega))⟩ (((Below.refl _ _).alloc (Nat.le_refl _) _).alloc (by simp) _)
theorem step_cell (w : World) (i : Nat) (hi : i < 18) : (w.alloc (.cells #[.string ⟨#[97]⟩, .string ⟨#[98]⟩, .string ⟨#[42]⟩, .string ⟨#[64, 107]⟩, .string ⟨#[64, 109]⟩, .string ⟨#[46, 46]⟩, .string ⟨#[116, 101, 120, 116, 40, 41]⟩, .string ⟨#[110, 111, 100, 101, 40, 41]⟩, .string ⟨#[100, 101, 115, 99, 101, 110, 100, 97, 110, 116, 58, 58, 97]⟩, .string ⟨#[97, 110, 99, 101, 115, 116, 111, 114, 58, 58, 42]⟩, .string ⟨#[102, 111, 108, 108, 111, 119, 105, 110, 103, 58, 58, 98]⟩, .string ⟨#[112, 114, 101, 99, 101, 100, 105, 110, 103, 58, 58, 42]⟩, .string ⟨#[102, 111, 108, 108, 111, 119, 105, 110, 103, 45, 115, 105, 98, 108, 105, 110, 103, 58, 58, 42]⟩, .string ⟨#[112, 114, 101, 99, 101, 100, 105, 110, 103, 45, 115, 105, 98, 108, 105, 110, 103, 58, 58, 110, 111, 100, 101, 40, 41]⟩, .string ⟨#[115, 101, 108, 102, 58, 58, 99]⟩, .string ⟨#[100, 101, 115, 99, 101, 110, 100, 97, 110, 116, 45, 111, 114, 45, 115, 101, 108, 102, 58, 58, 110, 111, 100, 101, 40, 41]⟩, .string ⟨#[99, 111, 109, 109, 101, 110, 116, 40, 41]⟩, .string ⟨#[99]⟩] 9)).cell? ⟨w.heap.size, i, none⟩ = some (.string ⟨(stepL.getD i []).toArray⟩) := by
  have e : i = 0 ∨ i = 1 ∨ i = 2 ∨ i = 3 ∨ i = 4 ∨ i = 5 ∨ i = 6 ∨ i = 7 ∨ i = 8 ∨ i = 9 ∨ i = 10 ∨ i = 11 ∨ i = 12 ∨ i = 13 ∨ i = 14 ∨ i = 15 ∨ i = 16 ∨ i = 17 := by omega
  rcases e with rfl | rfl | rfl | rfl | rfl | rfl | rfl | rfl | rfl | rfl | rfl | rfl | rfl | rfl | rfl | rfl | rfl | rfl <;> simp [stepL]
theorem q0_cell (w : World) (i : Nat) (hi : i < 5) : (w.alloc (.cells #[.string ⟨#[49]⟩, .string ⟨#[47, 47, 97]⟩, .string ⟨#[34, 120, 34]⟩, .string ⟨#[116, 114, 117, 101, 40, 41]⟩, .string ⟨#[40, 41]⟩] 9)).cell? ⟨w.heap.size, i, none⟩ = some (.string ⟨(q0L.getD i []).toArray⟩) := by
  have e : i = 0 ∨ i = 1 ∨ i = 2 ∨ i = 3 ∨ i = 4 := by omega
  rcases e with rfl | rfl | rfl | rfl | rfl <;> simp [q0L]
theorem base_cell (w : World) (i : Nat) (hi : i < 6) : (w.alloc (.cells #[.string ⟨#[47, 114]⟩, .string ⟨#[47, 47, 97]⟩, .string ⟨#[47, 47, 42]⟩, .string ⟨#[47, 114, 47, 42]⟩, .string ⟨#[47, 47, 64, 107]⟩, .string ⟨#[47, 47, 116, 101, 120, 116, 40, 41]⟩] 9)).cell? ⟨w.heap.size, i, none⟩ = some (.string ⟨(baseL.getD i []).toArray⟩) := by
  have e : i = 0 ∨ i = 1 ∨ i = 2 ∨ i = 3 ∨ i = 4 ∨ i = 5 := by omega
  rcases e with rfl | rfl | rfl | rfl | rfl | rfl <;> simp [baseL]
theorem pk_nat {n : Int} {m : Nat} (h : 0 < m) : ∃ i : Nat, pk n m = i ∧ i < m := by
  have := pk_range (n := n) (many := m) (by omega)
  exact ⟨(pk n m).toNat, by omega, by omega⟩
set_option maxHeartbeats 1600000 in
theorem step_is (pb : Nat) (r : Rw) (w : World) (hr : RwFine r) :
    Calls Tryd.prog 36 #[.pointer (some ⟨pb, 0, none⟩), .agg #[.int .i64 r.k, .int .i64 r.a, .int .i64 r.b, .int .i64 r.c, .string r.t]] w fun e w' => ∃ i, i < 18 ∧ e = .returned (.string ⟨(stepL.getD i []).toArray⟩) ∧ Below w.heap.size w w' := by
  obtain ⟨i, hi, hi18⟩ := pk_nat (n := r.b) (m := 18) (by omega)
  have CK : Hid (∀ W, Calls Tryd.prog 19 #[.int .i64 r.b, .int .i64 18] W fun e w' => e = .returned (.int .i64 i) ∧ W = w') := fun W => (picked_is r.b 18 W hr.2.2.1 (by omega) (by omega)).mono fun e w' ⟨k1, k2⟩ => ⟨by rw [k1]; exact ret_int hi, k2.symm⟩
  have hii : (i : Int) < 18 := by omega
  clear hi hr
  have hc := step_cell (w.alloc (.cells #[.int .i64 r.k, .int .i64 r.a, .int .i64 r.b, .int .i64 r.c, .string r.t] 52)) i hi18
  rw [show (w.alloc (.cells #[.int .i64 r.k, .int .i64 r.a, .int .i64 r.b, .int .i64 r.c, .string r.t] 52)).heap.size = w.heap.size + 1 by simp] at hc
  obtain ⟨z, hz⟩ : ∃ z, z = stepL.getD i [] := ⟨_, rfl⟩
  have HZ : Hid (z = stepL.getD i []) := hz
  rw [← hz] at hc
  clear hz
  go_enter Tryd.func36, Tryd.ntmps36
  go_wp2_with (first | (go_at_call 19; refine (CK.out _).mono ?_; rintro e w4 ⟨rfl, rfl⟩))
  all_goals
    exact bodyPost_ret (v := .string ⟨z.toArray⟩) (by simp [results, Tryd.results36, go_sem]) rfl ⟨i, hi18, by rw [HZ.out], ((Below.refl _ _).alloc (Nat.le_refl _) _).alloc (by simp) _⟩
set_option maxHeartbeats 1600000 in
theorem query0_is {w0 w : World} {pb : Nat} {d : Bool} (h : PoS w0 w pb d) :
    Calls Tryd.prog 9 #[.pointer (some ⟨pb, 0, none⟩), .int .i64 0] w fun e w' => ∃ i, i < 5 ∧ e = .returned (.string ⟨(q0L.getD i []).toArray⟩) ∧ GrowQ pb w w' ∧ PoS w0 w' pb d := by
  have CN : Hid (Calls Tryd.prog 18 #[.pointer (some ⟨pb, 0, none⟩)] w fun e w' => ∃ r, e = .returned (.agg #[.int .i64 r.k, .int .i64 r.a, .int .i64 r.b, .int .i64 r.c, .string r.t]) ∧ RwFine r ∧ GrowQ pb w w' ∧ PoS w0 w' pb d) := next_is h
  clear h
  go_enter Tryd.func9, Tryd.ntmps9
  go_upto_region 3 with (first
    | (go_at_call 18; refine CN.out.mono ?_; rintro e w1 ⟨r, rfl, hr, hg1, hp1⟩; have HG1 : Hid (GrowQ pb w w1) := hg1; have HP1 : Hid (PoS w0 w1 pb d) := hp1; have HR : Hid (RwFine r) := hr; clear hg1 hp1 hr))
  obtain ⟨i, hi, hi5⟩ := pk_nat (n := r.k) (m := 5) (by omega)
  have CK : Hid (∀ W, Calls Tryd.prog 19 #[.int .i64 r.k, .int .i64 5] W fun e w' => e = .returned (.int .i64 i) ∧ W = w') := fun W => (picked_is r.k 5 W HR.out.1 (by omega) (by omega)).mono fun e w' ⟨k1, k2⟩ => ⟨by rw [k1]; exact ret_int hi, k2.symm⟩
  have hii : (i : Int) < 5 := by omega
  clear hi
  have hc := q0_cell (w1.alloc (.cells #[.int .i64 r.k, .int .i64 r.a, .int .i64 r.b, .int .i64 r.c, .string r.t] 52)) i hi5
  rw [show (w1.alloc (.cells #[.int .i64 r.k, .int .i64 r.a, .int .i64 r.b, .int .i64 r.c, .string r.t] 52)).heap.size = w1.heap.size + 1 by simp] at hc
  obtain ⟨z, hz⟩ : ∃ z, z = q0L.getD i [] := ⟨_, rfl⟩
  have HZ : Hid (z = q0L.getD i []) := hz
  rw [← hz] at hc
  clear hz
  go_wp2_with (first | (go_at_call 19; refine (CK.out _).mono ?_; rintro e w4 ⟨rfl, rfl⟩))
  all_goals
    exact bodyPost_ret (v := .string ⟨z.toArray⟩) (by simp [results, Tryd.results9, go_sem]) rfl ⟨i, hi5, by rw [HZ.out], (HG1.out.alloc _).alloc _, HP1.out.below (((Below.refl _ _).alloc (Nat.le_refl _) _).alloc (by simp) _)⟩
end Go.Proofs.YtbpggpnmbfjadaaDoor
