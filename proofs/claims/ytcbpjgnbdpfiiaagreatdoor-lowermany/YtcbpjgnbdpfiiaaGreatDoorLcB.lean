/-
  CONTRACTS of package core: Lower of a Flwor whose clauses are refused ahead of their expressions.
-/
import Derived.Test.YtcbpjgnbdpfiiaaGreatDoorCkLook2
import Derived.Test.YtcbpjgnbdpfiiaaGreatDoorTkOpen
import Derived.Test.YtcbpjgnbdpfiiaaGreatDoorLaidP
import Derived.Test.YtcbpjgnbdpfiiaaGreatDoorRgIn
set_option linter.unusedVariables false
namespace Go.Proofs.YtcbpjgnbdpfiiaaGreatDoor
set_option maxRecDepth 100000
open Go.RowKit Go.WideShapes

/-- the cells of a phrase -/
structure PhAt (w : World) (b off : Nat) (k : Int) (it : It) (nm : ByteArray) (n ax tk : Int) (tn : ByteArray) (av cv : Value) : Prop where
  c0 : w.cell? ⟨b, off, none⟩ = some (.int .i64 k)
  c1 : w.cell? ⟨b, off + 1, none⟩ = some (.int .i64 it.kind)
  c2 : w.cell? ⟨b, off + 2, none⟩ = some (.int .i64 it.n)
  c3 : w.cell? ⟨b, off + 3, none⟩ = some (.string it.s)
  c4 : w.cell? ⟨b, off + 4, none⟩ = some (.string nm)
  c5 : w.cell? ⟨b, off + 5, none⟩ = some (.int .i64 n)
  c6 : w.cell? ⟨b, off + 6, none⟩ = some (.int .i64 ax)
  c7 : w.cell? ⟨b, off + 7, none⟩ = some (.int .i64 tk)
  c8 : w.cell? ⟨b, off + 8, none⟩ = some (.string tn)
  c9 : w.cell? ⟨b, off + 9, none⟩ = some av
  c10 : w.cell? ⟨b, off + 10, none⟩ = some cv
theorem PhAt.below {w w' : World} {B b off : Nat} {k : Int} {it : It} {nm : ByteArray} {n ax tk : Int} {tn : ByteArray} {av cv : Value} (h : PhAt w b off k it nm n ax tk tn av cv) (hb : Below B w w') (hB : b < B) : PhAt w' b off k it nm n ax tk tn av cv :=
  have e := fun o => hb.cell (p := ⟨b, o, none⟩) hB
  ⟨(e _).trans h.c0, (e _).trans h.c1, (e _).trans h.c2, (e _).trans h.c3, (e _).trans h.c4, (e _).trans h.c5, (e _).trans h.c6, (e _).trans h.c7, (e _).trans h.c8, (e _).trans h.c9, (e _).trans h.c10⟩
theorem bk5 {w : World} {b : Nat} {x y z t u : Value} {T : TypeId} (h : w.heap[b]? = some (.cells #[x, y, z, t, u] T)) : w.cell? ⟨b, 0, none⟩ = some x ∧ w.cell? ⟨b, 1, none⟩ = some y ∧ w.cell? ⟨b, 2, none⟩ = some z ∧ w.cell? ⟨b, 3, none⟩ = some t ∧ w.cell? ⟨b, 4, none⟩ = some u ∧ (∀ o, w.frozen? ⟨b, o, none⟩ = false) ∧ b < w.heap.size :=
  ⟨by rw [Lib.cell_of_heap h]; rfl, by rw [Lib.cell_of_heap h]; rfl, by rw [Lib.cell_of_heap h]; rfl, by rw [Lib.cell_of_heap h]; rfl, by rw [Lib.cell_of_heap h]; rfl, fun o => Lib.frozen_of_heap h _, (Array.getElem?_eq_some_iff.1 h).1⟩
theorem bk11 {w : World} {b : Nat} {x0 x1 x2 x3 x4 x5 x6 x7 x8 x9 x10 : Value} {T : TypeId} (h : w.heap[b]? = some (.cells #[x0, x1, x2, x3, x4, x5, x6, x7, x8, x9, x10] T)) : w.cell? ⟨b, 0, none⟩ = some x0 ∧ w.cell? ⟨b, 1, none⟩ = some x1 ∧ w.cell? ⟨b, 2, none⟩ = some x2 ∧ w.cell? ⟨b, 3, none⟩ = some x3 ∧ w.cell? ⟨b, 4, none⟩ = some x4 ∧ w.cell? ⟨b, 5, none⟩ = some x5 ∧ w.cell? ⟨b, 6, none⟩ = some x6 ∧ w.cell? ⟨b, 7, none⟩ = some x7 ∧ w.cell? ⟨b, 8, none⟩ = some x8 ∧ w.cell? ⟨b, 9, none⟩ = some x9 ∧ w.cell? ⟨b, 10, none⟩ = some x10 ∧ (∀ o, w.frozen? ⟨b, o, none⟩ = false) ∧ b < w.heap.size :=
  ⟨by rw [Lib.cell_of_heap h]; rfl, by rw [Lib.cell_of_heap h]; rfl, by rw [Lib.cell_of_heap h]; rfl, by rw [Lib.cell_of_heap h]; rfl, by rw [Lib.cell_of_heap h]; rfl, by rw [Lib.cell_of_heap h]; rfl, by rw [Lib.cell_of_heap h]; rfl, by rw [Lib.cell_of_heap h]; rfl, by rw [Lib.cell_of_heap h]; rfl, by rw [Lib.cell_of_heap h]; rfl, by rw [Lib.cell_of_heap h]; rfl, fun o => Lib.frozen_of_heap h _, (Array.getElem?_eq_some_iff.1 h).1⟩
/-- cells of a block are written, one by one -/
def putL (w : World) (b : Nat) : Nat → List Value → World
  | _, [] => w
  | k, v :: r => putL (w.setCell ⟨b, k, none⟩ v) b (k + 1) r
theorem putL_some {b : Nat} {T : TypeId} : ∀ (vs : List Value) (w : World) (k : Nat) (cs : Array Value), w.heap[b]? = some (.cells cs T) → cs.size = k + vs.length → (putL w b k vs).heap[b]? = some (.cells (cs.toList.take k ++ vs).toArray T)
  | [], w, k, cs, h, hs => by
    rw [putL, h, List.append_nil, List.take_of_length_le (by rw [Array.length_toList, hs]; exact Nat.le_refl _)]
  | v :: r, w, k, cs, h, hs => by
    rw [List.length_cons] at hs
    rw [putL, putL_some r _ (k + 1) _ (heap_set_same h k v) (by rw [Array.size_setIfInBounds]; omega)]
    have e : (cs.setIfInBounds k v).toList.take (k + 1) = cs.toList.take k ++ [v] := by
      rw [Array.toList_setIfInBounds, List.take_add_one, List.getElem?_set_self (by rw [Array.length_toList]; omega), List.take_set_of_le (Nat.le_refl _)]
      rfl
    rw [e, List.append_assoc]
    rfl
theorem putL_same {b : Nat} {T : TypeId} {w : World} {cs : Array Value} (h : w.heap[b]? = some (.cells cs T)) (vs : List Value) (hs : cs.size = vs.length) : (putL w b 0 vs).heap[b]? = some (.cells vs.toArray T) := by
  have := putL_some vs w 0 cs h (by omega)
  rw [List.take_zero, List.nil_append] at this
  exact this
theorem putL_other {b c : Nat} (hn : c ≠ b) : ∀ (vs : List Value) (w : World) (k : Nat), (putL w b k vs).heap[c]? = w.heap[c]?
  | [], _, _ => rfl
  | v :: r, w, k => by rw [putL, putL_other hn r]; exact Below.heap_setCell _ _ _ _ hn
theorem putL_below {b B : Nat} {w0 : World} (hB : B ≤ b) : ∀ (vs : List Value) (w : World) (k : Nat), Below B w0 w → Below B w0 (putL w b k vs)
  | [], _, _, h => h
  | v :: r, w, k, h => putL_below hB r _ (k + 1) (h.setCell hB _)
set_option maxHeartbeats 800000 in
theorem parts_28 (w : World) : Calls Tryz.prog 75 #[.int .i64 28, .int .i64 1] w fun e w' => e = .returned (.int .i64 0) ∧ w' = w := by
  go_enter Tryz.func75, Tryz.ntmps75
  go_wp2
  go_ret
  exact ⟨rfl, rfl⟩
set_option maxHeartbeats 800000 in
theorem parts_1 (w : World) : Calls Tryz.prog 75 #[.int .i64 1, .int .i64 0] w fun e w' => e = .returned (.int .i64 0) ∧ w' = w := by
  go_enter Tryz.func75, Tryz.ntmps75
  go_wp2
  go_ret
  exact ⟨rfl, rfl⟩
set_option maxHeartbeats 3200000 in
theorem alone_flwor (lb b off : Nat) (it : It) (nm : ByteArray) (n ax tk : Int) (tn : ByteArray) (aa : Option Addr) (ac : Nat) (cb co cn cc : Nat) (K : Nat → Int) (NN A : Nat → ByteArray) (w : World) (h : PhAt w b off 28 it nm n ax tk tn (.slice aa 1 ac) (.slice (some ⟨cb, co, none⟩) cn cc)) (hb : b < w.heap.size) (hc : cn ≤ cc) (hm : cc ≤ maxLen) (hcl : ∀ i, i < cn → ClAt w cb (co + i * 15) (K i) (NN i) (A i)) (hcb : cb < w.heap.size) :
    Calls Tryz.prog 48 #[.pointer (some ⟨lb, 0, none⟩), .pointer (some ⟨b, off, none⟩)] w fun e w' => e = .returned (.int .i64 (clF cn K NN A)) ∧ Below w.heap.size w w' := by
  have CC : Hid (∀ W, Below w.heap.size w W → Calls Tryz.prog 83 #[.slice (some ⟨cb, co, none⟩) cn cc] W fun e w' => e = .returned (.int .i64 (clF cn K NN A)) ∧ Below W.heap.size W w') := fun W hW => checkClauses_is cb co cn cc K NN A W hc hm (fun i hi => (hcl i hi).below hW hcb) (Nat.lt_of_lt_of_le hcb hW.size)
  have CP : Hid (∀ W, Calls Tryz.prog 75 #[.int .i64 28, .int .i64 1] W fun e w' => e = .returned (.int .i64 0) ∧ w' = W) := parts_28
  obtain ⟨c0, c1, c2, c3, c4, c5, c6, c7, c8, c9, c10⟩ := h
  generalize clF cn K NN A = R at *
  clear hcl c1 c2 c3 c4 c5 c6 c7 c8
  go_enter Tryz.func48, Tryz.ntmps48
  go_upto_region 1 with fail
  go_quiet ((go_at_call 75; exact Calls.quiet_of_same (CP.out _)))
  obtain ⟨W1, hW1⟩ : ∃ W, W = w.drewN nq := ⟨_, rfl⟩
  have HB1 : Hid (Below w.heap.size w W1) := by rw [hW1]; exact ⟨rfl, rfl, rfl, Nat.le_refl _, fun _ _ => rfl⟩
  rw [← hW1]
  have e0 : W1.cell? ⟨b, off, none⟩ = some (.int .i64 28) := (HB1.out.cell (p := ⟨b, off, none⟩) hb).trans c0
  have e10 : W1.cell? ⟨b, off + 10, none⟩ = some (.slice (some ⟨cb, co, none⟩) cn cc) := (HB1.out.cell (p := ⟨b, off + 10, none⟩) hb).trans c10
  clear hW1 c0 c9 c10
  go_wp2_with (go_at_call 83; refine (CC.out W1 HB1.out).mono ?_; rintro e w2 ⟨rfl, hb2⟩; have HB2 : Hid (Below w.heap.size w w2) := HB1.out.trans (hb2.mono HB1.out.size); clear hb2)
  go_ret
  exact ⟨rfl, HB2.out⟩
end Go.Proofs.YtcbpjgnbdpfiiaaGreatDoor
