/-
  THE LIBRARY's slices.Backward over the clauses of a lowering: its iterator's contract.
-/
import Derived.RangeFuncNested
import Derived.RangeFuncBound
import Derived.RangeFuncCalls
import Derived.RangeFuncLeaves
import Derived.Shelf.Abstract
import Derived.Shelf.RegionOpen
import Derived.WalkKit
import Derived.OwnWalkIn
import Derived.TacticsInMore
import Derived.LoopNIn
import Derived.LoopIn
import Derived.Test.YtkhlfdnlpimojaaDoorLcE
set_option linter.unusedVariables false
namespace Go.Proofs.YtkhlfdnlpimojaaDoor
set_option maxRecDepth 100000
open Go.RowKit Go.WideShapes Go.Shelf
attribute [local go_sem] Oper.semAt_some

/-- a clause of the lowering: where the clause lies, and its expression -/
structure CV where
  pb : Nat
  po : Nat
  k : Int
  it : It
  nm : ByteArray
  at_ : ByteArray
  n : Int
  ax : Int
  tk : Int
  tn : ByteArray
  aa : Option Addr
  am : Nat
  ac : Nat
/-- its value -/
def CV.val (x : CV) : Value := .agg #[.pointer (some ⟨x.pb, x.po, none⟩), .int .i64 x.k, .int .i64 x.it.kind, .int .i64 x.it.n, .string x.it.s, .string x.nm, .string x.at_, .int .i64 x.n, .int .i64 x.ax, .int .i64 x.tk, .string x.tn, .slice x.aa x.am x.ac]
/-- its cells -/
structure CvAt (w : World) (b off : Nat) (x : CV) : Prop where
  c0 : w.cell? ⟨b, off, none⟩ = some (.pointer (some ⟨x.pb, x.po, none⟩))
  c1 : w.cell? ⟨b, off + 1, none⟩ = some (.int .i64 x.k)
  c2 : w.cell? ⟨b, off + 2, none⟩ = some (.int .i64 x.it.kind)
  c3 : w.cell? ⟨b, off + 3, none⟩ = some (.int .i64 x.it.n)
  c4 : w.cell? ⟨b, off + 4, none⟩ = some (.string x.it.s)
  c5 : w.cell? ⟨b, off + 5, none⟩ = some (.string x.nm)
  c6 : w.cell? ⟨b, off + 6, none⟩ = some (.string x.at_)
  c7 : w.cell? ⟨b, off + 7, none⟩ = some (.int .i64 x.n)
  c8 : w.cell? ⟨b, off + 8, none⟩ = some (.int .i64 x.ax)
  c9 : w.cell? ⟨b, off + 9, none⟩ = some (.int .i64 x.tk)
  c10 : w.cell? ⟨b, off + 10, none⟩ = some (.string x.tn)
  c11 : w.cell? ⟨b, off + 11, none⟩ = some (.slice x.aa x.am x.ac)
theorem CvAt.block {w w' : World} {b off : Nat} {x : CV} (h : CvAt w b off x) (e : w'.heap[b]? = w.heap[b]?) : CvAt w' b off x :=
  have e : ∀ o, w'.cell? ⟨b, o, none⟩ = w.cell? ⟨b, o, none⟩ := fun o => by simp only [World.cell?, e]
  ⟨(e _).trans h.c0, (e _).trans h.c1, (e _).trans h.c2, (e _).trans h.c3, (e _).trans h.c4, (e _).trans h.c5, (e _).trans h.c6, (e _).trans h.c7, (e _).trans h.c8, (e _).trans h.c9, (e _).trans h.c10, (e _).trans h.c11⟩
/-- two blocks lie as they lay -/
def Two (B b : Nat) (w w' : World) : Prop := w'.heap[B]? = w.heap[B]? ∧ w'.heap[b]? = w.heap[b]?
theorem Two.refl (B b : Nat) (w : World) : Two B b w w := ⟨rfl, rfl⟩
theorem Two.trans {B b : Nat} {u v w : World} (h : Two B b u v) (k : Two B b v w) : Two B b u w := ⟨k.1.trans h.1, k.2.trans h.2⟩
/-- what has come, when m are over, from the last one on -/
def dn (len m : Nat) : List Nat := (List.range m).map fun j => len - 1 - j
theorem dn_succ (len m : Nat) : dn len (m + 1) = dn len m ++ [len - 1 - m] := by simp [dn, List.range_succ]
theorem dn_length (len m : Nat) : (dn len m).length = m := by simp [dn]

set_option maxHeartbeats 2000000 in
theorem backward1_in (F : Fence) (n : Nat) (h7 : F.fn 70) (hro : F.round = none) (hn : 1 ≤ n) (l Bs b off len cap : Nat) (C : Nat → CV) (hlen : len ≤ 1000) (J Jx : List Nat → World → Prop)
    (hY : ∀ pre x W, J pre W → pre.length < len → YieldAt F (n - 1) Tryd.prog l #[.int .i64 ((x : Nat) : Int), (C x).val] W fun e W' =>
      (e = .returned (.bool true) ∧ J (pre ++ [x]) W' ∧ Two Bs b W W') ∨ (e = .returned (.bool false) ∧ Jx (pre ++ [x]) W'))
    (W : World) (hBs : W.heap[Bs]? = some (.cells #[.slice (some ⟨b, off, none⟩) len cap] 79)) (hc : ∀ j, j < len → CvAt W b (off + j * 12) (C j)) (h0 : J [] W) :
    CallsIn F n Tryd.prog 70 #[.func (.yield l) #[] #[], .pointer (some ⟨Bs, 0, none⟩)] W fun e W' => (∃ v, e = .returned v) ∧
      ((∃ ys, ys = dn len len ∧ J ys W') ∨ (∃ pre, (∃ k, k ≤ len ∧ pre = dn len k) ∧ Jx pre W')) := by
  have hs0 : W.cell? ⟨Bs, 0, none⟩ = some (.slice (some ⟨b, off, none⟩) len cap) := by rw [Lib.cell_of_heap hBs]; rfl
  have hw0 : IntKind.i64.wrap ((len : Int) - 1) = (len : Int) - 1 := IntWalk.i64_in _ (by omega)
  refine callsIn_of_wp Tryd.func70 rfl h7 ?_ hro
  simp only [Tryd.ntmps70, List.size_toArray, List.length_cons, List.length_nil, Nat.reduceAdd, Nat.reduceSub, Array.replicate_succ, Array.replicate_zero, List.push_toArray, List.append_toArray, List.nil_append, List.cons_append]
  gi_wp2
  gi_loopw [3] (fun i wr => ∃ (m : Nat) (z : Int), m ≤ len ∧ i = .int .i64 z ∧ z = (len : Int) - 1 - m ∧ J (dn len m) wr ∧ Two Bs b W wr)
    (fun i _ => ((intOf i) + 1).toNat)
  case atStart => exact ⟨0, _, Nat.zero_le _, rfl, by simp, h0, Two.refl _ _ _⟩
  case round =>
    obtain ⟨m, z, hm, rfl, hz, hJs, hnx⟩ := hrel
    by_cases hlt : m < len
    · obtain ⟨j, hj⟩ : ∃ j : Nat, j = len - 1 - m := ⟨_, rfl⟩
      obtain rfl : z = (j : Int) := by omega
      have hjl : j < len := by omega
      have hw1 : IntKind.i64.wrap ((j : Int) - 1) = (j : Int) - 1 := IntWalk.i64_in _ (by omega)
      obtain ⟨fn, tmps, assign, body, hy, hR⟩ := hY _ j wr hJs (by rw [dn_length]; exact hlt)
      have hs1 : wr.cell? ⟨Bs, 0, none⟩ = some (.slice (some ⟨b, off, none⟩) len cap) := by rw [Lib.cell_of_heap (hnx.1.trans hBs)]; rfl
      obtain ⟨c0, c1, c2, c3, c4, c5, c6, c7, c8, c9, c10, c11⟩ := (hc j hjl).block hnx.2
      simp only [CV.val] at hy
      have HJ := hidC hj
      have HZ := hidC hz
      clear hj hz
      gi_wp2
      refine hR.mono ?_
      rintro e W3 (⟨rfl, hJ3, hk3⟩ | ⟨rfl, hJx3⟩)
      · gi_wp2
        go_roundw
        case rel => exact ⟨m + 1, _, by omega, rfl, by have := HZ.out; omega, by rw [dn_succ, ← HJ.out]; exact hJ3, hnx.trans hk3⟩
        case measure => simp [intOf]
      · gi_wp2
        refine bodyPost_ret (results_none rfl _ _ _) rfl ?_
        exact ⟨⟨_, rfl⟩, .inr ⟨_, ⟨m + 1, by omega, rfl⟩, by rw [dn_succ, ← HJ.out]; exact hJx3⟩⟩
    · obtain rfl : m = len := by omega
      obtain rfl : z = -1 := by omega
      gi_wp2
      go_end0
      exact ⟨⟨_, rfl⟩, .inl ⟨_, rfl, hJs⟩⟩
set_option maxHeartbeats 1000000 in
theorem backward_is (a : Option Addr) (len cap : Nat) (w : World) :
    Calls Tryd.prog 64 #[.slice a len cap] w fun e w' => e = .returned (.func (.func 70) #[] #[.pointer (some ⟨w.heap.size, 0, none⟩)]) ∧ w' = w.alloc (.cells #[.slice a len cap] 79) := by
  go_enter Tryd.func64, Tryd.ntmps64
  go_wp2
  go_ret
  exact ⟨rfl, rfl⟩
/-- slices.Backward hands back what goes through the clauses from the last one to the first one -/
theorem backward_stops (F : Fence) (n : Nat) (h7 : F.fn 70) (hro : F.round = none) (hn : 1 ≤ n) (Bs b off len cap : Nat) (C : Nat → CV) (hlen : len ≤ 1000) (w : World) (hBs : w.heap[Bs]? = some (.cells #[.slice (some ⟨b, off, none⟩) len cap] 79)) (hc : ∀ j, j < len → CvAt w b (off + j * 12) (C j)) (hb : b < w.heap.size) :
    SeqStopsK F n Tryd.prog 70 #[.pointer (some ⟨Bs, 0, none⟩)] (fun x : Nat => #[Value.int .i64 (x : Int), (C x).val]) (Two Bs b) (fun ys => ys = dn len len) (fun _ => True) len w := fun l J Jx W hW _ _ hY h0 => by
  refine (backward1_in F n h7 hro hn l Bs b off len cap C hlen J Jx hY W (blC hW (Array.getElem?_eq_some_iff.1 hBs).1 hBs) (fun j hj => (hc j hj).block (hW.block b hb)) h0).mono ?_
  rintro e W' ⟨he, ⟨ys, rfl, hj⟩ | ⟨pre, _, hj⟩⟩
  · exact ⟨he, .inl ⟨_, rfl, hj⟩⟩
  · exact ⟨he, .inr ⟨_, trivial, hj⟩⟩
theorem two_b {Bs b : Nat} {w : World} (h1 : Bs < w.heap.size) (h2 : b < w.heap.size) (W : World) (l : Nat) (o o' : Obj) (hl : w.heap.size ≤ l) (_ : W.heap[l]? = some o) (_ : o.isCells = false) (_ : o.isWalk = false) : Two Bs b W (W.putObj l o') :=
  ⟨World.putObj_heap_other (by omega), World.putObj_heap_other (by omega)⟩
end Go.Proofs.YtkhlfdnlpimojaaDoor
