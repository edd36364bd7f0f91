/-
  CONTRACTS: values of items (package run): their data, as integers; sums, differences, quotients, remainders.
-/
import Derived.Tactics
import Derived.Test.YtmoeipdchapodaaGreatDoorRows
import Derived.ProofKit
import Derived.WalkKit
import Derived.Test.YtmoeipdchapodaaGreatDoorRuFn
import Derived.Deep.QuietTactic
import Derived.Deep.Cut
import Derived.BigQuiet
set_option linter.unusedVariables false
namespace Go.Proofs.YtmoeipdchapodaaGreatDoor
open Go

/-- the loop ends within n rounds -/
def LoopN (P : Program) (c : Code) (Q : Exit → Act → World → Prop) : Nat → Act → World → Prop
  | 0 => fun _ _ => False
  | n + 1 => fun a w => c.wp P (Exit.then (LoopN P c Q n) Q) a w
theorem least_of {p : Nat → Prop} (h : ∃ n, p n) : ∃ m, p m ∧ ∀ k, k < m → ¬ p k := by
  obtain ⟨n, hn⟩ := h
  induction n using Nat.strongRecOn with
  | ind n ih =>
    by_cases hx : ∃ k, k < n ∧ p k
    · obtain ⟨k, hk, hp⟩ := hx
      exact ih k hk hp
    · exact ⟨n, hn, fun k hk hp => hx ⟨k, hk, hp⟩⟩
open Classical in
noncomputable def leastN (p : Nat → Prop) : Nat := if h : ∃ n, p n then Classical.choose (least_of h) else 0
theorem leastN_is {p : Nat → Prop} (h : ∃ n, p n) : p (leastN p) ∧ ∀ k, p k → leastN p ≤ k := by
  have e : leastN p = Classical.choose (least_of h) := dif_pos h
  rw [e]
  have hs := Classical.choose_spec (least_of h)
  exact ⟨hs.1, fun k hk => Classical.byContradiction fun hn => hs.2 k (by omega) hk⟩
theorem LoopN.next {P : Program} {c : Code} {Q : Exit → Act → World → Prop} {n : Nat} {a : Act} {w : World} (h : c.wp P (Exit.then (LoopN P c Q n) Q) a w) : LoopN P c Q (n + 1) a w := h
theorem LoopN.wp {P : Program} {c : Code} {Q : Exit → Act → World → Prop} (n : Nat) {a : Act} {w : World} (h : LoopN P c Q n a w) : (Code.loop c).wp P Q a w := by
  refine wp_loop (fun a w => ∃ n, LoopN P c Q n a w) (fun a w => leastN fun n => LoopN P c Q n a w) ⟨n, h⟩ ?_
  intro a w hI
  obtain ⟨h1, _⟩ := leastN_is hI
  generalize hm : leastN (fun n => LoopN P c Q n a w) = m at h1 ⊢
  cases m with
  | zero => exact h1.elim
  | succ m =>
    refine Code.wp_mono (fun e a' w' q => ?_) (show c.wp P (Exit.then (LoopN P c Q m) Q) a w from h1)
    cases e with
    | normal => exact ⟨⟨m, q⟩, Nat.lt_succ_of_le ((leastN_is ⟨m, q⟩).2 m q)⟩
    | _ => exact q
end Go.Proofs.YtmoeipdchapodaaGreatDoor
set_option linter.unusedVariables false
namespace Go.Proofs.YtmoeipdchapodaaGreatDoor
set_option maxRecDepth 100000
open Go.RowKit Go.WideShapes

theorem mk_ints2 (w : World) : (Instr.makeSlice 39 (.int .i64 2) (.int .i64 2)).run Tryz.prog w = .ok (.slice (some ⟨w.heap.size, 0, none⟩) 2 2) (w.alloc (.cells #[.int .i64 0, .int .i64 0] 3)) := by kernel_rfl
theorem mk_items2 (w : World) : (Instr.makeSlice 33 (.int .i64 2) (.int .i64 2)).run Tryz.prog w = .ok (.slice (some ⟨w.heap.size, 0, none⟩) 2 2) (w.alloc (.cells #[.int .i64 0, .int .i64 0, .string ⟨#[]⟩, .int .i64 0, .int .i64 0, .string ⟨#[]⟩] 24)) := by kernel_rfl
theorem mk_rels0 (w : World) : (Instr.makeSlice 68 (.int .i64 0) (.int .i64 0)).run Tryz.prog w = .ok (.slice (some ⟨w.heap.size, 0, none⟩) 0 0) (w.alloc (.cells #[] 36)) := by kernel_rfl
theorem mk_rels1 (w : World) : (Instr.makeSlice 68 (.int .i64 1) (.int .i64 1)).run Tryz.prog w = .ok (.slice (some ⟨w.heap.size, 0, none⟩) 1 1) (w.alloc (.cells #[.slice none 0 0, .slice none 0 0] 36)) := by kernel_rfl
theorem mk_rels2 (w : World) : (Instr.makeSlice 68 (.int .i64 2) (.int .i64 2)).run Tryz.prog w = .ok (.slice (some ⟨w.heap.size, 0, none⟩) 2 2) (w.alloc (.cells #[.slice none 0 0, .slice none 0 0, .slice none 0 0, .slice none 0 0] 36)) := by kernel_rfl
theorem mk_cols2 (w : World) : (Instr.makeSlice 50 (.int .i64 2) (.int .i64 2)).run Tryz.prog w = .ok (.slice (some ⟨w.heap.size, 0, none⟩) 2 2) (w.alloc (.cells #[.slice none 0 0, .slice none 0 0] 32)) := by kernel_rfl
theorem mk_rows1 (w : World) : (Instr.makeSlice 34 (.int .i64 1) (.int .i64 1)).run Tryz.prog w = .ok (.slice (some ⟨w.heap.size, 0, none⟩) 1 1) (w.alloc (.cells #[.slice none 0 0] 33)) := by kernel_rfl
theorem mk_rows01 (w : World) : (Instr.makeSlice 34 (.int .i64 0) (.int .i64 1)).run Tryz.prog w = .ok (.slice (some ⟨w.heap.size, 0, none⟩) 0 1) (w.alloc (.cells #[.slice none 0 0] 33)) := by kernel_rfl
end Go.Proofs.YtmoeipdchapodaaGreatDoor
set_option linter.unusedVariables false
namespace Go.Proofs.YtmoeipdchapodaaGreatDoor
set_option maxRecDepth 100000
open Go.RowKit Go.WideShapes

theorem drewN_below (B : Nat) (w : World) (n : Nat) : Below B w (w.drewN n) := ⟨rfl, rfl, rfl, Nat.le_refl _, fun _ _ => rfl⟩
theorem bcellR {W w1 : World} (hb : Below W.heap.size W w1) : (∀ b o, b < W.heap.size → w1.cell? ⟨b, o, none⟩ = W.cell? ⟨b, o, none⟩) ∧ (∀ b o, b < W.heap.size → w1.frozen? ⟨b, o, none⟩ = W.frozen? ⟨b, o, none⟩) :=
  ⟨fun b o h => hb.cell (p := ⟨b, o, none⟩) h, fun b o h => by unfold World.frozen?; rw [hb.block b h]⟩
theorem alloc_old {w : World} {o x : Obj} {b : Nat} (h : w.heap[b]? = some x) : (w.alloc o).heap[b]? = some x := (Below.heap_alloc w o b (Array.getElem?_eq_some_iff.1 h).1).trans h
theorem alloc_newN {w : World} {o : Obj} {g : Nat} (hg : w.heap.size = g) : (w.alloc o).heap[g]? = some o := by subst hg; exact heap_alloc_new w o
theorem set_other {w : World} {b j c : Nat} {v : Value} {x : Obj} (h : w.heap[c]? = some x) (hn : c ≠ b) : (w.setCell ⟨b, j, none⟩ v).heap[c]? = some x := (Below.heap_setCell _ _ _ _ hn).trans h
theorem set_same {w : World} {b : Nat} {cs : Array Value} {T : TypeId} (h : w.heap[b]? = some (.cells cs T)) (j : Nat) (v : Value) : (w.setCell ⟨b, j, none⟩ v).heap[b]? = some (.cells (cs.setIfInBounds j v) T) := by
  simp [World.setCell, Array.getElem?_modify, h]
theorem blk1 {w : World} {b : Nat} {x : Value} {T : TypeId} (h : w.heap[b]? = some (.cells #[x] T)) : w.cell? ⟨b, 0, none⟩ = some x ∧ w.frozen? ⟨b, 0, none⟩ = false ∧ b < w.heap.size :=
  ⟨by rw [Lib.cell_of_heap h]; rfl, Lib.frozen_of_heap h _, (Array.getElem?_eq_some_iff.1 h).1⟩
theorem blk2 {w : World} {b : Nat} {x y : Value} {T : TypeId} (h : w.heap[b]? = some (.cells #[x, y] T)) : w.cell? ⟨b, 0, none⟩ = some x ∧ w.cell? ⟨b, 1, none⟩ = some y ∧ w.frozen? ⟨b, 0, none⟩ = false ∧ w.frozen? ⟨b, 1, none⟩ = false ∧ b < w.heap.size :=
  ⟨by rw [Lib.cell_of_heap h]; rfl, by rw [Lib.cell_of_heap h]; rfl, Lib.frozen_of_heap h _, Lib.frozen_of_heap h _, (Array.getElem?_eq_some_iff.1 h).1⟩
theorem blk3 {w : World} {b : Nat} {x y z : Value} {T : TypeId} (h : w.heap[b]? = some (.cells #[x, y, z] T)) : w.cell? ⟨b, 0, none⟩ = some x ∧ w.cell? ⟨b, 1, none⟩ = some y ∧ w.cell? ⟨b, 2, none⟩ = some z ∧ w.frozen? ⟨b, 0, none⟩ = false ∧ w.frozen? ⟨b, 1, none⟩ = false ∧ w.frozen? ⟨b, 2, none⟩ = false ∧ b < w.heap.size :=
  ⟨by rw [Lib.cell_of_heap h]; rfl, by rw [Lib.cell_of_heap h]; rfl, by rw [Lib.cell_of_heap h]; rfl, Lib.frozen_of_heap h _, Lib.frozen_of_heap h _, Lib.frozen_of_heap h _, (Array.getElem?_eq_some_iff.1 h).1⟩
set_option maxHeartbeats 800000 in
theorem data_is (f : Value) (k n : Int) (s : ByteArray) (w : World) (hk : ¬ k = 1) : Calls Tryz.prog 32 #[f, .agg #[.int .i64 k, .int .i64 n, .string s]] w fun e w' => e = .returned (.tuple #[.agg #[.int .i64 k, .int .i64 n, .string s], .bool true]) ∧ Below w.heap.size w w' := by
  have hk1 : (k == 1) = false := by simpa using hk
  clear hk
  go_enter Tryz.func32, Tryz.ntmps32
  go_wp2
  refine bodyPost_ret (v := .tuple #[.agg #[.int .i64 k, .int .i64 n, .string s], .bool true]) (by simp [results, Tryz.results32, go_sem]) rfl ⟨rfl, ?_⟩
  (focus (repeat (first | exact Below.refl _ _ | exact Hid.out (by assumption) | refine Below.setCell ?_ (by first | omega | (simp <;> omega)) _ | refine Below.alloc ?_ (by first | omega | (simp <;> omega)) _)))
set_option maxHeartbeats 800000 in
theorem integer_is (f : Value) (n : Int) (s : ByteArray) (w : World) : Calls Tryz.prog 97 #[f, .agg #[.int .i64 2, .int .i64 n, .string s]] w fun e w' => e = .returned (.tuple #[.int .i64 n, .bool true]) ∧ Below w.heap.size w w' := by
  have CD : Hid (∀ W, Calls Tryz.prog 32 #[f, .agg #[.int .i64 2, .int .i64 n, .string s]] W fun e w' => e = .returned (.tuple #[.agg #[.int .i64 2, .int .i64 n, .string s], .bool true]) ∧ Below W.heap.size W w') := fun W => data_is f 2 n s W (by decide)
  go_enter Tryz.func97, Tryz.ntmps97
  go_wp2_with (go_at_call 32; refine (CD.out _).mono ?_; rintro e w1 ⟨rfl, hb1⟩; have HB1 : Hid (Below w.heap.size w w1) := (Below.alloc (Below.refl _ _) (Nat.le_refl _) _).trans (hb1.mono (by simp)); have hz1 := HB1.out.size; clear hb1)
  go_ret2
  refine ⟨rfl, ?_⟩
  (focus (repeat (first | exact Below.refl _ _ | exact Hid.out (by assumption) | refine Below.setCell ?_ (by first | omega | (simp <;> omega)) _ | refine Below.alloc ?_ (by first | omega | (simp <;> omega)) _)))
set_option maxHeartbeats 400000 in
theorem intItem_is (n : Int) (w : World) : Calls Tryz.prog 49 #[.int .i64 n] w fun e w' => e = .returned (.agg #[.int .i64 2, .int .i64 n, .string ⟨#[]⟩]) ∧ Below w.heap.size w w' := by
  go_enter Tryz.func49, Tryz.ntmps49
  go_wp2
  refine bodyPost_ret (v := .agg #[.int .i64 2, .int .i64 n, .string ⟨#[]⟩]) (by simp [results, Tryz.results49, go_sem]) rfl ⟨rfl, ?_⟩
  (focus (repeat (first | exact Below.refl _ _ | exact Hid.out (by assumption) | refine Below.setCell ?_ (by first | omega | (simp <;> omega)) _ | refine Below.alloc ?_ (by first | omega | (simp <;> omega)) _)))
/-- a function of two numbers: what it tells, and whether it has a value -/
def NumOk (g : FuncId) (x y r : Int) (ok : Bool) : Prop :=
  ∀ (W : World) (nb : Nat), W.cell? ⟨nb, 0, none⟩ = some (.int .i64 x) → W.cell? ⟨nb, 1, none⟩ = some (.int .i64 y) → nb < W.heap.size → Calls Tryz.prog g #[.slice (some ⟨nb, 0, none⟩) 2 2] W fun e w' => e = .returned (.tuple #[.int .i64 r, .bool ok]) ∧ Below W.heap.size W w'
theorem wrap_in {x : Int} (h1 : -4398046511104 ≤ x) (h2 : x ≤ 4398046511104) : IntKind.i64.wrap x = x := IntWalk.i64_in (by omega) (by omega)
theorem small_tdiv (x y : Int) : (x.tdiv y).natAbs ≤ x.natAbs := by rw [Int.natAbs_tdiv]; exact Nat.div_le_self _ _
theorem small_tmod (x y : Int) : (x.tmod y).natAbs ≤ x.natAbs := by rw [Int.natAbs_tmod]; exact Nat.mod_le _ _
theorem plus_is (x y : Int) (hx : -1099511627776 ≤ x ∧ x ≤ 1099511627776) (hy : -1099511627776 ≤ y ∧ y ≤ 1099511627776) : NumOk 42 x y (x + y) true := by
  intro W nb c0 c1 hnb
  obtain ⟨hx1, hx2⟩ := hx
  obtain ⟨hy1, hy2⟩ := hy
  have hw := wrap_in (x := x + y) (by omega) (by omega)
  go_enter Tryz.func42, Tryz.ntmps42
  go_upto_region 1 with fail
  go_quiet (fail)
  go_wp2
  go_ret2
  exact ⟨rfl, drewN_below _ _ _⟩
theorem minus_is (x y : Int) (hx : -1099511627776 ≤ x ∧ x ≤ 1099511627776) (hy : -1099511627776 ≤ y ∧ y ≤ 1099511627776) : NumOk 43 x y (x - y) true := by
  intro W nb c0 c1 hnb
  obtain ⟨hx1, hx2⟩ := hx
  obtain ⟨hy1, hy2⟩ := hy
  have hw := wrap_in (x := x - y) (by omega) (by omega)
  go_enter Tryz.func43, Tryz.ntmps43
  go_upto_region 1 with fail
  go_quiet (fail)
  go_wp2
  go_ret2
  exact ⟨rfl, drewN_below _ _ _⟩
theorem quot_none (x : Int) : NumOk 45 x 0 0 false := by
  intro W nb c0 c1 hnb
  go_enter Tryz.func45, Tryz.ntmps45
  go_wp2
  go_ret2
  exact ⟨rfl, Below.refl _ _⟩
theorem quot_some (x y : Int) (hx : -1099511627776 ≤ x ∧ x ≤ 1099511627776) (hy : -1099511627776 ≤ y ∧ y ≤ 1099511627776) (h0 : ¬ y = 0) : NumOk 45 x y (x.tdiv y) true := by
  intro W nb c0 c1 hnb
  obtain ⟨hx1, hx2⟩ := hx
  have hy0 : (y == 0) = false := by simpa using h0
  have hw : IntKind.i64.wrap (x.tdiv y) = x.tdiv y := wrap_in (by have := small_tdiv x y; omega) (by have := small_tdiv x y; omega)
  go_enter Tryz.func45, Tryz.ntmps45
  go_upto_region 3 with fail
  go_quiet (fail)
  go_wp2
  go_ret2
  exact ⟨rfl, drewN_below _ _ _⟩
theorem rem_none (x : Int) : NumOk 46 x 0 0 false := by
  intro W nb c0 c1 hnb
  go_enter Tryz.func46, Tryz.ntmps46
  go_wp2
  go_ret2
  exact ⟨rfl, Below.refl _ _⟩
theorem rem_some (x y : Int) (hx : -1099511627776 ≤ x ∧ x ≤ 1099511627776) (hy : -1099511627776 ≤ y ∧ y ≤ 1099511627776) (h0 : ¬ y = 0) : NumOk 46 x y (x.tmod y) true := by
  intro W nb c0 c1 hnb
  obtain ⟨hx1, hx2⟩ := hx
  have hy0 : (y == 0) = false := by simpa using h0
  have hw : IntKind.i64.wrap (x.tmod y) = x.tmod y := wrap_in (by have := small_tmod x y; omega) (by have := small_tmod x y; omega)
  go_enter Tryz.func46, Tryz.ntmps46
  go_upto_region 3 with fail
  go_quiet (fail)
  go_wp2
  go_ret2
  exact ⟨rfl, drewN_below _ _ _⟩
set_option maxHeartbeats 3200000 in
/-- the function of two items that is made of it -/
theorem of_plus (f : Value) (x y r : Int) (sx sy : ByteArray) (ok : Bool) (hg : NumOk 42 x y r ok) (ib b icap : Nat) (w : World) (hic : 2 ≤ icap) (hcm : icap ≤ maxLen) (hib : ib < w.heap.size) (hb : w.heap[b]? = some (.cells #[.func (.func 42) #[] #[]] 91))
    (c0 : w.cell? ⟨ib, 0, none⟩ = some (.int .i64 2)) (c1 : w.cell? ⟨ib, 1, none⟩ = some (.int .i64 x)) (c2 : w.cell? ⟨ib, 2, none⟩ = some (.string sx)) (c3 : w.cell? ⟨ib, 3, none⟩ = some (.int .i64 2)) (c4 : w.cell? ⟨ib, 4, none⟩ = some (.int .i64 y)) (c5 : w.cell? ⟨ib, 5, none⟩ = some (.string sy)) :
    Calls Tryz.prog 96 #[f, .slice (some ⟨ib, 0, none⟩) 2 icap, .pointer (some ⟨b, 0, none⟩)] w fun e w' => e = .returned (.tuple #[.agg #[.int .i64 2, .int .i64 r, .string ⟨#[]⟩], .bool ok]) ∧ Below w.heap.size w w' := by
  have CI : Hid (∀ W n s, Calls Tryz.prog 97 #[f, .agg #[.int .i64 2, .int .i64 n, .string s]] W fun e w' => e = .returned (.tuple #[.int .i64 n, .bool true]) ∧ Below W.heap.size W w') := fun W n s => integer_is f n s W
  have CG : Hid (NumOk 42 x y r ok) := hg
  have CT : Hid (∀ W, Calls Tryz.prog 49 #[.int .i64 r] W fun e w' => e = .returned (.agg #[.int .i64 2, .int .i64 r, .string ⟨#[]⟩]) ∧ Below W.heap.size W w') := fun W => intItem_is r W
  have hbs : b < w.heap.size := (Array.getElem?_eq_some_iff.1 hb).1
  have cb : w.cell? ⟨b, 0, none⟩ = some (.func (.func 42) #[] #[]) := by rw [Lib.cell_of_heap hb]; rfl
  unfold maxLen at hcm
  have hmk := mk_ints2
  clear hb hg
  go_enter Tryz.func96, Tryz.ntmps96
  have HC : Hid (∀ W, Below w.heap.size w W → W.cell? ⟨ib, 0, none⟩ = some (.int .i64 2) ∧ W.cell? ⟨ib, 1, none⟩ = some (.int .i64 x) ∧ W.cell? ⟨ib, 2, none⟩ = some (.string sx) ∧ W.cell? ⟨ib, 3, none⟩ = some (.int .i64 2) ∧ W.cell? ⟨ib, 4, none⟩ = some (.int .i64 y) ∧ W.cell? ⟨ib, 5, none⟩ = some (.string sy) ∧ W.cell? ⟨b, 0, none⟩ = some (.func (.func 42) #[] #[]) ∧ ib < W.heap.size ∧ b < W.heap.size) := fun W hW =>
    have e := fun o => hW.cell (p := ⟨ib, o, none⟩) hib
    ⟨(e _).trans c0, (e _).trans c1, (e _).trans c2, (e _).trans c3, (e _).trans c4, (e _).trans c5, (hW.cell (p := ⟨b, 0, none⟩) hbs).trans cb, Nat.lt_of_lt_of_le hib hW.size, Nat.lt_of_lt_of_le hbs hW.size⟩
  go_wp2
  refine LoopN.wp 3 (LoopN.next ?_)
  go_wp2_with (go_at_call 97; refine (CI.out _ _ _).mono ?_; rintro e w1 ⟨rfl, hb1⟩; have HB1 : Hid (Below w.heap.size w w1) := Below.trans (by (focus (repeat (first | exact Below.refl _ _ | exact Hid.out (by assumption) | refine Below.setCell ?_ (by first | omega | (simp <;> omega)) _ | refine Below.alloc ?_ (by first | omega | (simp <;> omega)) _)))) (hb1.mono (by first | omega | (simp <;> omega))); have HN1 : Hid (w1.heap[w.heap.size + 1]? = some (.cells #[.int .i64 0, .int .i64 0] 3)) := (hb1.block _ (by first | omega | (simp <;> omega))).trans (alloc_old (alloc_newN (by simp))); have HR1 : Hid (w1.heap[w.heap.size]? = some (.cells #[.int .i64 0, .int .i64 0, .string ⟨#[]⟩] 24)) := (hb1.block _ (by first | omega | (simp <;> omega))).trans (alloc_old (alloc_old (alloc_newN rfl))); obtain ⟨n0, n1, p0, p1, pz⟩ := blk2 HN1.out; clear hb1)
  have HB2 : Hid (Below w.heap.size w (w1.setCell ⟨w.heap.size + 1, 0, none⟩ (.int .i64 x))) := HB1.out.setCell (by first | omega | (simp <;> omega)) _
  have HN2 : Hid ((w1.setCell ⟨w.heap.size + 1, 0, none⟩ (.int .i64 x)).heap[w.heap.size + 1]? = some (.cells #[.int .i64 x, .int .i64 0] 3)) := set_same HN1.out 0 _
  have HR2 : Hid ((w1.setCell ⟨w.heap.size + 1, 0, none⟩ (.int .i64 x)).heap[w.heap.size]? = some (.cells #[.int .i64 0, .int .i64 0, .string ⟨#[]⟩] 24)) := set_other HR1.out (by omega)
  obtain ⟨W1, hW1⟩ : ∃ W, W = w1.setCell ⟨w.heap.size + 1, 0, none⟩ (.int .i64 x) := ⟨_, rfl⟩
  rw [← hW1] at HB2 HN2 HR2 ⊢
  clear hW1 HB1 HN1 HR1 n0 n1 p0 p1 pz c0 c1 c2 c3 c4 c5 cb
  obtain ⟨c0, c1, c2, c3, c4, c5, cb, hi1, hi2⟩ := HC.out W1 HB2.out
  obtain ⟨n0, n1, p0, p1, pz⟩ := blk2 HN2.out
  refine LoopN.next ?_
  go_wp2_with (go_at_call 97; refine (CI.out _ _ _).mono ?_; rintro e w2 ⟨rfl, hb2⟩; have HB3 : Hid (Below w.heap.size w w2) := Below.trans (by (focus (repeat (first | exact Below.refl _ _ | exact Hid.out (by assumption) | refine Below.setCell ?_ (by first | omega | (simp <;> omega)) _ | refine Below.alloc ?_ (by first | omega | (simp <;> omega)) _)))) (hb2.mono (by have := HB2.out.size; first | omega | (simp <;> omega))); have HN3 : Hid (w2.heap[w.heap.size + 1]? = some (.cells #[.int .i64 x, .int .i64 0] 3)) := (hb2.block _ (by first | omega | (simp <;> omega))).trans (alloc_old HN2.out); have HR3 : Hid (w2.heap[w.heap.size]? = some (.cells #[.int .i64 0, .int .i64 0, .string ⟨#[]⟩] 24)) := (hb2.block _ (by first | omega | (simp <;> omega))).trans (alloc_old HR2.out); clear hb2 n0 n1 p0 p1 pz c0 c1 c2 c3 c4 c5 cb hi1 hi2; obtain ⟨n0, n1, p0, p1, pz⟩ := blk2 HN3.out)
  have HB4 : Hid (Below w.heap.size w (w2.setCell ⟨w.heap.size + 1, 1, none⟩ (.int .i64 y))) := HB3.out.setCell (by first | omega | (simp <;> omega)) _
  have HN4 : Hid ((w2.setCell ⟨w.heap.size + 1, 1, none⟩ (.int .i64 y)).heap[w.heap.size + 1]? = some (.cells #[.int .i64 x, .int .i64 y] 3)) := set_same HN3.out 1 _
  have HR4 : Hid ((w2.setCell ⟨w.heap.size + 1, 1, none⟩ (.int .i64 y)).heap[w.heap.size]? = some (.cells #[.int .i64 0, .int .i64 0, .string ⟨#[]⟩] 24)) := set_other HR3.out (by omega)
  obtain ⟨W2, hW2⟩ : ∃ W, W = w2.setCell ⟨w.heap.size + 1, 1, none⟩ (.int .i64 y) := ⟨_, rfl⟩
  rw [← hW2] at HB4 HN4 HR4 ⊢
  clear hW2 HB3 HN3 HR3 n0 n1 p0 p1 pz HB2 HN2 HR2
  obtain ⟨c0, c1, c2, c3, c4, c5, cb, hi1, hi2⟩ := HC.out W2 HB4.out
  obtain ⟨n0, n1, p0, p1, pz⟩ := blk2 HN4.out
  have CG2 : Hid (Calls Tryz.prog 42 #[.slice (some ⟨w.heap.size + 1, 0, none⟩) 2 2] W2 fun e w' => e = .returned (.tuple #[.int .i64 r, .bool ok]) ∧ Below W2.heap.size W2 w') := CG.out W2 (w.heap.size + 1) n0 n1 pz
  clear n0 n1 p0 p1 c0 c1 c2 c3 c4 c5
  refine LoopN.next ?_
  go_wp2_with (first
    | (go_at_call 42; refine CG2.out.mono ?_; rintro e w3 ⟨rfl, hb3⟩; have HB5 : Hid (Below w.heap.size w w3) := HB4.out.trans (hb3.mono HB4.out.size); have HR5 : Hid (w3.heap[w.heap.size]? = some (.cells #[.int .i64 0, .int .i64 0, .string ⟨#[]⟩] 24)) := (hb3.block _ (by first | omega | (simp <;> omega))).trans HR4.out; clear hb3 CG2)
    | (go_at_call 49; refine (CT.out _).mono ?_; rintro e w4 ⟨rfl, hb4⟩; have HB6 : Hid (Below w.heap.size w w4) := HB5.out.trans (hb4.mono HB5.out.size); have HR6 : Hid (w4.heap[w.heap.size]? = some (.cells #[.int .i64 0, .int .i64 0, .string ⟨#[]⟩] 24)) := (hb4.block _ (by have := (Array.getElem?_eq_some_iff.1 HR5.out).1; omega)).trans HR5.out; obtain ⟨q0, q1, q2, q3, q4, q5, q6⟩ := blk3 HR6.out; clear hb4))
  refine bodyPost_ret (v := .tuple #[.agg #[.int .i64 2, .int .i64 r, .string ⟨#[]⟩], .bool ok]) (by simp [results, Tryz.results96, go_sem, q0, q1, q2]) rfl ⟨rfl, ?_⟩
  (focus (repeat (first | exact Below.refl _ _ | exact Hid.out (by assumption) | refine Below.setCell ?_ (by first | omega | (simp <;> omega)) _ | refine Below.alloc ?_ (by first | omega | (simp <;> omega)) _)))
set_option maxHeartbeats 3200000 in
/-- the function of two items that is made of it -/
theorem of_minus (f : Value) (x y r : Int) (sx sy : ByteArray) (ok : Bool) (hg : NumOk 43 x y r ok) (ib b icap : Nat) (w : World) (hic : 2 ≤ icap) (hcm : icap ≤ maxLen) (hib : ib < w.heap.size) (hb : w.heap[b]? = some (.cells #[.func (.func 43) #[] #[]] 91))
    (c0 : w.cell? ⟨ib, 0, none⟩ = some (.int .i64 2)) (c1 : w.cell? ⟨ib, 1, none⟩ = some (.int .i64 x)) (c2 : w.cell? ⟨ib, 2, none⟩ = some (.string sx)) (c3 : w.cell? ⟨ib, 3, none⟩ = some (.int .i64 2)) (c4 : w.cell? ⟨ib, 4, none⟩ = some (.int .i64 y)) (c5 : w.cell? ⟨ib, 5, none⟩ = some (.string sy)) :
    Calls Tryz.prog 96 #[f, .slice (some ⟨ib, 0, none⟩) 2 icap, .pointer (some ⟨b, 0, none⟩)] w fun e w' => e = .returned (.tuple #[.agg #[.int .i64 2, .int .i64 r, .string ⟨#[]⟩], .bool ok]) ∧ Below w.heap.size w w' := by
  have CI : Hid (∀ W n s, Calls Tryz.prog 97 #[f, .agg #[.int .i64 2, .int .i64 n, .string s]] W fun e w' => e = .returned (.tuple #[.int .i64 n, .bool true]) ∧ Below W.heap.size W w') := fun W n s => integer_is f n s W
  have CG : Hid (NumOk 43 x y r ok) := hg
  have CT : Hid (∀ W, Calls Tryz.prog 49 #[.int .i64 r] W fun e w' => e = .returned (.agg #[.int .i64 2, .int .i64 r, .string ⟨#[]⟩]) ∧ Below W.heap.size W w') := fun W => intItem_is r W
  have hbs : b < w.heap.size := (Array.getElem?_eq_some_iff.1 hb).1
  have cb : w.cell? ⟨b, 0, none⟩ = some (.func (.func 43) #[] #[]) := by rw [Lib.cell_of_heap hb]; rfl
  unfold maxLen at hcm
  have hmk := mk_ints2
  clear hb hg
  go_enter Tryz.func96, Tryz.ntmps96
  have HC : Hid (∀ W, Below w.heap.size w W → W.cell? ⟨ib, 0, none⟩ = some (.int .i64 2) ∧ W.cell? ⟨ib, 1, none⟩ = some (.int .i64 x) ∧ W.cell? ⟨ib, 2, none⟩ = some (.string sx) ∧ W.cell? ⟨ib, 3, none⟩ = some (.int .i64 2) ∧ W.cell? ⟨ib, 4, none⟩ = some (.int .i64 y) ∧ W.cell? ⟨ib, 5, none⟩ = some (.string sy) ∧ W.cell? ⟨b, 0, none⟩ = some (.func (.func 43) #[] #[]) ∧ ib < W.heap.size ∧ b < W.heap.size) := fun W hW =>
    have e := fun o => hW.cell (p := ⟨ib, o, none⟩) hib
    ⟨(e _).trans c0, (e _).trans c1, (e _).trans c2, (e _).trans c3, (e _).trans c4, (e _).trans c5, (hW.cell (p := ⟨b, 0, none⟩) hbs).trans cb, Nat.lt_of_lt_of_le hib hW.size, Nat.lt_of_lt_of_le hbs hW.size⟩
  go_wp2
  refine LoopN.wp 3 (LoopN.next ?_)
  go_wp2_with (go_at_call 97; refine (CI.out _ _ _).mono ?_; rintro e w1 ⟨rfl, hb1⟩; have HB1 : Hid (Below w.heap.size w w1) := Below.trans (by (focus (repeat (first | exact Below.refl _ _ | exact Hid.out (by assumption) | refine Below.setCell ?_ (by first | omega | (simp <;> omega)) _ | refine Below.alloc ?_ (by first | omega | (simp <;> omega)) _)))) (hb1.mono (by first | omega | (simp <;> omega))); have HN1 : Hid (w1.heap[w.heap.size + 1]? = some (.cells #[.int .i64 0, .int .i64 0] 3)) := (hb1.block _ (by first | omega | (simp <;> omega))).trans (alloc_old (alloc_newN (by simp))); have HR1 : Hid (w1.heap[w.heap.size]? = some (.cells #[.int .i64 0, .int .i64 0, .string ⟨#[]⟩] 24)) := (hb1.block _ (by first | omega | (simp <;> omega))).trans (alloc_old (alloc_old (alloc_newN rfl))); obtain ⟨n0, n1, p0, p1, pz⟩ := blk2 HN1.out; clear hb1)
  have HB2 : Hid (Below w.heap.size w (w1.setCell ⟨w.heap.size + 1, 0, none⟩ (.int .i64 x))) := HB1.out.setCell (by first | omega | (simp <;> omega)) _
  have HN2 : Hid ((w1.setCell ⟨w.heap.size + 1, 0, none⟩ (.int .i64 x)).heap[w.heap.size + 1]? = some (.cells #[.int .i64 x, .int .i64 0] 3)) := set_same HN1.out 0 _
  have HR2 : Hid ((w1.setCell ⟨w.heap.size + 1, 0, none⟩ (.int .i64 x)).heap[w.heap.size]? = some (.cells #[.int .i64 0, .int .i64 0, .string ⟨#[]⟩] 24)) := set_other HR1.out (by omega)
  obtain ⟨W1, hW1⟩ : ∃ W, W = w1.setCell ⟨w.heap.size + 1, 0, none⟩ (.int .i64 x) := ⟨_, rfl⟩
  rw [← hW1] at HB2 HN2 HR2 ⊢
  clear hW1 HB1 HN1 HR1 n0 n1 p0 p1 pz c0 c1 c2 c3 c4 c5 cb
  obtain ⟨c0, c1, c2, c3, c4, c5, cb, hi1, hi2⟩ := HC.out W1 HB2.out
  obtain ⟨n0, n1, p0, p1, pz⟩ := blk2 HN2.out
  refine LoopN.next ?_
  go_wp2_with (go_at_call 97; refine (CI.out _ _ _).mono ?_; rintro e w2 ⟨rfl, hb2⟩; have HB3 : Hid (Below w.heap.size w w2) := Below.trans (by (focus (repeat (first | exact Below.refl _ _ | exact Hid.out (by assumption) | refine Below.setCell ?_ (by first | omega | (simp <;> omega)) _ | refine Below.alloc ?_ (by first | omega | (simp <;> omega)) _)))) (hb2.mono (by have := HB2.out.size; first | omega | (simp <;> omega))); have HN3 : Hid (w2.heap[w.heap.size + 1]? = some (.cells #[.int .i64 x, .int .i64 0] 3)) := (hb2.block _ (by first | omega | (simp <;> omega))).trans (alloc_old HN2.out); have HR3 : Hid (w2.heap[w.heap.size]? = some (.cells #[.int .i64 0, .int .i64 0, .string ⟨#[]⟩] 24)) := (hb2.block _ (by first | omega | (simp <;> omega))).trans (alloc_old HR2.out); clear hb2 n0 n1 p0 p1 pz c0 c1 c2 c3 c4 c5 cb hi1 hi2; obtain ⟨n0, n1, p0, p1, pz⟩ := blk2 HN3.out)
  have HB4 : Hid (Below w.heap.size w (w2.setCell ⟨w.heap.size + 1, 1, none⟩ (.int .i64 y))) := HB3.out.setCell (by first | omega | (simp <;> omega)) _
  have HN4 : Hid ((w2.setCell ⟨w.heap.size + 1, 1, none⟩ (.int .i64 y)).heap[w.heap.size + 1]? = some (.cells #[.int .i64 x, .int .i64 y] 3)) := set_same HN3.out 1 _
  have HR4 : Hid ((w2.setCell ⟨w.heap.size + 1, 1, none⟩ (.int .i64 y)).heap[w.heap.size]? = some (.cells #[.int .i64 0, .int .i64 0, .string ⟨#[]⟩] 24)) := set_other HR3.out (by omega)
  obtain ⟨W2, hW2⟩ : ∃ W, W = w2.setCell ⟨w.heap.size + 1, 1, none⟩ (.int .i64 y) := ⟨_, rfl⟩
  rw [← hW2] at HB4 HN4 HR4 ⊢
  clear hW2 HB3 HN3 HR3 n0 n1 p0 p1 pz HB2 HN2 HR2
  obtain ⟨c0, c1, c2, c3, c4, c5, cb, hi1, hi2⟩ := HC.out W2 HB4.out
  obtain ⟨n0, n1, p0, p1, pz⟩ := blk2 HN4.out
  have CG2 : Hid (Calls Tryz.prog 43 #[.slice (some ⟨w.heap.size + 1, 0, none⟩) 2 2] W2 fun e w' => e = .returned (.tuple #[.int .i64 r, .bool ok]) ∧ Below W2.heap.size W2 w') := CG.out W2 (w.heap.size + 1) n0 n1 pz
  clear n0 n1 p0 p1 c0 c1 c2 c3 c4 c5
  refine LoopN.next ?_
  go_wp2_with (first
    | (go_at_call 43; refine CG2.out.mono ?_; rintro e w3 ⟨rfl, hb3⟩; have HB5 : Hid (Below w.heap.size w w3) := HB4.out.trans (hb3.mono HB4.out.size); have HR5 : Hid (w3.heap[w.heap.size]? = some (.cells #[.int .i64 0, .int .i64 0, .string ⟨#[]⟩] 24)) := (hb3.block _ (by first | omega | (simp <;> omega))).trans HR4.out; clear hb3 CG2)
    | (go_at_call 49; refine (CT.out _).mono ?_; rintro e w4 ⟨rfl, hb4⟩; have HB6 : Hid (Below w.heap.size w w4) := HB5.out.trans (hb4.mono HB5.out.size); have HR6 : Hid (w4.heap[w.heap.size]? = some (.cells #[.int .i64 0, .int .i64 0, .string ⟨#[]⟩] 24)) := (hb4.block _ (by have := (Array.getElem?_eq_some_iff.1 HR5.out).1; omega)).trans HR5.out; obtain ⟨q0, q1, q2, q3, q4, q5, q6⟩ := blk3 HR6.out; clear hb4))
  refine bodyPost_ret (v := .tuple #[.agg #[.int .i64 2, .int .i64 r, .string ⟨#[]⟩], .bool ok]) (by simp [results, Tryz.results96, go_sem, q0, q1, q2]) rfl ⟨rfl, ?_⟩
  (focus (repeat (first | exact Below.refl _ _ | exact Hid.out (by assumption) | refine Below.setCell ?_ (by first | omega | (simp <;> omega)) _ | refine Below.alloc ?_ (by first | omega | (simp <;> omega)) _)))
set_option maxHeartbeats 3200000 in
/-- the function of two items that is made of it -/
theorem of_quot (f : Value) (x y r : Int) (sx sy : ByteArray) (ok : Bool) (hg : NumOk 45 x y r ok) (ib b icap : Nat) (w : World) (hic : 2 ≤ icap) (hcm : icap ≤ maxLen) (hib : ib < w.heap.size) (hb : w.heap[b]? = some (.cells #[.func (.func 45) #[] #[]] 91))
    (c0 : w.cell? ⟨ib, 0, none⟩ = some (.int .i64 2)) (c1 : w.cell? ⟨ib, 1, none⟩ = some (.int .i64 x)) (c2 : w.cell? ⟨ib, 2, none⟩ = some (.string sx)) (c3 : w.cell? ⟨ib, 3, none⟩ = some (.int .i64 2)) (c4 : w.cell? ⟨ib, 4, none⟩ = some (.int .i64 y)) (c5 : w.cell? ⟨ib, 5, none⟩ = some (.string sy)) :
    Calls Tryz.prog 96 #[f, .slice (some ⟨ib, 0, none⟩) 2 icap, .pointer (some ⟨b, 0, none⟩)] w fun e w' => e = .returned (.tuple #[.agg #[.int .i64 2, .int .i64 r, .string ⟨#[]⟩], .bool ok]) ∧ Below w.heap.size w w' := by
  have CI : Hid (∀ W n s, Calls Tryz.prog 97 #[f, .agg #[.int .i64 2, .int .i64 n, .string s]] W fun e w' => e = .returned (.tuple #[.int .i64 n, .bool true]) ∧ Below W.heap.size W w') := fun W n s => integer_is f n s W
  have CG : Hid (NumOk 45 x y r ok) := hg
  have CT : Hid (∀ W, Calls Tryz.prog 49 #[.int .i64 r] W fun e w' => e = .returned (.agg #[.int .i64 2, .int .i64 r, .string ⟨#[]⟩]) ∧ Below W.heap.size W w') := fun W => intItem_is r W
  have hbs : b < w.heap.size := (Array.getElem?_eq_some_iff.1 hb).1
  have cb : w.cell? ⟨b, 0, none⟩ = some (.func (.func 45) #[] #[]) := by rw [Lib.cell_of_heap hb]; rfl
  unfold maxLen at hcm
  have hmk := mk_ints2
  clear hb hg
  go_enter Tryz.func96, Tryz.ntmps96
  have HC : Hid (∀ W, Below w.heap.size w W → W.cell? ⟨ib, 0, none⟩ = some (.int .i64 2) ∧ W.cell? ⟨ib, 1, none⟩ = some (.int .i64 x) ∧ W.cell? ⟨ib, 2, none⟩ = some (.string sx) ∧ W.cell? ⟨ib, 3, none⟩ = some (.int .i64 2) ∧ W.cell? ⟨ib, 4, none⟩ = some (.int .i64 y) ∧ W.cell? ⟨ib, 5, none⟩ = some (.string sy) ∧ W.cell? ⟨b, 0, none⟩ = some (.func (.func 45) #[] #[]) ∧ ib < W.heap.size ∧ b < W.heap.size) := fun W hW =>
    have e := fun o => hW.cell (p := ⟨ib, o, none⟩) hib
    ⟨(e _).trans c0, (e _).trans c1, (e _).trans c2, (e _).trans c3, (e _).trans c4, (e _).trans c5, (hW.cell (p := ⟨b, 0, none⟩) hbs).trans cb, Nat.lt_of_lt_of_le hib hW.size, Nat.lt_of_lt_of_le hbs hW.size⟩
  go_wp2
  refine LoopN.wp 3 (LoopN.next ?_)
  go_wp2_with (go_at_call 97; refine (CI.out _ _ _).mono ?_; rintro e w1 ⟨rfl, hb1⟩; have HB1 : Hid (Below w.heap.size w w1) := Below.trans (by (focus (repeat (first | exact Below.refl _ _ | exact Hid.out (by assumption) | refine Below.setCell ?_ (by first | omega | (simp <;> omega)) _ | refine Below.alloc ?_ (by first | omega | (simp <;> omega)) _)))) (hb1.mono (by first | omega | (simp <;> omega))); have HN1 : Hid (w1.heap[w.heap.size + 1]? = some (.cells #[.int .i64 0, .int .i64 0] 3)) := (hb1.block _ (by first | omega | (simp <;> omega))).trans (alloc_old (alloc_newN (by simp))); have HR1 : Hid (w1.heap[w.heap.size]? = some (.cells #[.int .i64 0, .int .i64 0, .string ⟨#[]⟩] 24)) := (hb1.block _ (by first | omega | (simp <;> omega))).trans (alloc_old (alloc_old (alloc_newN rfl))); obtain ⟨n0, n1, p0, p1, pz⟩ := blk2 HN1.out; clear hb1)
  have HB2 : Hid (Below w.heap.size w (w1.setCell ⟨w.heap.size + 1, 0, none⟩ (.int .i64 x))) := HB1.out.setCell (by first | omega | (simp <;> omega)) _
  have HN2 : Hid ((w1.setCell ⟨w.heap.size + 1, 0, none⟩ (.int .i64 x)).heap[w.heap.size + 1]? = some (.cells #[.int .i64 x, .int .i64 0] 3)) := set_same HN1.out 0 _
  have HR2 : Hid ((w1.setCell ⟨w.heap.size + 1, 0, none⟩ (.int .i64 x)).heap[w.heap.size]? = some (.cells #[.int .i64 0, .int .i64 0, .string ⟨#[]⟩] 24)) := set_other HR1.out (by omega)
  obtain ⟨W1, hW1⟩ : ∃ W, W = w1.setCell ⟨w.heap.size + 1, 0, none⟩ (.int .i64 x) := ⟨_, rfl⟩
  rw [← hW1] at HB2 HN2 HR2 ⊢
  clear hW1 HB1 HN1 HR1 n0 n1 p0 p1 pz c0 c1 c2 c3 c4 c5 cb
  obtain ⟨c0, c1, c2, c3, c4, c5, cb, hi1, hi2⟩ := HC.out W1 HB2.out
  obtain ⟨n0, n1, p0, p1, pz⟩ := blk2 HN2.out
  refine LoopN.next ?_
  go_wp2_with (go_at_call 97; refine (CI.out _ _ _).mono ?_; rintro e w2 ⟨rfl, hb2⟩; have HB3 : Hid (Below w.heap.size w w2) := Below.trans (by (focus (repeat (first | exact Below.refl _ _ | exact Hid.out (by assumption) | refine Below.setCell ?_ (by first | omega | (simp <;> omega)) _ | refine Below.alloc ?_ (by first | omega | (simp <;> omega)) _)))) (hb2.mono (by have := HB2.out.size; first | omega | (simp <;> omega))); have HN3 : Hid (w2.heap[w.heap.size + 1]? = some (.cells #[.int .i64 x, .int .i64 0] 3)) := (hb2.block _ (by first | omega | (simp <;> omega))).trans (alloc_old HN2.out); have HR3 : Hid (w2.heap[w.heap.size]? = some (.cells #[.int .i64 0, .int .i64 0, .string ⟨#[]⟩] 24)) := (hb2.block _ (by first | omega | (simp <;> omega))).trans (alloc_old HR2.out); clear hb2 n0 n1 p0 p1 pz c0 c1 c2 c3 c4 c5 cb hi1 hi2; obtain ⟨n0, n1, p0, p1, pz⟩ := blk2 HN3.out)
  have HB4 : Hid (Below w.heap.size w (w2.setCell ⟨w.heap.size + 1, 1, none⟩ (.int .i64 y))) := HB3.out.setCell (by first | omega | (simp <;> omega)) _
  have HN4 : Hid ((w2.setCell ⟨w.heap.size + 1, 1, none⟩ (.int .i64 y)).heap[w.heap.size + 1]? = some (.cells #[.int .i64 x, .int .i64 y] 3)) := set_same HN3.out 1 _
  have HR4 : Hid ((w2.setCell ⟨w.heap.size + 1, 1, none⟩ (.int .i64 y)).heap[w.heap.size]? = some (.cells #[.int .i64 0, .int .i64 0, .string ⟨#[]⟩] 24)) := set_other HR3.out (by omega)
  obtain ⟨W2, hW2⟩ : ∃ W, W = w2.setCell ⟨w.heap.size + 1, 1, none⟩ (.int .i64 y) := ⟨_, rfl⟩
  rw [← hW2] at HB4 HN4 HR4 ⊢
  clear hW2 HB3 HN3 HR3 n0 n1 p0 p1 pz HB2 HN2 HR2
  obtain ⟨c0, c1, c2, c3, c4, c5, cb, hi1, hi2⟩ := HC.out W2 HB4.out
  obtain ⟨n0, n1, p0, p1, pz⟩ := blk2 HN4.out
  have CG2 : Hid (Calls Tryz.prog 45 #[.slice (some ⟨w.heap.size + 1, 0, none⟩) 2 2] W2 fun e w' => e = .returned (.tuple #[.int .i64 r, .bool ok]) ∧ Below W2.heap.size W2 w') := CG.out W2 (w.heap.size + 1) n0 n1 pz
  clear n0 n1 p0 p1 c0 c1 c2 c3 c4 c5
  refine LoopN.next ?_
  go_wp2_with (first
    | (go_at_call 45; refine CG2.out.mono ?_; rintro e w3 ⟨rfl, hb3⟩; have HB5 : Hid (Below w.heap.size w w3) := HB4.out.trans (hb3.mono HB4.out.size); have HR5 : Hid (w3.heap[w.heap.size]? = some (.cells #[.int .i64 0, .int .i64 0, .string ⟨#[]⟩] 24)) := (hb3.block _ (by first | omega | (simp <;> omega))).trans HR4.out; clear hb3 CG2)
    | (go_at_call 49; refine (CT.out _).mono ?_; rintro e w4 ⟨rfl, hb4⟩; have HB6 : Hid (Below w.heap.size w w4) := HB5.out.trans (hb4.mono HB5.out.size); have HR6 : Hid (w4.heap[w.heap.size]? = some (.cells #[.int .i64 0, .int .i64 0, .string ⟨#[]⟩] 24)) := (hb4.block _ (by have := (Array.getElem?_eq_some_iff.1 HR5.out).1; omega)).trans HR5.out; obtain ⟨q0, q1, q2, q3, q4, q5, q6⟩ := blk3 HR6.out; clear hb4))
  refine bodyPost_ret (v := .tuple #[.agg #[.int .i64 2, .int .i64 r, .string ⟨#[]⟩], .bool ok]) (by simp [results, Tryz.results96, go_sem, q0, q1, q2]) rfl ⟨rfl, ?_⟩
  (focus (repeat (first | exact Below.refl _ _ | exact Hid.out (by assumption) | refine Below.setCell ?_ (by first | omega | (simp <;> omega)) _ | refine Below.alloc ?_ (by first | omega | (simp <;> omega)) _)))
set_option maxHeartbeats 3200000 in
/-- the function of two items that is made of it -/
theorem of_rem (f : Value) (x y r : Int) (sx sy : ByteArray) (ok : Bool) (hg : NumOk 46 x y r ok) (ib b icap : Nat) (w : World) (hic : 2 ≤ icap) (hcm : icap ≤ maxLen) (hib : ib < w.heap.size) (hb : w.heap[b]? = some (.cells #[.func (.func 46) #[] #[]] 91))
    (c0 : w.cell? ⟨ib, 0, none⟩ = some (.int .i64 2)) (c1 : w.cell? ⟨ib, 1, none⟩ = some (.int .i64 x)) (c2 : w.cell? ⟨ib, 2, none⟩ = some (.string sx)) (c3 : w.cell? ⟨ib, 3, none⟩ = some (.int .i64 2)) (c4 : w.cell? ⟨ib, 4, none⟩ = some (.int .i64 y)) (c5 : w.cell? ⟨ib, 5, none⟩ = some (.string sy)) :
    Calls Tryz.prog 96 #[f, .slice (some ⟨ib, 0, none⟩) 2 icap, .pointer (some ⟨b, 0, none⟩)] w fun e w' => e = .returned (.tuple #[.agg #[.int .i64 2, .int .i64 r, .string ⟨#[]⟩], .bool ok]) ∧ Below w.heap.size w w' := by
  have CI : Hid (∀ W n s, Calls Tryz.prog 97 #[f, .agg #[.int .i64 2, .int .i64 n, .string s]] W fun e w' => e = .returned (.tuple #[.int .i64 n, .bool true]) ∧ Below W.heap.size W w') := fun W n s => integer_is f n s W
  have CG : Hid (NumOk 46 x y r ok) := hg
  have CT : Hid (∀ W, Calls Tryz.prog 49 #[.int .i64 r] W fun e w' => e = .returned (.agg #[.int .i64 2, .int .i64 r, .string ⟨#[]⟩]) ∧ Below W.heap.size W w') := fun W => intItem_is r W
  have hbs : b < w.heap.size := (Array.getElem?_eq_some_iff.1 hb).1
  have cb : w.cell? ⟨b, 0, none⟩ = some (.func (.func 46) #[] #[]) := by rw [Lib.cell_of_heap hb]; rfl
  unfold maxLen at hcm
  have hmk := mk_ints2
  clear hb hg
  go_enter Tryz.func96, Tryz.ntmps96
  have HC : Hid (∀ W, Below w.heap.size w W → W.cell? ⟨ib, 0, none⟩ = some (.int .i64 2) ∧ W.cell? ⟨ib, 1, none⟩ = some (.int .i64 x) ∧ W.cell? ⟨ib, 2, none⟩ = some (.string sx) ∧ W.cell? ⟨ib, 3, none⟩ = some (.int .i64 2) ∧ W.cell? ⟨ib, 4, none⟩ = some (.int .i64 y) ∧ W.cell? ⟨ib, 5, none⟩ = some (.string sy) ∧ W.cell? ⟨b, 0, none⟩ = some (.func (.func 46) #[] #[]) ∧ ib < W.heap.size ∧ b < W.heap.size) := fun W hW =>
    have e := fun o => hW.cell (p := ⟨ib, o, none⟩) hib
    ⟨(e _).trans c0, (e _).trans c1, (e _).trans c2, (e _).trans c3, (e _).trans c4, (e _).trans c5, (hW.cell (p := ⟨b, 0, none⟩) hbs).trans cb, Nat.lt_of_lt_of_le hib hW.size, Nat.lt_of_lt_of_le hbs hW.size⟩
  go_wp2
  refine LoopN.wp 3 (LoopN.next ?_)
  go_wp2_with (go_at_call 97; refine (CI.out _ _ _).mono ?_; rintro e w1 ⟨rfl, hb1⟩; have HB1 : Hid (Below w.heap.size w w1) := Below.trans (by (focus (repeat (first | exact Below.refl _ _ | exact Hid.out (by assumption) | refine Below.setCell ?_ (by first | omega | (simp <;> omega)) _ | refine Below.alloc ?_ (by first | omega | (simp <;> omega)) _)))) (hb1.mono (by first | omega | (simp <;> omega))); have HN1 : Hid (w1.heap[w.heap.size + 1]? = some (.cells #[.int .i64 0, .int .i64 0] 3)) := (hb1.block _ (by first | omega | (simp <;> omega))).trans (alloc_old (alloc_newN (by simp))); have HR1 : Hid (w1.heap[w.heap.size]? = some (.cells #[.int .i64 0, .int .i64 0, .string ⟨#[]⟩] 24)) := (hb1.block _ (by first | omega | (simp <;> omega))).trans (alloc_old (alloc_old (alloc_newN rfl))); obtain ⟨n0, n1, p0, p1, pz⟩ := blk2 HN1.out; clear hb1)
  have HB2 : Hid (Below w.heap.size w (w1.setCell ⟨w.heap.size + 1, 0, none⟩ (.int .i64 x))) := HB1.out.setCell (by first | omega | (simp <;> omega)) _
  have HN2 : Hid ((w1.setCell ⟨w.heap.size + 1, 0, none⟩ (.int .i64 x)).heap[w.heap.size + 1]? = some (.cells #[.int .i64 x, .int .i64 0] 3)) := set_same HN1.out 0 _
  have HR2 : Hid ((w1.setCell ⟨w.heap.size + 1, 0, none⟩ (.int .i64 x)).heap[w.heap.size]? = some (.cells #[.int .i64 0, .int .i64 0, .string ⟨#[]⟩] 24)) := set_other HR1.out (by omega)
  obtain ⟨W1, hW1⟩ : ∃ W, W = w1.setCell ⟨w.heap.size + 1, 0, none⟩ (.int .i64 x) := ⟨_, rfl⟩
  rw [← hW1] at HB2 HN2 HR2 ⊢
  clear hW1 HB1 HN1 HR1 n0 n1 p0 p1 pz c0 c1 c2 c3 c4 c5 cb
  obtain ⟨c0, c1, c2, c3, c4, c5, cb, hi1, hi2⟩ := HC.out W1 HB2.out
  obtain ⟨n0, n1, p0, p1, pz⟩ := blk2 HN2.out
  refine LoopN.next ?_
  go_wp2_with (go_at_call 97; refine (CI.out _ _ _).mono ?_; rintro e w2 ⟨rfl, hb2⟩; have HB3 : Hid (Below w.heap.size w w2) := Below.trans (by (focus (repeat (first | exact Below.refl _ _ | exact Hid.out (by assumption) | refine Below.setCell ?_ (by first | omega | (simp <;> omega)) _ | refine Below.alloc ?_ (by first | omega | (simp <;> omega)) _)))) (hb2.mono (by have := HB2.out.size; first | omega | (simp <;> omega))); have HN3 : Hid (w2.heap[w.heap.size + 1]? = some (.cells #[.int .i64 x, .int .i64 0] 3)) := (hb2.block _ (by first | omega | (simp <;> omega))).trans (alloc_old HN2.out); have HR3 : Hid (w2.heap[w.heap.size]? = some (.cells #[.int .i64 0, .int .i64 0, .string ⟨#[]⟩] 24)) := (hb2.block _ (by first | omega | (simp <;> omega))).trans (alloc_old HR2.out); clear hb2 n0 n1 p0 p1 pz c0 c1 c2 c3 c4 c5 cb hi1 hi2; obtain ⟨n0, n1, p0, p1, pz⟩ := blk2 HN3.out)
  have HB4 : Hid (Below w.heap.size w (w2.setCell ⟨w.heap.size + 1, 1, none⟩ (.int .i64 y))) := HB3.out.setCell (by first | omega | (simp <;> omega)) _
  have HN4 : Hid ((w2.setCell ⟨w.heap.size + 1, 1, none⟩ (.int .i64 y)).heap[w.heap.size + 1]? = some (.cells #[.int .i64 x, .int .i64 y] 3)) := set_same HN3.out 1 _
  have HR4 : Hid ((w2.setCell ⟨w.heap.size + 1, 1, none⟩ (.int .i64 y)).heap[w.heap.size]? = some (.cells #[.int .i64 0, .int .i64 0, .string ⟨#[]⟩] 24)) := set_other HR3.out (by omega)
  obtain ⟨W2, hW2⟩ : ∃ W, W = w2.setCell ⟨w.heap.size + 1, 1, none⟩ (.int .i64 y) := ⟨_, rfl⟩
  rw [← hW2] at HB4 HN4 HR4 ⊢
  clear hW2 HB3 HN3 HR3 n0 n1 p0 p1 pz HB2 HN2 HR2
  obtain ⟨c0, c1, c2, c3, c4, c5, cb, hi1, hi2⟩ := HC.out W2 HB4.out
  obtain ⟨n0, n1, p0, p1, pz⟩ := blk2 HN4.out
  have CG2 : Hid (Calls Tryz.prog 46 #[.slice (some ⟨w.heap.size + 1, 0, none⟩) 2 2] W2 fun e w' => e = .returned (.tuple #[.int .i64 r, .bool ok]) ∧ Below W2.heap.size W2 w') := CG.out W2 (w.heap.size + 1) n0 n1 pz
  clear n0 n1 p0 p1 c0 c1 c2 c3 c4 c5
  refine LoopN.next ?_
  go_wp2_with (first
    | (go_at_call 46; refine CG2.out.mono ?_; rintro e w3 ⟨rfl, hb3⟩; have HB5 : Hid (Below w.heap.size w w3) := HB4.out.trans (hb3.mono HB4.out.size); have HR5 : Hid (w3.heap[w.heap.size]? = some (.cells #[.int .i64 0, .int .i64 0, .string ⟨#[]⟩] 24)) := (hb3.block _ (by first | omega | (simp <;> omega))).trans HR4.out; clear hb3 CG2)
    | (go_at_call 49; refine (CT.out _).mono ?_; rintro e w4 ⟨rfl, hb4⟩; have HB6 : Hid (Below w.heap.size w w4) := HB5.out.trans (hb4.mono HB5.out.size); have HR6 : Hid (w4.heap[w.heap.size]? = some (.cells #[.int .i64 0, .int .i64 0, .string ⟨#[]⟩] 24)) := (hb4.block _ (by have := (Array.getElem?_eq_some_iff.1 HR5.out).1; omega)).trans HR5.out; obtain ⟨q0, q1, q2, q3, q4, q5, q6⟩ := blk3 HR6.out; clear hb4))
  refine bodyPost_ret (v := .tuple #[.agg #[.int .i64 2, .int .i64 r, .string ⟨#[]⟩], .bool ok]) (by simp [results, Tryz.results96, go_sem, q0, q1, q2]) rfl ⟨rfl, ?_⟩
  (focus (repeat (first | exact Below.refl _ _ | exact Hid.out (by assumption) | refine Below.setCell ?_ (by first | omega | (simp <;> omega)) _ | refine Below.alloc ?_ (by first | omega | (simp <;> omega)) _)))
end Go.Proofs.YtmoeipdchapodaaGreatDoor
