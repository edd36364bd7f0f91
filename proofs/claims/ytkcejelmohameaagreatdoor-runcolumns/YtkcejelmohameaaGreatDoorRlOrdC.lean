/-
  CONTRACTS: the order of rows (the function value of rel.order, rel.order).
-/
import Derived.Test.YtkcejelmohameaaGreatDoorRlOrd
import Derived.Test.YtkcejelmohameaaGreatDoorRlCMap
import Derived.Test.YtkcejelmohameaaGreatDoorRlCMap
import Derived.Deep.QuietTactic
import Derived.BigQuiet
import Derived.Shelf.SlSortCmp.NoneTotal
import Derived.Shelf.SlSortCmp.QuietGrown
import Derived.Sort.AtCall
set_option linter.unusedVariables false
namespace Go.Proofs.YtkcejelmohameaaGreatDoor
set_option maxRecDepth 100000
open Go.RowKit Go.WideShapes

theorem grow_two (w : World) (o o' : Obj) : ∃ os, (w.alloc o).alloc o' = Go.Sort.grow w os := ⟨#[o] ++ #[o'], by rw [Go.Sort.alloc_eq_grow, Go.Sort.alloc_eq_grow, Go.Sort.grow_grow]⟩
set_option maxHeartbeats 800000 in
theorem compare_grow (k n : Int) (s : ByteArray) (k' n' : Int) (s' : ByteArray) (w : World) :
    Calls Tryz.prog 90 #[.agg #[.int .i64 k, .int .i64 n, .string s], .agg #[.int .i64 k', .int .i64 n', .string s']] w fun e w' => e = .returned (.int .i64 (cmpI k n s k' n' s')) ∧ ∃ os, w' = Go.Sort.grow w os := by
  have C1 : Hid (∀ W, Calls Tryz.prog 117 #[.int .i64 k, .int .i64 k'] W fun e w' => e = .returned (.int .i64 (Lib.compareInt k k')) ∧ w' = W) := fun W => Tryz.cmp_Compare_int k k' W
  have C2 : Hid (∀ W, Calls Tryz.prog 117 #[.int .i64 n, .int .i64 n'] W fun e w' => e = .returned (.int .i64 (Lib.compareInt n n')) ∧ w' = W) := fun W => Tryz.cmp_Compare_int n n' W
  have C3 : Hid (∀ W, Calls Tryz.prog 118 #[.string s, .string s'] W fun e w' => e = .returned (.int .i64 (Lib.compareBytes s.data.toList s'.data.toList)) ∧ w' = W) := fun W => Tryz.strings_Compare s s' W
  have HB : Hid (∀ o o', ∃ os, (w.alloc o).alloc o' = Go.Sort.grow w os) := fun o o' => grow_two w o o'
  rcases Int.lt_trichotomy k k' with hk | hk | hk
  · have HR : Hid (cmpI k n s k' n' s' = -1) := if_pos hk
    rw [compareInt_lt hk] at C1
    clear hk
    generalize cmpI k n s k' n' s' = R at *
    go_enter Tryz.func90, Tryz.ntmps90
    go_wp2_with (first | (go_at_call 117; refine (C1.out _).mono ?_; rintro e w1 ⟨rfl, rfl⟩))
    go_ret
    exact ⟨ret_intC HR.out.symm, HB.out _ _⟩
  · subst hk
    rw [compareInt_eq rfl] at C1
    rcases Int.lt_trichotomy n n' with hn | hn | hn
    · have HR : Hid (cmpI k n s k n' s' = -1) := by
        have h : cmpI k n s k n' s' = -1 := by unfold cmpI; rw [if_neg (by omega), if_neg (by omega), if_pos hn]
        exact h
      rw [compareInt_lt hn] at C2
      clear hn
      generalize cmpI k n s k n' s' = R at *
      go_enter Tryz.func90, Tryz.ntmps90
      go_wp2_with (first | (go_at_call 117; refine (C1.out _).mono ?_; rintro e w1 ⟨rfl, rfl⟩; clear C1) | (go_at_call 117; refine (C2.out _).mono ?_; rintro e w1 ⟨rfl, rfl⟩))
      go_ret
      exact ⟨ret_intC HR.out.symm, HB.out _ _⟩
    · subst hn
      have HR : Hid (cmpI k n s k n s' = Lib.compareBytes s.data.toList s'.data.toList) := by
        have h : cmpI k n s k n s' = Lib.compareBytes s.data.toList s'.data.toList := by unfold cmpI; rw [if_neg (by omega), if_neg (by omega), if_neg (by omega), if_neg (by omega)]
        exact h
      rw [compareInt_eq rfl] at C2
      generalize cmpI k n s k n s' = R at *
      go_enter Tryz.func90, Tryz.ntmps90
      go_wp2_with (first | (go_at_call 117; refine (C1.out _).mono ?_; rintro e w1 ⟨rfl, rfl⟩; clear C1) | (go_at_call 117; refine (C2.out _).mono ?_; rintro e w1 ⟨rfl, rfl⟩) | (go_at_call 118; refine (C3.out _).mono ?_; rintro e w1 ⟨rfl, rfl⟩))
      go_ret
      exact ⟨ret_intC HR.out.symm, HB.out _ _⟩
    · have HR : Hid (cmpI k n s k n' s' = 1) := by
        have h : cmpI k n s k n' s' = 1 := by unfold cmpI; rw [if_neg (by omega), if_neg (by omega), if_neg (by omega), if_pos hn]
        exact h
      rw [compareInt_gt hn] at C2
      clear hn
      generalize cmpI k n s k n' s' = R at *
      go_enter Tryz.func90, Tryz.ntmps90
      go_wp2_with (first | (go_at_call 117; refine (C1.out _).mono ?_; rintro e w1 ⟨rfl, rfl⟩; clear C1) | (go_at_call 117; refine (C2.out _).mono ?_; rintro e w1 ⟨rfl, rfl⟩))
      go_ret
      exact ⟨ret_intC HR.out.symm, HB.out _ _⟩
  · have HR : Hid (cmpI k n s k' n' s' = 1) := by
      have h : cmpI k n s k' n' s' = 1 := by unfold cmpI; rw [if_neg (by omega), if_pos hk]
      exact h
    rw [compareInt_gt hk] at C1
    clear hk
    generalize cmpI k n s k' n' s' = R at *
    go_enter Tryz.func90, Tryz.ntmps90
    go_wp2_with (first | (go_at_call 117; refine (C1.out _).mono ?_; rintro e w1 ⟨rfl, rfl⟩))
    go_ret
    exact ⟨ret_intC HR.out.symm, HB.out _ _⟩

theorem grow_drewN (w : World) (os : Array Obj) (q : Nat) : (Go.Sort.grow w os).drewN q = Go.Sort.grow (w.drewN q) os := rfl
theorem grown_more (w : World) (q q' : Nat) (os os' : Array Obj) : Go.Sort.grow ((Go.Sort.grow (w.drewN q) os).drewN q') os' = Go.Sort.grow (w.drewN (q + q')) (os ++ os') := by rw [grow_drewN, Go.Sort.grow_grow, World.drewN_drewN]
theorem grown_chain (w : World) (q : Nat) (os : Array Obj) : Chain w (Go.Sort.grow (w.drewN q) os) :=
  Below.trans (below_drawn (Below.refl _ _) q) ⟨rfl, rfl, rfl, by simp, fun k hk => Go.Sort.heap_grow_old _ _ (by simpa using hk)⟩
theorem ordI_at {Z : Nat → Nat → It} {n i j k : Nat} (hk : k < n) (h : ∀ t, t < k → Z i t = Z j t) (hc : cmpT (Z i k) (Z j k) ≠ 0) : ordI Z n i j = cmpT (Z i k) (Z j k) := by
  unfold ordI keyC
  rw [firstE_err hk (fun t ht => by rw [h t ht]; exact cmpT_eq _) hc, if_neg hc]
theorem ordI_end {Z : Nat → Nat → It} {n i j : Nat} (h : ∀ t, t < n → Z i t = Z j t) : ordI Z n i j = Lib.compareInt i j := by
  unfold ordI
  rw [keyC_eq h, if_pos rfl]
set_option maxHeartbeats 3200000 in
theorem order1_is (gb gr np m n : Nat) (bv rv : Value) (Q : Nat → Nat) (R : Nat → Row) (i j : Nat) (w : World) (hb : IntsIs w bv np Q) (hr : RowsIs w rv m R) (hcb : w.cell? ⟨gb, 0, none⟩ = some bv) (hcr : w.cell? ⟨gr, 0, none⟩ = some rv) (hgb : gb < w.heap.size) (hgr : gr < w.heap.size) (hi : i < m) (hj : j < m) (hm : m ≤ 1000000) (hQ : ∀ t, t < np → Q t < n) (hlen : ∀ i, i < m → (R i).len = n) :
    Calls Tryz.prog 193 #[.int .i64 (i : Int), .int .i64 (j : Int), .pointer (some ⟨gb, 0, none⟩), .pointer (some ⟨gr, 0, none⟩)] w fun e w' => e = .returned (.int .i64 (ordI (fun i t => (R i).at_ (Q t)) np i j)) ∧ ∃ q os, w' = Go.Sort.grow (w.drewN q) os := by
  obtain ⟨ba, bcap, rfl, b1, b2, b3⟩ := hb
  have HB : Hid (∀ W k, Chain w W → k < np → ∃ b off, ba = some ⟨b, off, none⟩ ∧ W.cell? ⟨b, off + k, none⟩ = some (.int .i64 (Q k : Int))) := fun W k hW hk => by
    obtain ⟨b, off, e1, e2, e3⟩ := b3 (by omega)
    exact ⟨b, off, e1, (Below.cell hW (p := ⟨b, off + k, none⟩) e2).trans (e3 k hk)⟩
  obtain ⟨ra, rcap, rfl, r1, r2, _, r3⟩ := hr
  have HR : Hid (∀ W k, Chain w W → k < m → ∃ b off u, ra = some ⟨b, off, none⟩ ∧ b < W.heap.size ∧ W.cell? ⟨b, off + k, none⟩ = some u ∧ ItsIs W u n (R k).at_) := fun W k hW hk => by
    obtain ⟨b, off, e1, e2, e3⟩ := r3 (by omega)
    obtain ⟨u, e4, e5⟩ := e3 k hk
    rw [hlen k hk] at e5
    exact ⟨b, off, u, e1, Nat.lt_of_lt_of_le e2 (Below.size hW), (Below.cell hW (p := ⟨b, off + k, none⟩) e2).trans e4, e5.below hW⟩
  have HV : Hid (∀ W, Chain w W → (W.cell? ⟨gb, 0, none⟩ = some (.slice ba np bcap) ∧ gb < W.heap.size) ∧ (W.cell? ⟨gr, 0, none⟩ = some (.slice ra m rcap) ∧ gr < W.heap.size)) := fun W hW => ⟨⟨(Below.cell hW (p := ⟨gb, 0, none⟩) hgb).trans hcb, Nat.lt_of_lt_of_le hgb (Below.size hW)⟩, ⟨(Below.cell hW (p := ⟨gr, 0, none⟩) hgr).trans hcr, Nat.lt_of_lt_of_le hgr (Below.size hW)⟩⟩
  have HQ : Hid (∀ t, t < np → Q t < n) := hQ
  obtain ⟨Z, hZ⟩ : ∃ Z : Nat → Nat → It, Z = fun i t => (R i).at_ (Q t) := ⟨_, rfl⟩
  have HZ : Hid (∀ i t, Z i t = (R i).at_ (Q t)) := fun i t => by rw [hZ]
  have CC : Hid (∀ W, Calls Tryz.prog 117 #[.int .i64 (i : Int), .int .i64 (j : Int)] W fun e w' => e = .returned (.int .i64 (Lib.compareInt i j)) ∧ w' = W) := fun W => Tryz.cmp_Compare_int i j W
  have hnp : np ≤ 9223372036854775807 := by unfold maxLen at b2; omega
  rw [← hZ]
  clear hZ b3 r3 hlen hQ b2 r2
  go_enter Tryz.func193, Tryz.ntmps193
  go_wp2_with fail
  have mixed : Tryz.prog.follows .mixedOrders = true := by kernel_rfl
  go_loopw [12] (fun v wr => ∃ k q os, k ≤ np ∧ v = .int .i64 (k : Nat) ∧ wr = Go.Sort.grow (w.drewN q) os ∧ ∀ t, t < k → Z i t = Z j t) (fun v _ => np - (intOf v).toNat)
  case atStart => exact ⟨0, 0, #[], Nat.zero_le _, rfl, (Go.Sort.grow_empty _).symm, fun t ht => absurd ht (Nat.not_lt_zero _)⟩
  case round =>
    obtain ⟨k, q, os, hk, rfl, hwr, hsame⟩ := hrel
    have HW : Hid (wr = Go.Sort.grow (w.drewN q) os) := hwr
    have HSA : Hid (∀ t, t < k → Z i t = Z j t) := hsame
    have hch : Chain w wr := by rw [hwr]; exact grown_chain w q os
    have HCH : Hid (Chain w wr) := hch
    clear hwr hsame
    obtain ⟨⟨v0, v1⟩, ⟨v2, v3⟩⟩ := HV.out wr hch
    by_cases hlt : k < np
    · obtain ⟨b, off, rfl, e1⟩ := HB.out wr k hch hlt
      obtain ⟨rb, ro, u, rfl, hrb, e2, hu⟩ := HR.out wr i hch hi
      obtain ⟨rb', ro', u', ee, _, e3, hu'⟩ := HR.out wr j hch hj
      simp only [Option.some.injEq, Addr.mk.injEq, and_true] at ee
      obtain ⟨rfl, rfl⟩ := ee
      have hqn := HQ.out k hlt
      obtain ⟨ua, uc, rfl, u1, u2, _, u3⟩ := hu
      obtain ⟨ua', uc', rfl, u1', u2', _, u3'⟩ := hu'
      obtain ⟨ub, uo, rfl, hub, u4⟩ := u3 (by omega)
      obtain ⟨ub', uo', rfl, hub', u4'⟩ := u3' (by omega)
      obtain ⟨x0, x1, x2⟩ := u4 (Q k) hqn
      obtain ⟨y0, y1, y2⟩ := u4' (Q k) hqn
      have hki : (k : Int) < (np : Int) := by omega
      have hii : (i : Int) < (m : Int) := by omega
      have hji : (j : Int) < (m : Int) := by omega
      have hqi : (Q k : Int) < (n : Int) := by omega
      have CJ : Hid (∀ W, Calls Tryz.prog 90 #[.agg #[.int .i64 ((R i).at_ (Q k)).kind, .int .i64 ((R i).at_ (Q k)).n, .string ((R i).at_ (Q k)).s], .agg #[.int .i64 ((R j).at_ (Q k)).kind, .int .i64 ((R j).at_ (Q k)).n, .string ((R j).at_ (Q k)).s]] W fun e w' => e = .returned (.int .i64 (cmpT ((R i).at_ (Q k)) ((R j).at_ (Q k)))) ∧ ∃ q os', w' = Go.Sort.grow (W.drewN q) os') := fun W => (compare_grow _ _ _ _ _ _ W).mono fun e w' ⟨he, os', hw⟩ => ⟨he, 0, os', hw⟩
      have f0 := fun nn oo => cell_grown v3 v2 nn oo
      have f1 := fun nn oo => cell_grown (a := ⟨rb, ro + i, none⟩) hrb e2 nn oo
      have f2 := fun nn oo => cell_grown (a := ⟨rb, ro + j, none⟩) hrb e3 nn oo
      have f3 := fun nn oo => cell_grown (a := ⟨ub, uo + Q k * 3, none⟩) hub x0 nn oo
      have f4 := fun nn oo => cell_grown (a := ⟨ub, uo + Q k * 3 + 1, none⟩) hub x1 nn oo
      have f5 := fun nn oo => cell_grown (a := ⟨ub, uo + Q k * 3 + 2, none⟩) hub x2 nn oo
      have f6 := fun nn oo => cell_grown (a := ⟨ub', uo' + Q k * 3, none⟩) hub' y0 nn oo
      have f7 := fun nn oo => cell_grown (a := ⟨ub', uo' + Q k * 3 + 1, none⟩) hub' y1 nn oo
      have f8 := fun nn oo => cell_grown (a := ⟨ub', uo' + Q k * 3 + 2, none⟩) hub' y2 nn oo
      have HX : Hid (Z i k = (R i).at_ (Q k)) := HZ.out i k
      have HY : Hid (Z j k = (R j).at_ (Q k)) := HZ.out j k
      generalize (R i).at_ (Q k) = X at *
      generalize (R j).at_ (Q k) = Y at *
      clear u3 u3' u4 u4' e2 e3 x0 x1 x2 y0 y1 y2 hch v2 v0 hub hub' hrb
      go_upto_region 4 with fail
      go_quiet_grown ((go_at_call 90; refine Calls.grown_of (CJ.out _)))
      have HW2 : Hid (∃ q' os', Go.Sort.grow (wr.drewN nq) osq = Go.Sort.grow (w.drewN q') os') := by
        rw [HW.out]
        exact ⟨_, _, grown_more w q nq os osq⟩
      by_cases hc : cmpT X Y = 0
      · have HXY : Hid (Z i k = Z j k) := HX.out.trans ((cmpT_zero hc).trans HY.out.symm)
        rw [hc]
        clear hc
        go_wp2_with fail
        go_roundw
        case rel =>
          obtain ⟨q', os', hw'⟩ := HW2.out
          exact ⟨k + 1, q', os', by omega, by go_num, hw', fun t ht => if e : t = k then e ▸ HXY.out else HSA.out t (by omega)⟩
        case measure => simp [intOf]; omega
      · have HR2 : Hid (ordI Z np i j = cmpT X Y) := by
          have h := ordI_at (Z := Z) (n := np) (i := i) (j := j) hlt HSA.out (by rw [HX.out, HY.out]; exact hc)
          rw [HX.out, HY.out] at h
          exact h
        have hc' : (cmpT X Y != 0) = true := by simpa using hc
        clear hc
        generalize cmpT X Y = C at *
        go_wp2_with fail
        go_ret
        exact ⟨ret_intC HR2.out.symm, HW2.out⟩
    · have e : k = np := by omega
      subst e
      have HR2 : Hid (ordI Z k i j = Lib.compareInt i j) := ordI_end HSA.out
      go_wp2_with (go_at_call 117; refine (CC.out _).mono ?_; rintro e w1 ⟨rfl, hw1⟩; obtain rfl := hw1)
      go_ret
      exact ⟨ret_intC HR2.out.symm, q, os, HW.out⟩
/-- room for k numbers -/
def RoomO (W : World) (g k : Nat) : Prop := ∀ o, o < k → (∃ v, W.cell? ⟨g, o, none⟩ = some v) ∧ W.frozen? ⟨g, o, none⟩ = false
theorem RoomO.setCell {W : World} {g k : Nat} (h : RoomO W g k) (a : Addr) (u : Value) : RoomO (W.setCell a u) g k := fun o ho => by
  obtain ⟨⟨v, hv⟩, hf⟩ := h o ho
  refine ⟨?_, by rw [World.frozen?_setCell]; exact hf⟩
  by_cases e : a = ⟨g, o, none⟩
  · subst e; exact ⟨u, set_same hv⟩
  · exact ⟨v, (set_other e).trans hv⟩
theorem RoomO.made (w : World) (Z : Array Value) (T : TypeId) (k g : Nat) (hz : Z.size = k * 1) (hg : w.heap.size = g) : RoomO (w.alloc (.cells Z T)) g k := fun o ho => by
  subst hg
  have ho' : o < Z.size := by omega
  refine ⟨⟨Z[o], ?_⟩, ?_⟩
  · simp [ho']
  · simp
theorem make_intsO (k : Nat) (hk : k ≤ 1000000) : ∃ Z : Array Value, Z.size = k * 1 ∧ ∀ W : World, (Instr.makeSlice 34 (.int .i64 (k : Int)) (.int .i64 (k : Int))).run Tryz.prog W = .ok (.slice (some ⟨W.heap.size, 0, none⟩) k k) (W.alloc (.cells Z 3)) := by
  obtain ⟨i0, hi0, hz0, hz1, hz2⟩ := info_parts infoInt
  refine ⟨madeCells (Value.cells (.int .i64 0)) (k * i0.size), ?_, fun W => ?_⟩
  · rw [size_madeCells, hz1]
  · have h := run_make (P := Tryz.prog) W 34 3 i0 _ Tryz.underlying34 hi0 hz0 .i64 .i64 k k (by omega) (Int.le_refl _) (by rw [hz2]; omega) (by omega)
    simp only [Int.toNat_natCast] at h
    exact h
def encF {m : Nat} (x : Fin m) : Value := .int .i64 (x.val : Int)
theorem sort_size {α : Type} [Inhabited α] (enc : α → Value) (w : World) (blk off q : Nat) (dk : Array α) (os : Array Obj) : w.heap.size ≤ (sortWorld enc w blk off q dk os).heap.size := by
  unfold sortWorld
  simp
theorem sort_below {α : Type} [Inhabited α] (enc : α → Value) (w : World) (blk off q : Nat) (dk : Array α) (os : Array Obj) {B : Nat} (hB : B ≤ blk) (hB2 : B ≤ w.heap.size) : Below B w (sortWorld enc w blk off q dk os) := by
  refine ⟨rfl, rfl, rfl, sort_size _ _ _ _ _ _ _, fun k hk => ?_⟩
  unfold sortWorld
  rw [Go.Sort.heap_grow_old _ _ (by simp; omega)]
  have : blk ≠ k := by omega
  simp [Go.Sort.putRow, Go.Sort.mapBlock, Go.Sort.ahead, Array.getElem?_modify, this]
/-- the value is a list of n numbers, behind B -/
def IntsFrom (w : World) (B : Nat) (v : Value) (n : Nat) (P : Nat → Nat) : Prop :=
  ∃ a cap, v = .slice a n cap ∧ n ≤ cap ∧ cap ≤ maxLen ∧ (0 < n → ∃ b off, a = some ⟨b, off, none⟩ ∧ B ≤ b ∧ b < w.heap.size ∧ ∀ i, i < n → w.cell? ⟨b, off + i, none⟩ = some (.int .i64 (P i : Int)))
theorem fin_list {m i : Nat} (L : List (Fin m)) (A : List Nat) (h : L.map Fin.val = A) (hi : i < A.length) [Inhabited (Fin m)] : encF (L.toArray[i]!) = .int .i64 ((A.getD i 0 : Nat) : Int) := by
  subst h
  have hi' : i < L.length := by simpa using hi
  unfold encF
  simp [hi']
set_option maxHeartbeats 3200000 in
theorem order_some (rv bv : Value) (np m n : Nat) (Q : Nat → Nat) (R : Nat → Row) (w : World) (hb : IntsIs w bv np Q) (hr : RowsIs w rv m R) (hm0 : 0 < m) (hm : m ≤ 1000000) (hQ : ∀ t, t < np → Q t < n) (hlen : ∀ i, i < m → (R i).len = n) :
    Calls Tryz.prog 149 #[rv, bv] w fun e w' => ∃ v, e = .returned v ∧ IntsFrom w' w.heap.size v m (ordA (fun i t => (R i).at_ (Q t)) np m) ∧ (∃ a c, v = .slice a m c) ∧ Chain w w' := by
  haveI : Inhabited (Fin m) := ⟨⟨0, hm0⟩⟩
  obtain ⟨Z, hZ, hmk⟩ := make_intsO m hm
  have HO : Hid (∀ (W : World) (gb gr i j : Nat), Chain w W → W.cell? ⟨gb, 0, none⟩ = some bv → W.cell? ⟨gr, 0, none⟩ = some rv → gb < W.heap.size → gr < W.heap.size → i < m → j < m → Calls Tryz.prog 193 #[.int .i64 (i : Int), .int .i64 (j : Int), .pointer (some ⟨gb, 0, none⟩), .pointer (some ⟨gr, 0, none⟩)] W fun e w' => e = .returned (.int .i64 (ordI (fun i t => (R i).at_ (Q t)) np i j)) ∧ ∃ q os, w' = Go.Sort.grow (W.drewN q) os) := fun W gb gr i j hW h1 h2 h3 h4 h5 h6 => order1_is gb gr np m n bv rv Q R i j W (hb.below hW) (hr.below hW) h1 h2 h3 h4 h5 h6 hm hQ hlen
  generalize (fun i t => (R i).at_ (Q t)) = ZZ at *
  obtain ⟨ba, bcap, rfl, _⟩ := hb
  obtain ⟨ra, rcap, rfl, _⟩ := hr
  clear hQ hlen
  have hmf : ∀ (fn : Fn) (first cap : Array Value) (w : World), (Instr.makeFunc fn first cap).run Tryz.prog w = .ok (.func fn first cap) w := fun _ _ _ _ => rfl
  go_enter Tryz.func149, Tryz.ntmps149
  go_wp2_with fail
  obtain ⟨w2, hw2⟩ : ∃ W, W = (w.alloc (.cells #[.slice ra m rcap] 38)).alloc (.cells #[.slice ba np bcap] 34) := ⟨_, rfl⟩
  have HG : Hid (w2.heap.size = w.heap.size + 1 + 1) := by
    have h : w2.heap.size = w.heap.size + 1 + 1 := by rw [hw2]; simp
    exact h
  have HB2 : Hid (Chain w w2) := by
    have h : Chain w w2 := by rw [hw2]; exact ((Chain.refl _).alloc _).alloc _
    exact h
  have HBX : Hid (w2.cell? ⟨w.heap.size, 0, none⟩ = some (.slice ra m rcap) ∧ w2.cell? ⟨w.heap.size + 1, 0, none⟩ = some (.slice ba np bcap)) := by
    have h : w2.cell? ⟨w.heap.size, 0, none⟩ = some (.slice ra m rcap) ∧ w2.cell? ⟨w.heap.size + 1, 0, none⟩ = some (.slice ba np bcap) := by rw [hw2]; exact ⟨by simp [go_sem], by simp [go_sem]⟩
    exact h
  rw [← hw2]
  clear hw2 hmk
  have HZ : Hid (RoomO (w2.alloc (.cells Z 3)) (w.heap.size + 1 + 1) m) := RoomO.made w2 Z 3 m _ hZ HG.out
  go_loopw [12] (fun v wr => ∃ k : Nat, k ≤ m ∧ v = .int .i64 k ∧ RoomO wr (w.heap.size + 1 + 1) m ∧ (∀ i, i < k → wr.cell? ⟨w.heap.size + 1 + 1, i, none⟩ = some (.int .i64 (i : Int))) ∧ Below (w.heap.size + 1 + 1) w2 wr ∧ w.heap.size + 1 + 1 < wr.heap.size) (fun v _ => m - (intOf v).toNat)
  case atStart => exact ⟨0, Nat.zero_le _, rfl, HZ.out, fun i hi => absurd hi (Nat.not_lt_zero _), (Below.refl _ _).alloc (by rw [HG.out]; exact Nat.le_refl _) _, by simp [HG.out]⟩
  case round =>
    obtain ⟨k, hk, rfl, hroom, hints, hbr, hsz⟩ := hrel
    have HROOM : Hid (RoomO wr (w.heap.size + 1 + 1) m) := hroom
    have HINTS : Hid (∀ i, i < k → wr.cell? ⟨w.heap.size + 1 + 1, i, none⟩ = some (.int .i64 (i : Int))) := hints
    have HBR : Hid (Below (w.heap.size + 1 + 1) w2 wr) := hbr
    clear hroom hints hbr
    by_cases hlt : k < m
    · obtain ⟨⟨v0, r0⟩, f0⟩ := HROOM.out k hlt
      have hki : (k : Int) < (m : Int) := by omega
      have HP : Hid (∀ i, i < k + 1 → (wr.setCell ⟨w.heap.size + 1 + 1, k, none⟩ (.int .i64 (k : Int))).cell? ⟨w.heap.size + 1 + 1, i, none⟩ = some (.int .i64 (i : Int))) := fun i hi => by
        by_cases e : i = k
        · subst e; exact set_same r0
        · rw [set_other (by simp <;> omega)]; exact HINTS.out i (by omega)
      go_wp2_with fail
      go_roundw
      case rel => exact ⟨k + 1, by omega, by go_num, HROOM.out.setCell _ _, HP.out, HBR.out.setCell (Nat.le_refl _) _, by simpa using hsz⟩
      case measure => simp [intOf]; omega
    · have e : k = m := by omega
      subst e
      obtain ⟨d, hd1, hd2⟩ : ∃ d : Array (Fin k), d.size = k ∧ d.toList = List.finRange k := ⟨(List.finRange k).toArray, by simp, by simp⟩
      have hH : Go.Sort.Holds encF wr (w.heap.size + 1 + 1) 0 d := fun j hj => by
        have hj' : j < k := by omega
        rw [Nat.zero_add]
        refine ⟨?_, (HROOM.out j hj').2⟩
        rw [HINTS.out j hj']
        unfold encF
        have h1 : d[j]! = ⟨j, hj'⟩ := by
          have h2 : d = (List.finRange k).toArray := by rw [← hd2]
          subst h2
          simp [hj']
        rw [h1]
      have hcmp : CmpLays1 Tryz.prog 193 #[.pointer (some ⟨w.heap.size + 1, 0, none⟩), .pointer (some ⟨w.heap.size, 0, none⟩)] encF (ordF ZZ np k) (w.heap.size + 1 + 1) 0 d.size wr := fun q os dk _ x y => by
        have hbs : Below (w.heap.size + 1 + 1) w2 (sortWorld encF wr (w.heap.size + 1 + 1) 0 q dk os) := HBR.out.trans (sort_below encF wr (w.heap.size + 1 + 1) 0 q dk os (Nat.le_refl _) (by omega))
        have hz := hbs.size
        have hg := HG.out
        exact HO.out _ (w.heap.size + 1) w.heap.size x.val y.val (Below.trans HB2.out (hbs.mono (by omega))) ((hbs.cell (p := ⟨w.heap.size + 1, 0, none⟩) (by simp)).trans HBX.out.2) ((hbs.cell (p := ⟨w.heap.size, 0, none⟩) (by simp; omega)).trans HBX.out.1) (by omega) (by omega) x.isLt y.isLt
      have CS : Hid (Calls Tryz.prog 192 #[.slice (some ⟨w.heap.size + 1 + 1, 0, none⟩) k k, .func (.func 193) #[] #[.pointer (some ⟨w.heap.size + 1, 0, none⟩), .pointer (some ⟨w.heap.size, 0, none⟩)]] wr fun e w' => e = .returned (.tuple #[]) ∧ Chain w w' ∧ IntsFrom w' w.heap.size (.slice (some ⟨w.heap.size + 1 + 1, 0, none⟩) k k) k (ordA ZZ np k)) := by
        have h := Tryz.slices_SortFunc_total encF (fun _ => rfl) (ordF ZZ np k) (ordF_swo ZZ np k) 193 #[.pointer (some ⟨w.heap.size + 1, 0, none⟩), .pointer (some ⟨w.heap.size, 0, none⟩)] (w.heap.size + 1 + 1) 0 k d wr (fun _ _ => rfl) hcmp hH hsz (by omega) (ordF_tot ZZ np k)
        rw [hd1, hd2] at h
        refine h.mono ?_
        rintro e w' ⟨rfl, q, os, rfl⟩
        have hl := ordF_list ZZ np k
        have hln : ((List.finRange k).mergeSort fun x y => !(ltOf (ordF ZZ np k)) y x).length = k := by rw [List.length_mergeSort, List.length_finRange]
        have hgg := HG.out
        refine ⟨rfl, HB2.out.trans ((HBR.out.mono (by omega)).trans (sort_below encF wr (w.heap.size + 1 + 1) 0 q _ os (by omega) (by omega))), _, k, rfl, Nat.le_refl _, by unfold maxLen; omega, fun _ => ⟨w.heap.size + 1 + 1, 0, rfl, by omega, Nat.lt_of_lt_of_le hsz (sort_size _ _ _ _ _ _ _), fun i hi => ?_⟩⟩
        have hh := (SW.holds (enc := encF) (w0 := wr) (dk := (((List.finRange k).mergeSort fun x y => !(ltOf (ordF ZZ np k)) y x)).toArray) ⟨q, os, rfl⟩ hsz hH (by simp [hd1])) i (by simpa using hi)
        rw [hh.1]
        unfold ordA
        exact congrArg some (fin_list _ _ hl (by rw [ordL_len]; exact hi))
      clear hH hcmp hd1 hd2
      go_wp2_with (go_at_call 192; refine CS.out.mono ?_; rintro e w5 ⟨rfl, hb5, hi5⟩; have HB5 : Hid (Chain w w5) := hb5; have HI5 : Hid (IntsFrom w5 w.heap.size (.slice (some ⟨w.heap.size + 1 + 1, 0, none⟩) k k) k (ordA ZZ np k)) := hi5; clear hb5 hi5)
      go_ret
      exact ⟨_, rfl, HI5.out, ⟨_, _, rfl⟩, HB5.out⟩
set_option maxHeartbeats 3200000 in
theorem order_none (rv bv : Value) (np : Nat) (Q : Nat → Nat) (R : Nat → Row) (w : World) (hb : IntsIs w bv np Q) (hr : RowsIs w rv 0 R) :
    Calls Tryz.prog 149 #[rv, bv] w fun e w' => ∃ v, e = .returned v ∧ (∃ a c, v = .slice a 0 c ∧ c ≤ maxLen) ∧ Chain w w' := by
  obtain ⟨Z, hZ, hmk⟩ := make_intsO 0 (by omega)
  have CS : Hid (∀ W p cap fv, Calls Tryz.prog 192 #[.slice p 0 cap, fv] W fun e w' => e = .returned (.tuple #[]) ∧ w' = W) := fun W p cap fv => Tryz.slices_SortFunc_none (α := Nat) p cap fv W
  obtain ⟨ba, bcap, rfl, _⟩ := hb
  obtain ⟨ra, rcap, rfl, _⟩ := hr
  have hmf : ∀ (fn : Fn) (first cap : Array Value) (w : World), (Instr.makeFunc fn first cap).run Tryz.prog w = .ok (.func fn first cap) w := fun _ _ _ _ => rfl
  rw [show ((0 : Nat) : Int) = 0 from rfl] at hmk
  go_enter Tryz.func149, Tryz.ntmps149
  go_wp2_with fail
  go_loopw [12] (fun v wr => v = .int .i64 0 ∧ Chain w wr) (fun _ _ => 0)
  case atStart => exact ⟨rfl, (((Chain.refl _).alloc _).alloc _).alloc _⟩
  case round =>
    obtain ⟨rfl, hch⟩ := hrel
    have HCH : Hid (Chain w wr) := hch
    clear hch
    go_wp2_with (go_at_call 192; refine (CS.out _ _ _ _).mono ?_; rintro e w5 ⟨rfl, hw5⟩; obtain rfl := hw5)
    go_ret
    exact ⟨_, rfl, ⟨_, _, rfl, by unfold maxLen; omega⟩, HCH.out⟩
theorem order_is (rv bv : Value) (np m n : Nat) (Q : Nat → Nat) (R : Nat → Row) (w : World) (hb : IntsIs w bv np Q) (hr : RowsIs w rv m R) (hm : m ≤ 1000000) (hQ : ∀ t, t < np → Q t < n) (hlen : ∀ i, i < m → (R i).len = n) :
    Calls Tryz.prog 149 #[rv, bv] w fun e w' => ∃ v, e = .returned v ∧ IntsFrom w' w.heap.size v m (ordA (fun i t => (R i).at_ (Q t)) np m) ∧ (∃ a c, v = .slice a m c) ∧ Chain w w' := by
  rcases Nat.eq_zero_or_pos m with h | h
  · subst h
    refine (order_none rv bv np Q R w hb hr).mono ?_
    rintro e w' ⟨v, h1, ⟨a, c, rfl, h2⟩, h3⟩
    exact ⟨_, h1, ⟨a, c, rfl, Nat.zero_le _, h2, fun h => absurd h (Nat.lt_irrefl _)⟩, ⟨a, c, rfl⟩, h3⟩
  · exact order_some rv bv np m n Q R w hb hr h hm hQ hlen
end Go.Proofs.YtkcejelmohameaaGreatDoor
