/-
  CONTRACTS of package run at a plan of two ops, a table and a function of its two columns: the plan; places, columns, tables.
-/
import Derived.Test.YtmoeipdchapodaaGreatDoorRlItem
import Derived.Test.YtmoeipdchapodaaGreatDoorRuVal
import Derived.Test.YtmoeipdchapodaaGreatDoorRlPairs
import Derived.Test.YtmoeipdchapodaaGreatDoorRlRel
import Derived.Test.YtmoeipdchapodaaGreatDoorRlCol
import Derived.Deep.QuietTactic
import Derived.Deep.Cut
import Derived.BigQuiet
import Derived.Deep.RegionLaw
import Derived.Laws.EntriesVeiled
set_option linter.unusedVariables false
namespace Go.Proofs.YtmoeipdchapodaaGreatDoor
open Go.RowKit

/-- what is said of an item -/
def itemF (x : It) : Int := if mayI x = true then 0 else 12
set_option maxHeartbeats 400000 in
theorem checkItem_any (k n : Int) (s : ByteArray) (w : World) (hs : s.size ≤ maxLen) (hT : Tabs w) :
    Calls Tryz.prog 125 #[.agg #[.int .i64 k, .int .i64 n, .string s]] w fun e w' => e = .returned (.int .i64 (itemF ⟨k, n, s⟩)) ∧ Below w.heap.size w w' := by
  have CM : Hid (∀ o, Calls Tryz.prog 173 #[.agg #[.int .i64 k, .int .i64 n, .string s]] (w.alloc o) fun e w' => e = .returned (.bool (mayI ⟨k, n, s⟩)) ∧ Below (w.alloc o).heap.size (w.alloc o) w') :=
    fun o => mayBe_any k n s _ hs (Utf8Tabs_below hT ((Below.refl _ _).alloc (Nat.le_refl _) _))
  have HF : Hid (itemF ⟨k, n, s⟩ = if mayI ⟨k, n, s⟩ = true then 0 else 12) := rfl
  generalize itemF ⟨k, n, s⟩ = F at *
  generalize mayI ⟨k, n, s⟩ = M at *
  clear hT hs
  cases M
  all_goals
    go_enter Tryz.func125, Tryz.ntmps125
    go_wp2_with (first | (go_at_call 173; refine (CM.out _).mono ?_; rintro e w2 ⟨rfl, hb⟩))
    go_ret
    exact ⟨ret_int (by rw [HF.out]; rfl), ((Below.refl _ _).alloc (Nat.le_refl _) _).trans (hb.mono (by simp))⟩
end Go.Proofs.YtmoeipdchapodaaGreatDoor
set_option linter.unusedVariables false
namespace Go.Proofs.YtmoeipdchapodaaGreatDoor
set_option maxRecDepth 100000
open Go.RowKit Go.WideShapes

/-- the plan: its ops, the names of its columns, its one row of two items -/
structure PlS (w : World) (pb cb qb rb ib rcap : Nat) (x y : It) (fn : ByteArray) : Prop where
  plan : w.heap[pb]? = some (.cells #[.int .i64 1, .slice none 0 0, .string ⟨#[]⟩, .slice none 0 0, .slice none 0 0, .string ⟨#[]⟩, .string ⟨#[]⟩, .int .i64 0, .int .i64 0, .int .i64 0, .string ⟨#[]⟩, .slice (some ⟨cb, 0, none⟩) 2 3, .slice (some ⟨qb, 0, none⟩) 1 1, .int .i64 11, .slice (some ⟨ib, 0, none⟩) 1 1, .string ⟨#[118]⟩, .slice (some ⟨cb, 0, none⟩) 2 3, .slice none 0 0, .string ⟨#[]⟩, .string fn, .int .i64 0, .int .i64 0, .int .i64 0, .string ⟨#[]⟩, .slice none 0 0, .slice none 0 0] 43)
  cols : w.heap[cb]? = some (.cells #[.string ⟨#[112, 111, 115]⟩, .string ⟨#[105, 116, 101, 109]⟩, .string ⟨#[99]⟩] 9)
  rows : w.heap[qb]? = some (.cells #[.slice (some ⟨rb, 0, none⟩) 2 rcap] 33)
  ins : w.heap[ib]? = some (.cells #[.int .i64 0] 3)
  x0 : w.cell? ⟨rb, 0, none⟩ = some (.int .i64 x.kind)
  x1 : w.cell? ⟨rb, 1, none⟩ = some (.int .i64 x.n)
  x2 : w.cell? ⟨rb, 2, none⟩ = some (.string x.s)
  y0 : w.cell? ⟨rb, 3, none⟩ = some (.int .i64 y.kind)
  y1 : w.cell? ⟨rb, 4, none⟩ = some (.int .i64 y.n)
  y2 : w.cell? ⟨rb, 5, none⟩ = some (.string y.s)
  rlt : rb < w.heap.size
  rc : 2 ≤ rcap
  rm : rcap ≤ maxLen
  sx : x.s.size ≤ maxLen
  sy : y.s.size ≤ maxLen
  fs : fn.size ≤ maxLen
theorem PlS.below {w w' : World} {pb cb qb rb ib rcap : Nat} {x y : It} {fn : ByteArray} (h : PlS w pb cb qb rb ib rcap x y fn) (hb : Below w.heap.size w w') : PlS w' pb cb qb rb ib rcap x y fn := by
  have k : ∀ {b : Nat} {o : Obj}, w.heap[b]? = some o → w'.heap[b]? = some o := fun h1 => (hb.block _ (Array.getElem?_eq_some_iff.1 h1).1).trans h1
  have e := fun o => hb.cell (p := ⟨rb, o, none⟩) h.rlt
  exact ⟨k h.plan, k h.cols, k h.rows, k h.ins, (e _).trans h.x0, (e _).trans h.x1, (e _).trans h.x2, (e _).trans h.y0, (e _).trans h.y1, (e _).trans h.y2, Nat.lt_of_lt_of_le h.rlt hb.size, h.rc, h.rm, h.sx, h.sy, h.fs⟩
def C2 : Nat → ByteArray := fun i => if i = 0 then ⟨#[112, 111, 115]⟩ else ⟨#[105, 116, 101, 109]⟩
def C3 : Nat → ByteArray := fun i => if i = 0 then ⟨#[112, 111, 115]⟩ else if i = 1 then ⟨#[105, 116, 101, 109]⟩ else ⟨#[118]⟩
def R1 (x y : It) : Nat → Row := fun _ => ⟨2, fun i => if i = 0 then x else y⟩
theorem PlS.strs {w : World} {pb cb qb rb ib rcap : Nat} {x y : It} {fn : ByteArray} (h : PlS w pb cb qb rb ib rcap x y fn) : StrsIs w (.slice (some ⟨cb, 0, none⟩) 2 3) 2 C2 := by
  obtain ⟨k0, k1, k2, _, _, _, k3⟩ := blk3 h.cols
  refine ⟨_, 3, rfl, by omega, by unfold maxLen; omega, (fun h => nomatch h), fun _ => ⟨cb, 0, rfl, k3, fun i hi => ?_⟩⟩
  obtain rfl | rfl : i = 0 ∨ i = 1 := by omega
  · exact k0
  · exact k1
theorem PlS.rel {w : World} {pb cb qb rb ib rcap : Nat} {x y : It} {fn : ByteArray} (h : PlS w pb cb qb rb ib rcap x y fn) : RowsIs w (.slice (some ⟨qb, 0, none⟩) 1 1) 1 (R1 x y) := by
  obtain ⟨k0, _, k3⟩ := blk1 h.rows
  refine ⟨_, 1, rfl, by omega, by unfold maxLen; omega, (fun h => nomatch h), fun _ => ⟨qb, 0, rfl, k3, fun i hi => ?_⟩⟩
  obtain rfl : i = 0 := by omega
  refine ⟨_, k0, _, rcap, rfl, h.rc, h.rm, (fun h => nomatch h), fun _ => ⟨rb, 0, rfl, h.rlt, fun i hi => ?_⟩⟩
  have hi' : i = 0 ∨ i = 1 := by have : i < 2 := hi; omega
  rcases hi' with rfl | rfl
  · exact ⟨h.x0, h.x1, h.x2⟩
  · exact ⟨h.y0, h.y1, h.y2⟩
theorem fine2 : StrsFine 2 C2 := ⟨by omega, fun i hi => by
  obtain rfl | rfl : i = 0 ∨ i = 1 := by omega
  · exact (by decide : (⟨#[112, 111, 115]⟩ : ByteArray).size ≤ maxLen)
  · exact (by decide : (⟨#[105, 116, 101, 109]⟩ : ByteArray).size ≤ maxLen)⟩
theorem fine3 : StrsFine 3 C3 := ⟨by omega, fun i hi => by
  obtain rfl | rfl | rfl : i = 0 ∨ i = 1 ∨ i = 2 := by omega
  · exact (by decide : (⟨#[112, 111, 115]⟩ : ByteArray).size ≤ maxLen)
  · exact (by decide : (⟨#[105, 116, 101, 109]⟩ : ByteArray).size ≤ maxLen)
  · exact (by decide : (⟨#[118]⟩ : ByteArray).size ≤ maxLen)⟩
theorem fineR {x y : It} (hx : x.s.size ≤ maxLen) (hy : y.s.size ≤ maxLen) : RowsFine 1 (R1 x y) := ⟨by omega, fun i _ => ⟨by show 2 * 32 ≤ _; omega, fun j hj => by
  have hj' : j = 0 ∨ j = 1 := by have : j < 2 := hj; omega
  rcases hj' with rfl | rfl
  · exact hx
  · exact hy⟩⟩
theorem made2 (m : Nat) (hm : m ≤ 1) : madeF C2 2 m = 0 := by
  obtain rfl | rfl : m = 0 ∨ m = 1 := by omega
  · decide +kernel
  · decide +kernel
theorem made3 : madeF C3 3 0 = 0 := by decide +kernel
/-- what is said of the table -/
def tabF (x y : It) : Int := if mayI x = true ∧ mayI y = true then 0 else 12
theorem relF_tab (x y : It) : relF C2 2 (R1 x y) 1 = tabF x y := by
  unfold relF
  rw [if_pos (made2 1 (Nat.le_refl _))]
  have e : firstE (rowE 2 (R1 x y)) 1 = rowE 2 (R1 x y) 0 := by
    by_cases h : rowE 2 (R1 x y) 0 = 0
    · rw [h]
      refine firstE_ok (fun j hj => ?_)
      obtain rfl : j = 0 := by omega
      exact h
    · exact firstE_err (by omega) (fun j hj => by omega) h
  rw [e]
  show (if (2 : Nat) = 2 then (if allB (fun i => if i = 0 then x else y) 2 = true then (0 : Int) else 12) else 9) = _
  rw [if_pos rfl]
  unfold tabF
  by_cases h : mayI x = true ∧ mayI y = true
  · rw [if_pos h, if_pos (all_yes (fun k hk => by
      obtain rfl | rfl : k = 0 ∨ k = 1 := by omega
      · exact h.1
      · exact h.2))]
  · rw [if_neg h, if_neg]
    intro h2
    unfold allB at h2
    rw [List.all_eq_true] at h2
    exact h ⟨h2 0 (by simp), h2 1 (by simp)⟩
theorem col_pos : colI C2 2 ⟨#[112, 111, 115]⟩ = 0 := by decide +kernel
theorem col_item : colI C2 2 ⟨#[105, 116, 101, 109]⟩ = 1 := by decide +kernel
theorem col_pos3 : colI C3 3 ⟨#[112, 111, 115]⟩ = 0 := by decide +kernel
theorem col_item3 : colI C3 3 ⟨#[105, 116, 101, 109]⟩ = 1 := by decide +kernel
set_option maxHeartbeats 1600000 in
/-- places of the columns pos and item -/
theorem places_is (v : Value) (n : Nat) (C : Nat → ByteArray) (nb ncap : Nat) (w : World) (hv : StrsIs w v n C) (h0 : colI C n ⟨#[112, 111, 115]⟩ = 0) (h1 : colI C n ⟨#[105, 116, 101, 109]⟩ = 1) (hn : 2 ≤ ncap) (hm : ncap ≤ maxLen) (hnb : nb < w.heap.size) (c0 : w.cell? ⟨nb, 0, none⟩ = some (.string ⟨#[112, 111, 115]⟩)) (c1 : w.cell? ⟨nb, 1, none⟩ = some (.string ⟨#[105, 116, 101, 109]⟩)) :
    Calls Tryz.prog 24 #[v, .slice (some ⟨nb, 0, none⟩) 2 ncap] w fun e w' => e = .returned (.tuple #[.slice (some ⟨w.heap.size, 0, none⟩) 2 2, .int .i64 0]) ∧ w'.heap[w.heap.size]? = some (.cells #[.int .i64 0, .int .i64 1] 3) ∧ Below w.heap.size w w' := by
  have CX : Hid (∀ W s, Below w.heap.size w W → Calls Tryz.prog 83 #[v, .string s] W fun e w' => e = .returned (.int .i64 (colI C n s)) ∧ w' = W) := fun W s hW => index_is v n C s W (hv.below hW)
  have H0 : Hid (colI C n ⟨#[112, 111, 115]⟩ = 0) := h0
  have H1 : Hid (colI C n ⟨#[105, 116, 101, 109]⟩ = 1) := h1
  obtain ⟨va, vc, rfl, _⟩ := hv
  have hmk := mk_ints2
  unfold maxLen at hm
  clear h0 h1
  have HB0 : Hid (Below w.heap.size w (w.alloc (.cells #[.int .i64 0, .int .i64 0] 3))) := (Below.refl _ _).alloc (Nat.le_refl _) _
  go_enter Tryz.func24, Tryz.ntmps24
  go_wp2
  refine LoopN.wp 3 (LoopN.next ?_)
  go_wp2_with (go_at_call 83; refine (CX.out _ _ HB0.out).mono ?_; rintro e w1 ⟨rfl, hw1⟩; rw [H0.out]; obtain rfl := hw1.symm)
  obtain ⟨W1, hW1⟩ : ∃ W, W = w.alloc (.cells #[.int .i64 0, .int .i64 0] 3) := ⟨_, rfl⟩
  have HB1 : Hid (Below w.heap.size w W1) := by rw [hW1]; exact HB0.out
  have HN1 : Hid (W1.heap[w.heap.size]? = some (.cells #[.int .i64 0, .int .i64 0] 3)) := by rw [hW1]; exact alloc_newN rfl
  rw [← hW1]
  have c0' := (HB1.out.cell (p := ⟨nb, 0, none⟩) hnb).trans c0
  have c1' := (HB1.out.cell (p := ⟨nb, 1, none⟩) hnb).trans c1
  have hnb1 : nb < W1.heap.size := Nat.lt_of_lt_of_le hnb HB1.out.size
  obtain ⟨n0, n1, p0, p1, pz⟩ := blk2 HN1.out
  clear hW1 HB0 c0 c1
  refine LoopN.next ?_
  go_wp2_with (go_at_call 83; refine (CX.out _ _ HB1.out).mono ?_; rintro e w2 ⟨rfl, hw2⟩; rw [H1.out]; obtain rfl := hw2.symm)
  obtain ⟨W2, hW2⟩ : ∃ W, W = W1.setCell ⟨w.heap.size, 1, none⟩ (.int .i64 1) := ⟨_, rfl⟩
  have HB2 : Hid (Below w.heap.size w W2) := by rw [hW2]; exact HB1.out.setCell (Nat.le_refl _) _
  have HN2 : Hid (W2.heap[w.heap.size]? = some (.cells #[.int .i64 0, .int .i64 1] 3)) := by rw [hW2]; exact set_same HN1.out 1 _
  rw [← hW2]
  clear hW2 HB1 HN1 n0 n1 p0 p1 pz c0' c1' hnb1
  refine LoopN.next ?_
  go_wp2
  go_ret2
  exact ⟨rfl, HN2.out, HB2.out⟩
end Go.Proofs.YtmoeipdchapodaaGreatDoor
