/-
  CONTRACTS of package core: Lower of a Flwor whose clauses are refused ahead of their expressions.
-/
import Derived.Test.YtkhlfdnlpimojaaDoorLcA
import Derived.Test.YtkhlfdnlpimojaaDoorCkTab
import Derived.Test.YtkhlfdnlpimojaaDoorCkSt
import Derived.Test.YtkhlfdnlpimojaaDoorRgStep
set_option linter.unusedVariables false
namespace Go.Proofs.YtkhlfdnlpimojaaDoor
set_option maxRecDepth 100000
open Go.RowKit Go.WideShapes

/-- the cells of a phrase -/
structure PhAt (w : World) (b off : Nat) (k : Int) (it : It) (nm : ByteArray) (n ax tk : Int) (tn : ByteArray) (av cv : Value) : Prop where
  c0 : w.cell? ⟨b, off, none⟩ = some (.int .i64 k)
  c1 : w.cell? ⟨b, off + 1, none⟩ = some (.int .i64 it.kind)
  c2 : w.cell? ⟨b, off + 2, none⟩ = some (.int .i64 it.n)
  c3 : w.cell? ⟨b, off + 3, none⟩ = some (.string it.s)
  c4 : w.cell? ⟨b, off + 4, none⟩ = some (.string nm)
  c5 : w.cell? ⟨b, off + 5, none⟩ = some (.int .i64 n)
  c6 : w.cell? ⟨b, off + 6, none⟩ = some (.int .i64 ax)
  c7 : w.cell? ⟨b, off + 7, none⟩ = some (.int .i64 tk)
  c8 : w.cell? ⟨b, off + 8, none⟩ = some (.string tn)
  c9 : w.cell? ⟨b, off + 9, none⟩ = some av
  c10 : w.cell? ⟨b, off + 10, none⟩ = some cv
theorem PhAt.below {w w' : World} {B b off : Nat} {k : Int} {it : It} {nm : ByteArray} {n ax tk : Int} {tn : ByteArray} {av cv : Value} (h : PhAt w b off k it nm n ax tk tn av cv) (hb : Below B w w') (hB : b < B) : PhAt w' b off k it nm n ax tk tn av cv :=
  have e := fun o => hb.cell (p := ⟨b, o, none⟩) hB
  ⟨(e _).trans h.c0, (e _).trans h.c1, (e _).trans h.c2, (e _).trans h.c3, (e _).trans h.c4, (e _).trans h.c5, (e _).trans h.c6, (e _).trans h.c7, (e _).trans h.c8, (e _).trans h.c9, (e _).trans h.c10⟩
/-- the lowering: its tables, its scope, how many parts, what was wrong -/
structure LwS (w : World) (lb tb ob sb : Nat) (N : ByteArray → Nat) (p : Nat) (e : Int) : Prop where
  blk : w.heap[lb]? = some (.cells #[.map (some tb), .map (some ob), .map (some sb), .int .i64 (p : Int), .int .i64 e] 49)
  calls : VMap w tb callsV
  opers : VMap w ob opersV
  scope : SMap w sb N
theorem bk5 {w : World} {b : Nat} {x y z t u : Value} {T : TypeId} (h : w.heap[b]? = some (.cells #[x, y, z, t, u] T)) : w.cell? ⟨b, 0, none⟩ = some x ∧ w.cell? ⟨b, 1, none⟩ = some y ∧ w.cell? ⟨b, 2, none⟩ = some z ∧ w.cell? ⟨b, 3, none⟩ = some t ∧ w.cell? ⟨b, 4, none⟩ = some u ∧ (∀ o, w.frozen? ⟨b, o, none⟩ = false) ∧ b < w.heap.size :=
  ⟨by rw [Lib.cell_of_heap h]; rfl, by rw [Lib.cell_of_heap h]; rfl, by rw [Lib.cell_of_heap h]; rfl, by rw [Lib.cell_of_heap h]; rfl, by rw [Lib.cell_of_heap h]; rfl, fun o => Lib.frozen_of_heap h _, (Array.getElem?_eq_some_iff.1 h).1⟩
theorem bk11 {w : World} {b : Nat} {x0 x1 x2 x3 x4 x5 x6 x7 x8 x9 x10 : Value} {T : TypeId} (h : w.heap[b]? = some (.cells #[x0, x1, x2, x3, x4, x5, x6, x7, x8, x9, x10] T)) : w.cell? ⟨b, 0, none⟩ = some x0 ∧ w.cell? ⟨b, 1, none⟩ = some x1 ∧ w.cell? ⟨b, 2, none⟩ = some x2 ∧ w.cell? ⟨b, 3, none⟩ = some x3 ∧ w.cell? ⟨b, 4, none⟩ = some x4 ∧ w.cell? ⟨b, 5, none⟩ = some x5 ∧ w.cell? ⟨b, 6, none⟩ = some x6 ∧ w.cell? ⟨b, 7, none⟩ = some x7 ∧ w.cell? ⟨b, 8, none⟩ = some x8 ∧ w.cell? ⟨b, 9, none⟩ = some x9 ∧ w.cell? ⟨b, 10, none⟩ = some x10 ∧ (∀ o, w.frozen? ⟨b, o, none⟩ = false) ∧ b < w.heap.size :=
  ⟨by rw [Lib.cell_of_heap h]; rfl, by rw [Lib.cell_of_heap h]; rfl, by rw [Lib.cell_of_heap h]; rfl, by rw [Lib.cell_of_heap h]; rfl, by rw [Lib.cell_of_heap h]; rfl, by rw [Lib.cell_of_heap h]; rfl, by rw [Lib.cell_of_heap h]; rfl, by rw [Lib.cell_of_heap h]; rfl, by rw [Lib.cell_of_heap h]; rfl, by rw [Lib.cell_of_heap h]; rfl, by rw [Lib.cell_of_heap h]; rfl, fun o => Lib.frozen_of_heap h _, (Array.getElem?_eq_some_iff.1 h).1⟩
/-- cells of a block are written, one by one -/
def putL (w : World) (b : Nat) : Nat → List Value → World
  | _, [] => w
  | k, v :: r => putL (w.setCell ⟨b, k, none⟩ v) b (k + 1) r
theorem putL_some {b : Nat} {T : TypeId} : ∀ (vs : List Value) (w : World) (k : Nat) (cs : Array Value), w.heap[b]? = some (.cells cs T) → cs.size = k + vs.length → (putL w b k vs).heap[b]? = some (.cells (cs.toList.take k ++ vs).toArray T)
  | [], w, k, cs, h, hs => by
    rw [putL, h, List.append_nil, List.take_of_length_le (by rw [Array.length_toList, hs]; exact Nat.le_refl _)]
  | v :: r, w, k, cs, h, hs => by
    rw [List.length_cons] at hs
    rw [putL, putL_some r _ (k + 1) _ (heap_set_same h k v) (by rw [Array.size_setIfInBounds]; omega)]
    have e : (cs.setIfInBounds k v).toList.take (k + 1) = cs.toList.take k ++ [v] := by
      rw [Array.toList_setIfInBounds, List.take_add_one, List.getElem?_set_self (by rw [Array.length_toList]; omega), List.take_set_of_le (Nat.le_refl _)]
      rfl
    rw [e, List.append_assoc]
    rfl
theorem putL_same {b : Nat} {T : TypeId} {w : World} {cs : Array Value} (h : w.heap[b]? = some (.cells cs T)) (vs : List Value) (hs : cs.size = vs.length) : (putL w b 0 vs).heap[b]? = some (.cells vs.toArray T) := by
  have := putL_some vs w 0 cs h (by omega)
  rw [List.take_zero, List.nil_append] at this
  exact this
theorem putL_other {b c : Nat} (hn : c ≠ b) : ∀ (vs : List Value) (w : World) (k : Nat), (putL w b k vs).heap[c]? = w.heap[c]?
  | [], _, _ => rfl
  | v :: r, w, k => by rw [putL, putL_other hn r]; exact Below.heap_setCell _ _ _ _ hn
theorem putL_below {b B : Nat} {w0 : World} (hB : B ≤ b) : ∀ (vs : List Value) (w : World) (k : Nat), Below B w0 w → Below B w0 (putL w b k vs)
  | [], _, _, h => h
  | v :: r, w, k, h => putL_below hB r _ (k + 1) (h.setCell hB _)
set_option maxHeartbeats 800000 in
theorem parts_28 (w : World) : Calls Tryd.prog 22 #[.int .i64 28, .int .i64 1] w fun e w' => e = .returned (.int .i64 0) ∧ w' = w := by
  go_enter Tryd.func22, Tryd.ntmps22
  go_wp2
  go_ret
  exact ⟨rfl, rfl⟩
set_option maxHeartbeats 800000 in
theorem parts_1 (w : World) : Calls Tryd.prog 22 #[.int .i64 1, .int .i64 0] w fun e w' => e = .returned (.int .i64 0) ∧ w' = w := by
  go_enter Tryd.func22, Tryd.ntmps22
  go_wp2
  go_ret
  exact ⟨rfl, rfl⟩
set_option maxHeartbeats 3200000 in
theorem alone_flwor (lb b off : Nat) (it : It) (nm : ByteArray) (n ax tk : Int) (tn : ByteArray) (aa : Option Addr) (ac : Nat) (cb co cn cc : Nat) (K : Nat → Int) (NN A : Nat → ByteArray) (w : World) (h : PhAt w b off 28 it nm n ax tk tn (.slice aa 1 ac) (.slice (some ⟨cb, co, none⟩) cn cc)) (hb : b < w.heap.size) (hc : cn ≤ cc) (hm : cc ≤ maxLen) (hcl : ∀ i, i < cn → ClAt w cb (co + i * 15) (K i) (NN i) (A i)) (hcb : cb < w.heap.size) :
    Calls Tryd.prog 13 #[.pointer (some ⟨lb, 0, none⟩), .pointer (some ⟨b, off, none⟩)] w fun e w' => e = .returned (.int .i64 (clF cn K NN A)) ∧ Below w.heap.size w w' := by
  have CC : Hid (∀ W, Below w.heap.size w W → Calls Tryd.prog 30 #[.slice (some ⟨cb, co, none⟩) cn cc] W fun e w' => e = .returned (.int .i64 (clF cn K NN A)) ∧ Below W.heap.size W w') := fun W hW => checkClauses_is cb co cn cc K NN A W hc hm (fun i hi => (hcl i hi).below hW hcb) (Nat.lt_of_lt_of_le hcb hW.size)
  have CP : Hid (∀ W, Calls Tryd.prog 22 #[.int .i64 28, .int .i64 1] W fun e w' => e = .returned (.int .i64 0) ∧ w' = W) := parts_28
  obtain ⟨c0, c1, c2, c3, c4, c5, c6, c7, c8, c9, c10⟩ := h
  generalize clF cn K NN A = R at *
  clear hcl c1 c2 c3 c4 c5 c6 c7 c8
  go_enter Tryd.func13, Tryd.ntmps13
  go_upto_region 1 with fail
  go_quiet ((go_at_call 22; exact Calls.quiet_of_same (CP.out _)))
  obtain ⟨W1, hW1⟩ : ∃ W, W = w.drewN nq := ⟨_, rfl⟩
  have HB1 : Hid (Below w.heap.size w W1) := by rw [hW1]; exact ⟨rfl, rfl, rfl, Nat.le_refl _, fun _ _ => rfl⟩
  rw [← hW1]
  have e0 : W1.cell? ⟨b, off, none⟩ = some (.int .i64 28) := (HB1.out.cell (p := ⟨b, off, none⟩) hb).trans c0
  have e10 : W1.cell? ⟨b, off + 10, none⟩ = some (.slice (some ⟨cb, co, none⟩) cn cc) := (HB1.out.cell (p := ⟨b, off + 10, none⟩) hb).trans c10
  clear hW1 c0 c9 c10
  go_wp2_with (go_at_call 30; refine (CC.out W1 HB1.out).mono ?_; rintro e w2 ⟨rfl, hb2⟩; have HB2 : Hid (Below w.heap.size w w2) := HB1.out.trans (hb2.mono HB1.out.size); clear hb2)
  go_ret
  exact ⟨rfl, HB2.out⟩
theorem phAt_of {w : World} {b : Nat} {T : TypeId} {k : Int} {it : It} {nm : ByteArray} {n ax tk : Int} {tn : ByteArray} {av cv : Value} (h : w.heap[b]? = some (.cells #[.int .i64 k, .int .i64 it.kind, .int .i64 it.n, .string it.s, .string nm, .int .i64 n, .int .i64 ax, .int .i64 tk, .string tn, av, cv] T)) : PhAt w b 0 k it nm n ax tk tn av cv := by
  obtain ⟨c0, c1, c2, c3, c4, c5, c6, c7, c8, c9, c10, _, _⟩ := bk11 h
  exact ⟨c0, c1, c2, c3, c4, c5, c6, c7, c8, c9, c10⟩
/-- an expression of no kind -/
def noEx : Value := .agg #[.int .i64 0, .int .i64 0, .int .i64 0, .string ⟨#[]⟩, .string ⟨#[]⟩, .string ⟨#[]⟩, .int .i64 0, .int .i64 0, .int .i64 0, .string ⟨#[]⟩, .slice none 0 0]
set_option maxHeartbeats 3200000 in
theorem expr_bad (lb tb ob sb p b off : Nat) (R : Int) (w : World) (hR : ¬ R = 0) (hl : w.heap[lb]? = some (.cells #[.map (some tb), .map (some ob), .map (some sb), .int .i64 (p : Int), .int .i64 0] 49))
    (ha : ∀ W, Below w.heap.size w W → Calls Tryd.prog 13 #[.pointer (some ⟨lb, 0, none⟩), .pointer (some ⟨b, off, none⟩)] W fun e w' => e = .returned (.int .i64 R) ∧ Below W.heap.size W w') :
    Calls Tryd.prog 9 #[.pointer (some ⟨lb, 0, none⟩), .pointer (some ⟨b, off, none⟩)] w fun e w' => e = .returned noEx ∧ w'.heap[lb]? = some (.cells #[.map (some tb), .map (some ob), .map (some sb), .int .i64 (p : Int), .int .i64 R] 49) ∧ (∀ b, b < w.heap.size → b ≠ lb → w'.heap[b]? = w.heap[b]?) ∧ Below lb w w' := by
  have CA := hidC ha
  have HL := hidC hl
  obtain ⟨l0, l1, l2, l3, l4, l5, l6⟩ := bk5 hl
  have hR1 : (R == 0) = false := by simpa using hR
  clear ha hl l0 l1 l2 l3 hR
  unfold noEx
  go_enter Tryd.func9, Tryd.ntmps9
  go_wp2_with (go_at_call 13; refine (CA.out _ ?_).mono ?_; (· exact (Below.refl _ _).alloc (Nat.le_refl _) _); rintro e w1 ⟨rfl, hb1⟩; have HB1 : Hid (Below w.heap.size w w1) := Below.trans ((Below.refl _ _).alloc (Nat.le_refl _) _) (hb1.mono (by simp)); have HL1 := hidC (blC HB1.out l6 HL.out); have HZ1 := hidC ((hb1.block w.heap.size (by simp)).trans (aNew rfl)); obtain ⟨_, _, _, _, m4, m5, m6⟩ := bk5 HL1.out; obtain ⟨z0, z1, z2, z3, z4, z5, z6, z7, z8, z9, z10, z11, z12⟩ := bk11 HZ1.out; have hz1 := HB1.out.size; have hne : lb ≠ w.heap.size := (by omega); clear hb1)
  obtain ⟨W2, hW2⟩ : ∃ W, W = (((((((((((w1.setCell ⟨lb, 4, none⟩ (.int .i64 R)).setCell ⟨w.heap.size, 0, none⟩ (.int .i64 0)).setCell ⟨w.heap.size, 1, none⟩ (.int .i64 0)).setCell ⟨w.heap.size, 2, none⟩ (.int .i64 0)).setCell ⟨w.heap.size, 3, none⟩ (.string ⟨#[]⟩)).setCell ⟨w.heap.size, 4, none⟩ (.string ⟨#[]⟩)).setCell ⟨w.heap.size, 5, none⟩ (.string ⟨#[]⟩)).setCell ⟨w.heap.size, 6, none⟩ (.int .i64 0)).setCell ⟨w.heap.size, 7, none⟩ (.int .i64 0)).setCell ⟨w.heap.size, 8, none⟩ (.int .i64 0)).setCell ⟨w.heap.size, 9, none⟩ (.string ⟨#[]⟩)).setCell ⟨w.heap.size, 10, none⟩ (.slice none 0 0) := ⟨_, rfl⟩
  have hW3 : W2 = putL (w1.setCell ⟨lb, 4, none⟩ (.int .i64 R)) w.heap.size 0 [.int .i64 0, .int .i64 0, .int .i64 0, .string ⟨#[]⟩, .string ⟨#[]⟩, .string ⟨#[]⟩, .int .i64 0, .int .i64 0, .int .i64 0, .string ⟨#[]⟩, .slice none 0 0] := hW2
  have HZ2 : Hid (W2.heap[w.heap.size]? = some (.cells #[.int .i64 0, .int .i64 0, .int .i64 0, .string ⟨#[]⟩, .string ⟨#[]⟩, .string ⟨#[]⟩, .int .i64 0, .int .i64 0, .int .i64 0, .string ⟨#[]⟩, .slice none 0 0] 39)) := by rw [hW3]; exact putL_same (sOth HZ1.out (Ne.symm hne)) _ rfl
  have HL2 : Hid (W2.heap[lb]? = some (.cells #[.map (some tb), .map (some ob), .map (some sb), .int .i64 (p : Int), .int .i64 R] 49)) := by rw [hW3]; exact (putL_other hne _ _ _).trans (heap_set_same HL1.out 4 _)
  have HO2 : Hid (∀ c, c < w.heap.size → c ≠ lb → W2.heap[c]? = w.heap[c]?) := by rw [hW3]; exact fun c h1 h2 => (putL_other (by omega) _ _ _).trans ((Below.heap_setCell _ _ _ _ h2).trans (HB1.out.block c h1))
  have HB2 : Hid (Below lb w W2) := by rw [hW3]; exact putL_below (B := lb) (Nat.le_of_lt l6) _ _ _ (Below.setCell (Below.mono HB1.out (Nat.le_of_lt l6)) (Nat.le_refl lb) _)
  rw [← hW2]
  clear hW2 hW3
  obtain ⟨y0, y1, y2, y3, y4, y5, y6, y7, y8, y9, y10, _, _⟩ := bk11 HZ2.out
  exact bodyPost_ret (v := .agg #[.int .i64 0, .int .i64 0, .int .i64 0, .string ⟨#[]⟩, .string ⟨#[]⟩, .string ⟨#[]⟩, .int .i64 0, .int .i64 0, .int .i64 0, .string ⟨#[]⟩, .slice none 0 0]) (by simp [results, Tryd.results9, go_sem, y0, y1, y2, y3, y4, y5, y6, y7, y8, y9, y10]) rfl ⟨rfl, HL2.out, HO2.out, HB2.out⟩
set_option maxHeartbeats 6400000 in
/-- Lower of a Flwor whose clauses are refused -/
theorem Lower_bad (it : It) (nm : ByteArray) (n ax tk : Int) (tn : ByteArray) (aa : Option Addr) (ac : Nat) (cb co cn cc : Nat) (K : Nat → Int) (NN A : Nat → ByteArray) (w : World) (hc : cn ≤ cc) (hm : cc ≤ maxLen) (hcl : ∀ i, i < cn → ClAt w cb (co + i * 15) (K i) (NN i) (A i)) (hcb : cb < w.heap.size) (hR : ¬ clF cn K NN A = 0) :
    Calls Tryd.prog 6 #[.agg #[.int .i64 28, .int .i64 it.kind, .int .i64 it.n, .string it.s, .string nm, .int .i64 n, .int .i64 ax, .int .i64 tk, .string tn, .slice aa 1 ac, .slice (some ⟨cb, co, none⟩) cn cc]] w fun e w' => e = .returned (.tuple #[noEx, .int .i64 (clF cn K NN A)]) ∧ Below w.heap.size w w' := by
  have CK : Hid (∀ W, Calls Tryd.prog 7 #[] W fun e w' => e = .returned (.map (some W.heap.size)) ∧ VMap w' W.heap.size callsV ∧ Below W.heap.size W w') := calls_is
  have CO : Hid (∀ W, Calls Tryd.prog 8 #[] W fun e w' => e = .returned (.map (some W.heap.size)) ∧ VMap w' W.heap.size opersV ∧ Below W.heap.size W w') := operators_is
  have CA : Hid (∀ W lb b, Below w.heap.size w W → PhAt W b 0 28 it nm n ax tk tn (.slice aa 1 ac) (.slice (some ⟨cb, co, none⟩) cn cc) → b < W.heap.size → Calls Tryd.prog 13 #[.pointer (some ⟨lb, 0, none⟩), .pointer (some ⟨b, 0, none⟩)] W fun e w' => e = .returned (.int .i64 (clF cn K NN A)) ∧ Below W.heap.size W w') := fun W lb b hW hp hb => alone_flwor lb b 0 it nm n ax tk tn aa ac cb co cn cc K NN A W hp hb hc hm (fun i hi => (hcl i hi).below hW hcb) (Nat.lt_of_lt_of_le hcb hW.size)
  generalize clF cn K NN A = R at *
  have hR1 : (R == 0) = false := by simpa using hR
  have hmm := @run_makeMap Tryd.prog
  clear hcl hc hm hcb
  go_enter Tryd.func6, Tryd.ntmps6
  go_upto_region 2 with (first
    | (go_at_call 7; refine (CK.out _).mono ?_; rintro e w1 ⟨rfl, hv1, hb1⟩; have HB1 : Hid (Below w.heap.size w w1) := Below.trans (((Below.refl _ _).alloc (Nat.le_refl _) _).alloc (by simp) _) (hb1.mono (by simp; omega)); have HP1 := hidC ((hb1.block w.heap.size (by simp; omega)).trans (aOld (aNew rfl))); have HZ1 := hidC ((hb1.block (w.heap.size + 1) (by simp)).trans (aNew (by simp))); have hz1 := HB1.out.size; clear hb1 hv1)
    | (go_at_call 8; refine (CO.out _).mono ?_; rintro e w2 ⟨rfl, hv2, hb2⟩; have HB2 : Hid (Below w.heap.size w w2) := HB1.out.trans (hb2.mono hz1); have HP2 := hidC (blC hb2 (Array.getElem?_eq_some_iff.1 HP1.out).1 HP1.out); have HZ2 := hidC (blC hb2 (Array.getElem?_eq_some_iff.1 HZ1.out).1 HZ1.out); have hz2 := HB2.out.size; clear hb2 hv2))
  obtain ⟨W3, hW3⟩ : ∃ W, W = (w2.alloc (.map #[] 0)).alloc (.cells #[.map (some (w.heap.size + 1 + 1)), .map (some w1.heap.size), .map (some w2.heap.size), .int .i64 0, .int .i64 0] 49) := ⟨_, rfl⟩
  have HB3 : Hid (Below w.heap.size w W3) := by rw [hW3]; exact (HB2.out.alloc hz2 _).alloc (by simp; omega) _
  have HL3 : Hid (W3.heap[w2.heap.size + 1]? = some (.cells #[.map (some (w.heap.size + 1 + 1)), .map (some w1.heap.size), .map (some w2.heap.size), .int .i64 ((0 : Nat) : Int), .int .i64 0] 49)) := by rw [hW3]; exact aNew (by simp)
  have HP3 := hidC (aOld (o := .cells #[.map (some (w.heap.size + 1 + 1)), .map (some w1.heap.size), .map (some w2.heap.size), .int .i64 0, .int .i64 0] 49) (aOld (o := .map #[] 0) HP2.out))
  have HZ3 := hidC (aOld (o := .cells #[.map (some (w.heap.size + 1 + 1)), .map (some w1.heap.size), .map (some w2.heap.size), .int .i64 0, .int .i64 0] 49) (aOld (o := .map #[] 0) HZ2.out))
  unfold Hid at HP3 HZ3
  rw [← hW3] at HP3 HZ3 ⊢
  have hw2z : w.heap.size < w2.heap.size := (Array.getElem?_eq_some_iff.1 HP2.out).1
  have hw2y : w.heap.size + 1 < w2.heap.size := (Array.getElem?_eq_some_iff.1 HZ2.out).1
  have hz3 := HB3.out.size
  have CE : Hid (Calls Tryd.prog 9 #[.pointer (some ⟨w2.heap.size + 1, 0, none⟩), .pointer (some ⟨w.heap.size, 0, none⟩)] W3 fun e w' => e = .returned noEx ∧ w'.heap[w2.heap.size + 1]? = some (.cells #[.map (some (w.heap.size + 1 + 1)), .map (some w1.heap.size), .map (some w2.heap.size), .int .i64 ((0 : Nat) : Int), .int .i64 R] 49) ∧ (∀ b, b < W3.heap.size → b ≠ w2.heap.size + 1 → w'.heap[b]? = W3.heap[b]?) ∧ Below (w2.heap.size + 1) W3 w') :=
    expr_bad (w2.heap.size + 1) _ _ _ 0 w.heap.size 0 R W3 hR HL3.out (fun W hW => CA.out W _ _ (HB3.out.trans (hW.mono hz3)) ((phAt_of HP3).below hW (Array.getElem?_eq_some_iff.1 HP3).1) (Nat.lt_of_lt_of_le (Array.getElem?_eq_some_iff.1 HP3).1 hW.size))
  unfold noEx at CE
  have HZ4 := hidC HZ3
  have hly : w.heap.size + 1 < W3.heap.size := (Array.getElem?_eq_some_iff.1 HZ3).1
  clear hW3 HP3 HZ3 HP1 HP2 HZ1 HZ2 HB1 HB2 hR CA CK CO
  go_upto_region 4 with (go_at_call 9; refine CE.out.mono ?_; rintro e w4 ⟨rfl, hl4, ho4, hb4⟩; have HL4 := hidC hl4; have HZ5 := hidC ((ho4 _ hly (by omega)).trans HZ4.out); have HB4 : Hid (Below w.heap.size w w4) := HB3.out.trans (hb4.mono (by omega)); obtain ⟨_, _, _, _, m4, m5, m6⟩ := bk5 hl4; have hz4 := HB4.out.size; clear hl4 ho4 hb4)
  obtain ⟨W5, hW5⟩ : ∃ W, W = w4.alloc (.cells #[.int .i64 0, .int .i64 0, .int .i64 0, .string ⟨#[]⟩, .string ⟨#[]⟩, .string ⟨#[]⟩, .int .i64 0, .int .i64 0, .int .i64 0, .string ⟨#[]⟩, .slice none 0 0] 39) := ⟨_, rfl⟩
  have HB5 : Hid (Below w.heap.size w W5) := by rw [hW5]; exact HB4.out.alloc hz4 _
  have HL5 : Hid (W5.heap[w2.heap.size + 1]? = some (.cells #[.map (some (w.heap.size + 1 + 1)), .map (some w1.heap.size), .map (some w2.heap.size), .int .i64 ((0 : Nat) : Int), .int .i64 R] 49)) := by rw [hW5]; exact aOld HL4.out
  have HZ6 : Hid (W5.heap[w.heap.size + 1]? = some (.cells #[.int .i64 0, .int .i64 0, .int .i64 0, .string ⟨#[]⟩, .string ⟨#[]⟩, .string ⟨#[]⟩, .int .i64 0, .int .i64 0, .int .i64 0, .string ⟨#[]⟩, .slice none 0 0] 39)) := by rw [hW5]; exact aOld HZ5.out
  rw [← hW5]
  clear hW5 m4 m5 m6 HL4 HZ5 HB4 hz4 HZ4 HB3 HL3 CE
  refine wp_region_slots (by kernel_rfl) (fun j v _ => match j with | 0 => v = (.agg #[.int .i64 0, .int .i64 0, .int .i64 0, .string ⟨#[]⟩, .string ⟨#[]⟩, .string ⟨#[]⟩, .int .i64 0, .int .i64 0, .int .i64 0, .string ⟨#[]⟩, .slice none 0 0]) | 1 => v = .pointer (some ⟨w2.heap.size + 1, 4, none⟩) | 2 => v = .int .i64 R | 4 => v = .int .i64 R | _ => True)
    (fun l _ W => Below w.heap.size w W ∧ W.heap[w2.heap.size + 1]? = some (.cells #[.map (some (w.heap.size + 1 + 1)), .map (some w1.heap.size), .map (some w2.heap.size), .int .i64 ((0 : Nat) : Int), .int .i64 R] 49) ∧ W.heap[w.heap.size + 1]? = some (.cells #[.int .i64 0, .int .i64 0, .int .i64 0, .string ⟨#[]⟩, .string ⟨#[]⟩, .string ⟨#[]⟩, .int .i64 0, .int .i64 0, .int .i64 0, .string ⟨#[]⟩, .slice none 0 0] 39))
    (by kernel_rfl) (by kernel_rfl) ⟨HB5.out.trans ⟨rfl, rfl, rfl, Nat.le_refl _, fun _ _ => rfl⟩, HL5.out, HZ6.out⟩ ?_ ?_
  · intro l a W i o hsz h ho hl haf
    obtain ⟨g1, g2, g3⟩ := h.more
    have hi : i < 5 := (Array.getElem?_eq_some_iff.1 ho).1
    obtain rfl | rfl | rfl | rfl | rfl : i = 0 ∨ i = 1 ∨ i = 2 ∨ i = 3 ∨ i = 4 := by omega
    all_goals (obtain rfl := Option.some.inj ho; rw [if_pos (want_none rfl)])
    · refine wp_val (v := .agg #[.int .i64 0, .int .i64 0, .int .i64 0, .string ⟨#[]⟩, .string ⟨#[]⟩, .string ⟨#[]⟩, .int .i64 0, .int .i64 0, .int .i64 0, .string ⟨#[]⟩, .slice none 0 0]) (w' := W) ?_ ⟨_, rfl, rfl, fun _ _ h => h, g1, g2, g3⟩
      unfold execOp
      simp [go_sem]
    · have e8 := h.given 4 _ rfl (by kernel_rfl)
      refine wp_val (v := .pointer (some ⟨w2.heap.size + 1, 4, none⟩)) (w' := W) ?_ ⟨_, rfl, rfl, fun _ _ h => h, g1, g2, g3⟩
      unfold execOp
      simp [e8, go_sem]
    · obtain ⟨u1, e1, d1⟩ := h.new 1 _ 16 rfl rfl (haf ⟨1, .data⟩ (by simp) rfl)
      have d1' : u1 = .pointer (some ⟨w2.heap.size + 1, 4, none⟩) := d1
      subst d1'
      obtain ⟨_, _, _, _, m4, _, _⟩ := bk5 g2
      refine wp_val (v := .int .i64 R) (w' := W) ?_ ⟨_, rfl, rfl, fun _ _ h => h, g1, g2, g3⟩
      unfold execOp
      simp [e1, go_sem, m4]
    · obtain ⟨u1, e1, d1⟩ := h.new 0 _ 15 rfl rfl (haf ⟨0, .data⟩ (by simp) rfl)
      have d1' : u1 = (.agg #[.int .i64 0, .int .i64 0, .int .i64 0, .string ⟨#[]⟩, .string ⟨#[]⟩, .string ⟨#[]⟩, .int .i64 0, .int .i64 0, .int .i64 0, .string ⟨#[]⟩, .slice none 0 0]) := d1
      subst d1'
      have e8 := h.given 2 _ rfl (by kernel_rfl)
      obtain ⟨z0, z1, z2, z3, z4, z5, z6, z7, z8, z9, z10, z11, z12⟩ := bk11 g3
      refine wp_skip (w' := (((((((((((W).setCell ⟨w.heap.size + 1, 0, none⟩ (.int .i64 0)).setCell ⟨w.heap.size + 1, 1, none⟩ (.int .i64 0)).setCell ⟨w.heap.size + 1, 2, none⟩ (.int .i64 0)).setCell ⟨w.heap.size + 1, 3, none⟩ (.string ⟨#[]⟩)).setCell ⟨w.heap.size + 1, 4, none⟩ (.string ⟨#[]⟩)).setCell ⟨w.heap.size + 1, 5, none⟩ (.string ⟨#[]⟩)).setCell ⟨w.heap.size + 1, 6, none⟩ (.int .i64 0)).setCell ⟨w.heap.size + 1, 7, none⟩ (.int .i64 0)).setCell ⟨w.heap.size + 1, 8, none⟩ (.int .i64 0)).setCell ⟨w.heap.size + 1, 9, none⟩ (.string ⟨#[]⟩)).setCell ⟨w.heap.size + 1, 10, none⟩ (.slice none 0 0)) ?_ ⟨_, rfl, trivial, fun _ _ h => h, ?_⟩
      · unfold execOp
        simp [e1, e8, go_sem, z0, z1, z2, z3, z4, z5, z6, z7, z8, z9, z10, z11]
      · have k1 := putL_below (w0 := w) (B := w.heap.size) (b := w.heap.size + 1) (Nat.le_succ _) [.int .i64 0, .int .i64 0, .int .i64 0, .string ⟨#[]⟩, .string ⟨#[]⟩, .string ⟨#[]⟩, .int .i64 0, .int .i64 0, .int .i64 0, .string ⟨#[]⟩, .slice none 0 0] W 0 g1
        have k2 := (putL_other (b := w.heap.size + 1) (c := w2.heap.size + 1) (by omega) [.int .i64 0, .int .i64 0, .int .i64 0, .string ⟨#[]⟩, .string ⟨#[]⟩, .string ⟨#[]⟩, .int .i64 0, .int .i64 0, .int .i64 0, .string ⟨#[]⟩, .slice none 0 0] W 0).trans g2
        have k3 := putL_same g3 [.int .i64 0, .int .i64 0, .int .i64 0, .string ⟨#[]⟩, .string ⟨#[]⟩, .string ⟨#[]⟩, .int .i64 0, .int .i64 0, .int .i64 0, .string ⟨#[]⟩, .slice none 0 0] rfl
        exact ⟨k1, k2, k3⟩
    · obtain ⟨u1, e1, d1⟩ := h.new 2 _ 17 rfl rfl (haf ⟨2, .data⟩ (by simp) rfl)
      have d1' : u1 = .int .i64 R := d1
      subst d1'
      refine wp_val (v := .int .i64 R) (w' := W) ?_ ⟨_, rfl, rfl, fun _ _ h => h, g1, g2, g3⟩
      unfold execOp
      simp [e1, go_sem]
  · intro v W hv hs hg
    obtain ⟨g1, g2, g3⟩ := hg
    have d4 : v 4 = .int .i64 R := hv 4 _ 3 rfl rfl
    simp only [putAll, d4]
    obtain ⟨y0, y1, y2, y3, y4, y5, y6, y7, y8, y9, y10, _, _⟩ := bk11 g3
    have HB6 := hidC g1
    clear hv hs d4 g1 g2 g3
    go_wp2_with fail
    exact bodyPost_ret (v := .tuple #[.agg #[.int .i64 0, .int .i64 0, .int .i64 0, .string ⟨#[]⟩, .string ⟨#[]⟩, .string ⟨#[]⟩, .int .i64 0, .int .i64 0, .int .i64 0, .string ⟨#[]⟩, .slice none 0 0], .int .i64 R]) (by simp [results, Tryd.results6, go_sem, y0, y1, y2, y3, y4, y5, y6, y7, y8, y9, y10]) rfl ⟨rfl, HB6.out⟩
end Go.Proofs.YtkhlfdnlpimojaaDoor
