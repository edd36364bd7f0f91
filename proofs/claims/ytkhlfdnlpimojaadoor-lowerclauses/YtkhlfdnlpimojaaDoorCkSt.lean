/-
  WHERE AN EXPRESSION LIES; what a look at it keeps: the table of functions, the names in scope with how often each is, and what was counted.
-/
import Derived.Test.YtkhlfdnlpimojaaDoorCkFns
set_option linter.unusedVariables false
namespace Go.Proofs.YtkhlfdnlpimojaaDoor
set_option maxRecDepth 100000
open Go.RowKit Go.WideShapes

/-- the cells of an expression -/
structure HeadAt (w : World) (b off : Nat) (k : Int) (it : It) (nm a : ByteArray) (n ax tk : Int) (tn : ByteArray) (v : Value) : Prop where
  c0 : w.cell? ⟨b, off, none⟩ = some (.int .i64 k)
  c1 : w.cell? ⟨b, off + 1, none⟩ = some (.int .i64 it.kind)
  c2 : w.cell? ⟨b, off + 2, none⟩ = some (.int .i64 it.n)
  c3 : w.cell? ⟨b, off + 3, none⟩ = some (.string it.s)
  c4 : w.cell? ⟨b, off + 4, none⟩ = some (.string nm)
  c5 : w.cell? ⟨b, off + 5, none⟩ = some (.string a)
  c6 : w.cell? ⟨b, off + 6, none⟩ = some (.int .i64 n)
  c7 : w.cell? ⟨b, off + 7, none⟩ = some (.int .i64 ax)
  c8 : w.cell? ⟨b, off + 8, none⟩ = some (.int .i64 tk)
  c9 : w.cell? ⟨b, off + 9, none⟩ = some (.string tn)
  c10 : w.cell? ⟨b, off + 10, none⟩ = some v
  s1 : it.s.size ≤ maxLen
  s2 : nm.size ≤ maxLen
  s3 : a.size ≤ maxLen
theorem HeadAt.keep {w w' : World} {b off : Nat} {k : Int} {it : It} {nm a : ByteArray} {n ax tk : Int} {tn : ByteArray} {v : Value} (h : HeadAt w b off k it nm a n ax tk tn v) (hb : w'.heap[b]? = w.heap[b]?) : HeadAt w' b off k it nm a n ax tk tn v := by
  have e : ∀ o, w'.cell? ⟨b, o, none⟩ = w.cell? ⟨b, o, none⟩ := fun o => by unfold World.cell?; rw [hb]
  exact ⟨(e _).trans h.c0, (e _).trans h.c1, (e _).trans h.c2, (e _).trans h.c3, (e _).trans h.c4, (e _).trans h.c5, (e _).trans h.c6, (e _).trans h.c7, (e _).trans h.c8, (e _).trans h.c9, (e _).trans h.c10, h.s1, h.s2, h.s3⟩
/-- an expression that lies there, and all that is in it below B -/
def Ex.At (w : World) (B : Nat) : Ex → Nat → Nat → Prop
  | .no, _, _ => False
  | .mk k it nm a n ax tk tn m A, b, off => b < B ∧ ∃ sl cap, HeadAt w b off k it nm a n ax tk tn (.slice sl m cap) ∧ m ≤ cap ∧ cap ≤ maxLen ∧ (0 < m → ∃ b' off', sl = some ⟨b', off', none⟩ ∧ b' < B ∧ ∀ i, i < m → (A i).At w B b' (off' + i * 11))
theorem Ex.At.below {w w' : World} {B : Nat} {x : Ex} : ∀ {b off : Nat}, x.At w B b off → Below B w w' → x.At w' B b off := by
  induction x with
  | no => intro b off h hb; exact h.elim
  | mk k it nm a n ax tk tn m A ih =>
    intro b off h hb
    obtain ⟨h1, sl, cap, h2, h3, h4, h5⟩ := h
    refine ⟨h1, sl, cap, h2.keep (hb.block b h1), h3, h4, fun h0 => ?_⟩
    obtain ⟨b', off', k1, k2, k3⟩ := h5 h0
    exact ⟨b', off', k1, k2, fun i hi => ih i (k3 i hi) hb⟩
/-- how often each name is in scope -/
def SMap (w : World) (M : Nat) (N : ByteArray → Nat) : Prop := ∃ V, VMap w M V ∧ ∀ x, (V x).getD (.int .i64 0) = .int .i64 (N x : Int)
theorem SMap.made (w : World) : SMap (w.alloc (.map #[] 0)) w.heap.size (fun _ => 0) := ⟨_, VMap.made w, fun x => rfl⟩
theorem SMap.keep {w w' : World} {M : Nat} {N : ByteArray → Nat} (h : SMap w M N) (hM : w'.heap[M]? = w.heap[M]?) : SMap w' M N := by
  obtain ⟨V, h1, h2⟩ := h
  exact ⟨V, h1.keep hM, h2⟩
theorem SMap.lt {w : World} {M : Nat} {N : ByteArray → Nat} (h : SMap w M N) : M < w.heap.size := by
  obtain ⟨V, h1, h2⟩ := h
  exact h1.lt
theorem SMap.congr {w : World} {M : Nat} {N N' : ByteArray → Nat} (h : SMap w M N) (e : ∀ x, N x = N' x) : SMap w M N' := by
  have : N = N' := funext e
  rw [← this]; exact h
theorem SMap.put {w' : World} {M : Nat} {N : ByteArray → Nat} {V : ByteArray → Option Value} {x : ByteArray} {n : Nat} (hV : ∀ x, (V x).getD (.int .i64 0) = .int .i64 (N x : Int)) (h : VMap w' M (putV V x (.int .i64 (n : Int)))) : SMap w' M (fun y => if (y.toList == x.toList) = true then n else N y) := by
  refine ⟨_, h, fun y => ?_⟩
  unfold putV
  show (if (y.toList == x.toList) = true then some (Value.int .i64 (n : Int)) else V y).getD (.int .i64 0) = .int .i64 ((if (y.toList == x.toList) = true then n else N y : Nat) : Int)
  by_cases e : (y.toList == x.toList) = true
  · rw [if_pos e, if_pos e]; rfl
  · rw [if_neg e, if_neg e]; exact hV y
/-- how often a name is among some; an empty one is none -/
def hitB (y x : ByteArray) : Bool := Nat.blt 0 x.size && (y.toList == x.toList)
def cntE (L : List ByteArray) (y : ByteArray) : Nat := L.countP (hitB y)
theorem hit_no {x : ByteArray} (h : x.size = 0) (y : ByteArray) : hitB y x = false := by unfold hitB; rw [h]; rfl
theorem hit_yes {x : ByteArray} (h : x.size ≠ 0) (y : ByteArray) : hitB y x = (y.toList == x.toList) := by
  have : Nat.blt 0 x.size = true := Nat.ble_eq_true_of_le (by omega)
  unfold hitB; rw [this]; rfl
theorem cntE_take {L : List ByteArray} {k : Nat} (h : k < L.length) (y : ByteArray) : cntE (L.take (k + 1)) y = cntE (L.take k) y + (if hitB y L[k] = true then 1 else 0) := by
  unfold cntE
  rw [List.take_succ_eq_append_getElem h, List.countP_append, List.countP_cons, List.countP_nil, Nat.zero_add]
theorem cntE_drop {L : List ByteArray} {k : Nat} (h : k < L.length) (y : ByteArray) : cntE (L.drop k) y = cntE (L.drop (k + 1)) y + (if hitB y L[k] = true then 1 else 0) := by
  unfold cntE
  rw [List.drop_eq_getElem_cons h, List.countP_cons]
theorem cntE_le (L : List ByteArray) (y : ByteArray) : cntE L y ≤ L.length := List.countP_le_length
/-- .. the names of an expression -/
theorem cntS_inn (S : List ByteArray) {k : Int} {nm a : ByteArray} (hb : bindsB k = true) (hn : nm.size ≠ 0) (y : ByteArray) : cntS (innS S k nm a) y = cntS S y + cntE [nm, atN k a] y := by
  unfold innS
  rw [if_pos hb]
  have h1 : cntE [nm, atN k a] y = (if hitB y (atN k a) = true then 1 else 0) + (if hitB y nm = true then 1 else 0) := by
    unfold cntE
    rw [List.countP_cons, List.countP_cons, List.countP_nil, Nat.zero_add]
  rw [h1, hit_yes hn]
  unfold addN
  by_cases h : (atN k a).size = 0
  · rw [if_pos h, cntS_snoc, hit_no h]
    simp only [Bool.false_eq_true, if_false]
    omega
  · rw [if_neg h, cntS_snoc, cntS_snoc, hit_yes h]
    omega
/-- what a look keeps -/
structure CkS (w : World) (cb tb sb : Nat) (N : ByteArray → Nat) (l k p : Nat) : Prop where
  blk : w.heap[cb]? = some (.cells #[.map (some tb), .map (some sb), .int .i64 (l : Int), .int .i64 (k : Int), .int .i64 (p : Int)] 60)
  tab : VMap w tb fnsV
  sc : SMap w sb N
  tn : tb ≠ sb
theorem CkS.ne {w : World} {cb tb sb : Nat} {N : ByteArray → Nat} {l k p : Nat} (h : CkS w cb tb sb N l k p) : cb ≠ tb ∧ cb ≠ sb := by
  obtain ⟨h1, ⟨es, c, h2, _⟩, ⟨V, ⟨es', c', h3, _⟩, _⟩, _⟩ := h
  exact ⟨(fun e => by rw [e, h2] at h1; cases h1), (fun e => by rw [e, h3] at h1; cases h1)⟩
theorem CkS.lt {w : World} {cb tb sb : Nat} {N : ByteArray → Nat} {l k p : Nat} (h : CkS w cb tb sb N l k p) : cb < w.heap.size := (Array.getElem?_eq_some_iff.1 h.blk).1
theorem CkS.cells {w : World} {cb tb sb : Nat} {N : ByteArray → Nat} {l k p : Nat} (h : CkS w cb tb sb N l k p) : w.cell? ⟨cb, 0, none⟩ = some (.map (some tb)) ∧ w.cell? ⟨cb, 1, none⟩ = some (.map (some sb)) ∧ w.cell? ⟨cb, 2, none⟩ = some (.int .i64 (l : Int)) ∧ w.cell? ⟨cb, 3, none⟩ = some (.int .i64 (k : Int)) ∧ w.cell? ⟨cb, 4, none⟩ = some (.int .i64 (p : Int)) ∧ w.frozen? ⟨cb, 2, none⟩ = false ∧ w.frozen? ⟨cb, 3, none⟩ = false ∧ w.frozen? ⟨cb, 4, none⟩ = false := by
  have h1 := h.blk
  refine ⟨?_, ?_, ?_, ?_, ?_, ?_, ?_, ?_⟩ <;> first | (rw [Lib.cell_of_heap h1]; rfl) | exact Lib.frozen_of_heap h1 _
theorem CkS.keep {w w' : World} {cb tb sb : Nat} {N : ByteArray → Nat} {l k p : Nat} (h : CkS w cb tb sb N l k p) (hb : ∀ b, b < w.heap.size → w'.heap[b]? = w.heap[b]?) : CkS w' cb tb sb N l k p :=
  ⟨(hb _ h.lt).trans h.blk, h.tab.keep (hb _ h.tab.lt), h.sc.keep (hb _ h.sc.lt), h.tn⟩
theorem CkS.below {w w' : World} {cb tb sb : Nat} {N : ByteArray → Nat} {l k p : Nat} (h : CkS w cb tb sb N l k p) (hb : Below w.heap.size w w') : CkS w' cb tb sb N l k p := h.keep fun b hb1 => hb.block b hb1
theorem heap_set_same {w : World} {b : Nat} {cs : Array Value} {T : TypeId} (h : w.heap[b]? = some (.cells cs T)) (j : Nat) (v : Value) : (w.setCell ⟨b, j, none⟩ v).heap[b]? = some (.cells (cs.setIfInBounds j v) T) := by
  simp [World.setCell, Array.getElem?_modify, h]
theorem CkS.setP {w : World} {cb tb sb : Nat} {N : ByteArray → Nat} {l k p : Nat} (h : CkS w cb tb sb N l k p) (p' : Nat) : CkS (w.setCell ⟨cb, 4, none⟩ (.int .i64 (p' : Int))) cb tb sb N l k p' :=
  ⟨by rw [heap_set_same h.blk]; rfl, h.tab.keep (Below.heap_setCell _ _ _ _ (fun e => h.ne.1 e.symm)), h.sc.keep (Below.heap_setCell _ _ _ _ (fun e => h.ne.2 e.symm)), h.tn⟩
theorem CkS.setL {w : World} {cb tb sb : Nat} {N : ByteArray → Nat} {l k p : Nat} (h : CkS w cb tb sb N l k p) (l' : Nat) : CkS (w.setCell ⟨cb, 2, none⟩ (.int .i64 (l' : Int))) cb tb sb N l' k p :=
  ⟨by rw [heap_set_same h.blk]; rfl, h.tab.keep (Below.heap_setCell _ _ _ _ (fun e => h.ne.1 e.symm)), h.sc.keep (Below.heap_setCell _ _ _ _ (fun e => h.ne.2 e.symm)), h.tn⟩
theorem CkS.setK {w : World} {cb tb sb : Nat} {N : ByteArray → Nat} {l k p : Nat} (h : CkS w cb tb sb N l k p) (k' : Nat) : CkS (w.setCell ⟨cb, 3, none⟩ (.int .i64 (k' : Int))) cb tb sb N l k' p :=
  ⟨by rw [heap_set_same h.blk]; rfl, h.tab.keep (Below.heap_setCell _ _ _ _ (fun e => h.ne.1 e.symm)), h.sc.keep (Below.heap_setCell _ _ _ _ (fun e => h.ne.2 e.symm)), h.tn⟩
theorem zeroI (w : World) : (zeroValue 3).run Tryd.prog w = .ok (.int .i64 0) w := by kernel_rfl
theorem zeroF (w : World) : (zeroValue 55).run Tryd.prog w = .ok (.agg #[.string ByteArray.empty, .int .i64 0]) w := by kernel_rfl
end Go.Proofs.YtkhlfdnlpimojaaDoor
