/-
  THE TABLES OF THE PARSER's ROWS: a world in which all that is listed lies, for the witness.
-/
import Derived.Test.YtcbpjgnbdpfiiaaGreatDoorCkFns
import Derived.Test.YtcbpjgnbdpfiiaaGreatDoorPtTab
import Derived.Test.YtcbpjgnbdpfiiaaGreatDoorPtMake
import Derived.Test.YtcbpjgnbdpfiiaaGreatDoorRgIn
import Derived.Shelf.Strconv.Clone
import Derived.Deep.Cut
import Derived.Deep.QuietTactic
import Derived.BigQuiet
import Derived.Deep.RegionLaw
import Derived.Test.YtcbpjgnbdpfiiaaGreatDoorTkOpen
set_option linter.unusedVariables false
namespace Go.Proofs.YtcbpjgnbdpfiiaaGreatDoor
set_option maxRecDepth 100000
open Go.RowKit Go.WideShapes

/-- the cells of an expression -/
structure HeadAt (w : World) (b off : Nat) (k : Int) (it : It) (nm a : ByteArray) (n ax tk : Int) (tn : ByteArray) (v : Value) : Prop where
  c0 : w.cell? ⟨b, off, none⟩ = some (.int .i64 k)
  c1 : w.cell? ⟨b, off + 1, none⟩ = some (.int .i64 it.kind)
  c2 : w.cell? ⟨b, off + 2, none⟩ = some (.int .i64 it.n)
  c3 : w.cell? ⟨b, off + 3, none⟩ = some (.string it.s)
  c4 : w.cell? ⟨b, off + 4, none⟩ = some (.string nm)
  c5 : w.cell? ⟨b, off + 5, none⟩ = some (.string a)
  c6 : w.cell? ⟨b, off + 6, none⟩ = some (.int .i64 n)
  c7 : w.cell? ⟨b, off + 7, none⟩ = some (.int .i64 ax)
  c8 : w.cell? ⟨b, off + 8, none⟩ = some (.int .i64 tk)
  c9 : w.cell? ⟨b, off + 9, none⟩ = some (.string tn)
  c10 : w.cell? ⟨b, off + 10, none⟩ = some v
  s1 : it.s.size ≤ maxLen
  s2 : nm.size ≤ maxLen
  s3 : a.size ≤ maxLen
theorem HeadAt.keep {w w' : World} {b off : Nat} {k : Int} {it : It} {nm a : ByteArray} {n ax tk : Int} {tn : ByteArray} {v : Value} (h : HeadAt w b off k it nm a n ax tk tn v) (hb : w'.heap[b]? = w.heap[b]?) : HeadAt w' b off k it nm a n ax tk tn v := by
  have e : ∀ o, w'.cell? ⟨b, o, none⟩ = w.cell? ⟨b, o, none⟩ := fun o => by unfold World.cell?; rw [hb]
  exact ⟨(e _).trans h.c0, (e _).trans h.c1, (e _).trans h.c2, (e _).trans h.c3, (e _).trans h.c4, (e _).trans h.c5, (e _).trans h.c6, (e _).trans h.c7, (e _).trans h.c8, (e _).trans h.c9, (e _).trans h.c10, h.s1, h.s2, h.s3⟩
/-- an expression that lies there, and all that is in it below B -/
def Ex.At (w : World) (B : Nat) : Ex → Nat → Nat → Prop
  | .no, _, _ => False
  | .mk k it nm a n ax tk tn m A, b, off => b < B ∧ ∃ sl cap, HeadAt w b off k it nm a n ax tk tn (.slice sl m cap) ∧ m ≤ cap ∧ cap ≤ maxLen ∧ (0 < m → ∃ b' off', sl = some ⟨b', off', none⟩ ∧ b' < B ∧ ∀ i, i < m → (A i).At w B b' (off' + i * 11))
theorem Ex.At.below {w w' : World} {B : Nat} {x : Ex} : ∀ {b off : Nat}, x.At w B b off → Below B w w' → x.At w' B b off := by
  induction x with
  | no => intro b off h hb; exact h.elim
  | mk k it nm a n ax tk tn m A ih =>
    intro b off h hb
    obtain ⟨h1, sl, cap, h2, h3, h4, h5⟩ := h
    refine ⟨h1, sl, cap, h2.keep (hb.block b h1), h3, h4, fun h0 => ?_⟩
    obtain ⟨b', off', k1, k2, k3⟩ := h5 h0
    exact ⟨b', off', k1, k2, fun i hi => ih i (k3 i hi) hb⟩
/-- how often each name is in scope -/
def SMap (w : World) (M : Nat) (N : ByteArray → Nat) : Prop := ∃ V, VMap w M V ∧ ∀ x, (V x).getD (.int .i64 0) = .int .i64 (N x : Int)
theorem SMap.made (w : World) : SMap (w.alloc (.map #[] 0)) w.heap.size (fun _ => 0) := ⟨_, VMap.made w, fun x => rfl⟩
theorem SMap.keep {w w' : World} {M : Nat} {N : ByteArray → Nat} (h : SMap w M N) (hM : w'.heap[M]? = w.heap[M]?) : SMap w' M N := by
  obtain ⟨V, h1, h2⟩ := h
  exact ⟨V, h1.keep hM, h2⟩
theorem SMap.lt {w : World} {M : Nat} {N : ByteArray → Nat} (h : SMap w M N) : M < w.heap.size := by
  obtain ⟨V, h1, h2⟩ := h
  exact h1.lt
theorem SMap.congr {w : World} {M : Nat} {N N' : ByteArray → Nat} (h : SMap w M N) (e : ∀ x, N x = N' x) : SMap w M N' := by
  have : N = N' := funext e
  rw [← this]; exact h
theorem SMap.put {w' : World} {M : Nat} {N : ByteArray → Nat} {V : ByteArray → Option Value} {x : ByteArray} {n : Nat} (hV : ∀ x, (V x).getD (.int .i64 0) = .int .i64 (N x : Int)) (h : VMap w' M (putV V x (.int .i64 (n : Int)))) : SMap w' M (fun y => if (y.toList == x.toList) = true then n else N y) := by
  refine ⟨_, h, fun y => ?_⟩
  unfold putV
  show (if (y.toList == x.toList) = true then some (Value.int .i64 (n : Int)) else V y).getD (.int .i64 0) = .int .i64 ((if (y.toList == x.toList) = true then n else N y : Nat) : Int)
  by_cases e : (y.toList == x.toList) = true
  · rw [if_pos e, if_pos e]; rfl
  · rw [if_neg e, if_neg e]; exact hV y
/-- how often a name is among some; an empty one is none -/
def hitB (y x : ByteArray) : Bool := Nat.blt 0 x.size && (y.toList == x.toList)
def cntE (L : List ByteArray) (y : ByteArray) : Nat := L.countP (hitB y)
theorem hit_no {x : ByteArray} (h : x.size = 0) (y : ByteArray) : hitB y x = false := by unfold hitB; rw [h]; rfl
theorem hit_yes {x : ByteArray} (h : x.size ≠ 0) (y : ByteArray) : hitB y x = (y.toList == x.toList) := by
  have : Nat.blt 0 x.size = true := Nat.ble_eq_true_of_le (by omega)
  unfold hitB; rw [this]; rfl
theorem cntE_take {L : List ByteArray} {k : Nat} (h : k < L.length) (y : ByteArray) : cntE (L.take (k + 1)) y = cntE (L.take k) y + (if hitB y L[k] = true then 1 else 0) := by
  unfold cntE
  rw [List.take_succ_eq_append_getElem h, List.countP_append, List.countP_cons, List.countP_nil, Nat.zero_add]
theorem cntE_drop {L : List ByteArray} {k : Nat} (h : k < L.length) (y : ByteArray) : cntE (L.drop k) y = cntE (L.drop (k + 1)) y + (if hitB y L[k] = true then 1 else 0) := by
  unfold cntE
  rw [List.drop_eq_getElem_cons h, List.countP_cons]
theorem cntE_le (L : List ByteArray) (y : ByteArray) : cntE L y ≤ L.length := List.countP_le_length
/-- .. the names of an expression -/
theorem cntS_inn (S : List ByteArray) {k : Int} {nm a : ByteArray} (hb : bindsB k = true) (hn : nm.size ≠ 0) (y : ByteArray) : cntS (innS S k nm a) y = cntS S y + cntE [nm, atN k a] y := by
  unfold innS
  rw [if_pos hb]
  have h1 : cntE [nm, atN k a] y = (if hitB y (atN k a) = true then 1 else 0) + (if hitB y nm = true then 1 else 0) := by
    unfold cntE
    rw [List.countP_cons, List.countP_cons, List.countP_nil, Nat.zero_add]
  rw [h1, hit_yes hn]
  unfold addN
  by_cases h : (atN k a).size = 0
  · rw [if_pos h, cntS_snoc, hit_no h]
    simp only [Bool.false_eq_true, if_false]
    omega
  · rw [if_neg h, cntS_snoc, cntS_snoc, hit_yes h]
    omega
/-- what a look keeps -/
structure CkS (w : World) (cb tb sb : Nat) (N : ByteArray → Nat) (l k p : Nat) : Prop where
  blk : w.heap[cb]? = some (.cells #[.map (some tb), .map (some sb), .int .i64 (l : Int), .int .i64 (k : Int), .int .i64 (p : Int)] 103)
  tab : VMap w tb fnsV
  sc : SMap w sb N
  tn : tb ≠ sb
theorem CkS.ne {w : World} {cb tb sb : Nat} {N : ByteArray → Nat} {l k p : Nat} (h : CkS w cb tb sb N l k p) : cb ≠ tb ∧ cb ≠ sb := by
  obtain ⟨h1, ⟨es, c, h2, _⟩, ⟨V, ⟨es', c', h3, _⟩, _⟩, _⟩ := h
  exact ⟨(fun e => by rw [e, h2] at h1; cases h1), (fun e => by rw [e, h3] at h1; cases h1)⟩
theorem CkS.lt {w : World} {cb tb sb : Nat} {N : ByteArray → Nat} {l k p : Nat} (h : CkS w cb tb sb N l k p) : cb < w.heap.size := (Array.getElem?_eq_some_iff.1 h.blk).1
theorem CkS.cells {w : World} {cb tb sb : Nat} {N : ByteArray → Nat} {l k p : Nat} (h : CkS w cb tb sb N l k p) : w.cell? ⟨cb, 0, none⟩ = some (.map (some tb)) ∧ w.cell? ⟨cb, 1, none⟩ = some (.map (some sb)) ∧ w.cell? ⟨cb, 2, none⟩ = some (.int .i64 (l : Int)) ∧ w.cell? ⟨cb, 3, none⟩ = some (.int .i64 (k : Int)) ∧ w.cell? ⟨cb, 4, none⟩ = some (.int .i64 (p : Int)) ∧ w.frozen? ⟨cb, 2, none⟩ = false ∧ w.frozen? ⟨cb, 3, none⟩ = false ∧ w.frozen? ⟨cb, 4, none⟩ = false := by
  have h1 := h.blk
  refine ⟨?_, ?_, ?_, ?_, ?_, ?_, ?_, ?_⟩ <;> first | (rw [Lib.cell_of_heap h1]; rfl) | exact Lib.frozen_of_heap h1 _
theorem CkS.keep {w w' : World} {cb tb sb : Nat} {N : ByteArray → Nat} {l k p : Nat} (h : CkS w cb tb sb N l k p) (hb : ∀ b, b < w.heap.size → w'.heap[b]? = w.heap[b]?) : CkS w' cb tb sb N l k p :=
  ⟨(hb _ h.lt).trans h.blk, h.tab.keep (hb _ h.tab.lt), h.sc.keep (hb _ h.sc.lt), h.tn⟩
theorem CkS.below {w w' : World} {cb tb sb : Nat} {N : ByteArray → Nat} {l k p : Nat} (h : CkS w cb tb sb N l k p) (hb : Below w.heap.size w w') : CkS w' cb tb sb N l k p := h.keep fun b hb1 => hb.block b hb1
theorem heap_set_same {w : World} {b : Nat} {cs : Array Value} {T : TypeId} (h : w.heap[b]? = some (.cells cs T)) (j : Nat) (v : Value) : (w.setCell ⟨b, j, none⟩ v).heap[b]? = some (.cells (cs.setIfInBounds j v) T) := by
  simp [World.setCell, Array.getElem?_modify, h]
theorem CkS.setP {w : World} {cb tb sb : Nat} {N : ByteArray → Nat} {l k p : Nat} (h : CkS w cb tb sb N l k p) (p' : Nat) : CkS (w.setCell ⟨cb, 4, none⟩ (.int .i64 (p' : Int))) cb tb sb N l k p' :=
  ⟨by rw [heap_set_same h.blk]; rfl, h.tab.keep (Below.heap_setCell _ _ _ _ (fun e => h.ne.1 e.symm)), h.sc.keep (Below.heap_setCell _ _ _ _ (fun e => h.ne.2 e.symm)), h.tn⟩
theorem CkS.setL {w : World} {cb tb sb : Nat} {N : ByteArray → Nat} {l k p : Nat} (h : CkS w cb tb sb N l k p) (l' : Nat) : CkS (w.setCell ⟨cb, 2, none⟩ (.int .i64 (l' : Int))) cb tb sb N l' k p :=
  ⟨by rw [heap_set_same h.blk]; rfl, h.tab.keep (Below.heap_setCell _ _ _ _ (fun e => h.ne.1 e.symm)), h.sc.keep (Below.heap_setCell _ _ _ _ (fun e => h.ne.2 e.symm)), h.tn⟩
theorem CkS.setK {w : World} {cb tb sb : Nat} {N : ByteArray → Nat} {l k p : Nat} (h : CkS w cb tb sb N l k p) (k' : Nat) : CkS (w.setCell ⟨cb, 3, none⟩ (.int .i64 (k' : Int))) cb tb sb N l k' p :=
  ⟨by rw [heap_set_same h.blk]; rfl, h.tab.keep (Below.heap_setCell _ _ _ _ (fun e => h.ne.1 e.symm)), h.sc.keep (Below.heap_setCell _ _ _ _ (fun e => h.ne.2 e.symm)), h.tn⟩
theorem zeroI (w : World) : (zeroValue 3).run Tryz.prog w = .ok (.int .i64 0) w := by kernel_rfl
theorem zeroF (w : World) : (zeroValue 98).run Tryz.prog w = .ok (.agg #[.string ByteArray.empty, .int .i64 0]) w := by kernel_rfl
end Go.Proofs.YtcbpjgnbdpfiiaaGreatDoor
set_option linter.unusedVariables false
namespace Go.Proofs.YtcbpjgnbdpfiiaaGreatDoor
set_option maxRecDepth 100000
open Go.RowKit

/-- the parser's tables lie there, and none of them is the parser's own block -/
def RTab (w : World) (pb : Nat) : Prop := OpTab w ∧ KtTab w ∧ AxTab w ∧ 4 ≠ pb ∧ 6 ≠ pb ∧ 5 ≠ pb
theorem RTab.grow {w w' : World} {pb : Nat} (h : RTab w pb) (hg : GrowA pb w w') : RTab w' pb := ⟨h.1.grow hg h.2.2.2.1, h.2.1.grow hg h.2.2.2.2.1, h.2.2.1.grow hg h.2.2.2.2.2, h.2.2.2⟩
/-- a rule: the phrase p is answered -/
def RunT (pb b c : Nat) (T : List Tok) (f : Nat) (args : Array Value) (st st' : Pst) (p : Ph) : Prop := ∀ (w : World), PaS w pb b c T st → RTab w pb → Calls Tryz.prog f args w fun e w' => ∃ v, Tre w' w.heap.size p v ∧ e = .returned (.agg v.toArray) ∧ PaS w' pb b c T st' ∧ GrowA pb w w'
/-- a rule of a function that answers a list of phrases -/
def RunL (pb b c : Nat) (T : List Tok) (f : Nat) (st st' : Pst) (n : Nat) (A : Nat → Ph) : Prop := ∀ (w : World), PaS w pb b c T st → RTab w pb → Calls Tryz.prog f #[.pointer (some ⟨pb, 0, none⟩)] w fun e w' => ∃ v, Phs w' w.heap.size n A v ∧ e = .returned v ∧ PaS w' pb b c T st' ∧ GrowA pb w w'
/-- a rule, as a walk uses it in a later world -/
theorem RunT.use {pb b c : Nat} {T : List Tok} {f : Nat} {args : Array Value} {st st' : Pst} {p : Ph} (h : RunT pb b c T f args st st' p) {w W : World} {r0 : Nat} (ht : RTab w pb) (hp : PaS W pb b c T st) (hg : GrowA pb w W) (hl : r0 < W.heap.size) :
    Calls Tryz.prog f args W fun e w' => ∃ lo v, (r0 < lo ∧ pb < lo ∧ lo ≤ w'.heap.size) ∧ Tre w' lo p v ∧ e = .returned (.agg v.toArray) ∧ PaS w' pb b c T st' ∧ GrowA pb W w' :=
  (h W hp (ht.grow hg)).mono fun e w' ⟨v, h1, h2, h3, h4⟩ => ⟨W.heap.size, v, ⟨hl, hp.pl, h4.1⟩, h1, h2, h3, h4⟩
theorem RunL.use {pb b c : Nat} {T : List Tok} {f : Nat} {st st' : Pst} {n : Nat} {A : Nat → Ph} (h : RunL pb b c T f st st' n A) {w W : World} {r0 : Nat} (ht : RTab w pb) (hp : PaS W pb b c T st) (hg : GrowA pb w W) (hl : r0 < W.heap.size) :
    Calls Tryz.prog f #[.pointer (some ⟨pb, 0, none⟩)] W fun e w' => ∃ lo v, (r0 < lo ∧ pb < lo ∧ lo ≤ w'.heap.size) ∧ Phs w' lo n A v ∧ e = .returned v ∧ PaS w' pb b c T st' ∧ GrowA pb W w' :=
  (h W hp (ht.grow hg)).mono fun e w' ⟨v, h1, h2, h3, h4⟩ => ⟨W.heap.size, v, ⟨hl, hp.pl, h4.1⟩, h1, h2, h3, h4⟩
theorem Phs.below {w w' : World} {lo na : Nat} {A : Nat → Ph} {v : Value} (h : Phs w lo na A v) (hb : Below w.heap.size w w') : Phs w' lo na A v := by
  obtain ⟨a, c, h1, h2, h2', h3⟩ := h
  refine ⟨a, c, h1, h2, h2', fun hn => ?_⟩
  obtain ⟨g, q1, q2, q3⟩ := h3 hn
  refine ⟨g, q1, ⟨q2.1, Nat.lt_of_lt_of_le q2.2 hb.size⟩, fun i hi => ?_⟩
  obtain ⟨u, r1, r2⟩ := q3 i hi
  exact ⟨u, r1.keep (hb.block g q2.2), r2.below hb⟩
/-- a token in a block of its own -/
def TkB (w : World) (x : Nat) (v : Array Value) : Prop := w.heap[x]? = some (.cells v 50)
theorem TkB.lt {w : World} {r : Nat} {v : Array Value} (h : TkB w r v) : r < w.heap.size := (Array.getElem?_eq_some_iff.1 h).1
theorem TkB.new (w : World) (v : Array Value) : TkB (w.alloc (.cells v 50)) w.heap.size v := heap_alloc_new _ _
theorem TkB.grow {w w' : World} {pb r : Nat} {v : Array Value} (h : TkB w r v) (hg : GrowA pb w w') (hr : r ≠ pb) : TkB w' r v := (hg.2.2.2.2 r h.lt hr).trans h
theorem TkB.below {w w' : World} {r : Nat} {v : Array Value} (h : TkB w r v) (hb : Below w.heap.size w w') : TkB w' r v := (hb.block r h.lt).trans h
theorem TkB.allocI {w : World} {r : Nat} {v : Array Value} (h : TkB w r v) (o : Obj) : TkB (w.alloc o) r v := h.below ((Below.refl _ _).alloc (Nat.le_refl _) o)
theorem TkB.cells {w : World} {r : Nat} {k n : Int} {s : ByteArray} (h : TkB w r #[.int .i64 k, .string s, .int .i64 n]) : w.cell? ⟨r, 0, none⟩ = some (.int .i64 k) ∧ w.cell? ⟨r, 1, none⟩ = some (.string s) ∧ w.cell? ⟨r, 2, none⟩ = some (.int .i64 n) := by
  unfold TkB at h
  refine ⟨?_, ?_, ?_⟩ <;> simp [World.cell?, h]
theorem PhB.put {w : World} {r : Nat} {y0 y1 y2 y3 y4 y5 y6 y7 y8 y9 y10 : Value} (h : PhB w r #[y0, y1, y2, y3, y4, y5, y6, y7, y8, y9, y10]) {x0 x1 x2 x3 x4 x5 x6 x7 x8 x9 x10 : Value} : PhB (((((((((((w.setCell ⟨r, 0, none⟩ x0).setCell ⟨r, 1, none⟩ x1).setCell ⟨r, 2, none⟩ x2).setCell ⟨r, 3, none⟩ x3).setCell ⟨r, 4, none⟩ x4).setCell ⟨r, 5, none⟩ x5).setCell ⟨r, 6, none⟩ x6).setCell ⟨r, 7, none⟩ x7).setCell ⟨r, 8, none⟩ x8).setCell ⟨r, 9, none⟩ x9).setCell ⟨r, 10, none⟩ x10) r #[x0, x1, x2, x3, x4, x5, x6, x7, x8, x9, x10] := by
  unfold PhB at h ⊢
  simp [World.setCell, Array.getElem?_modify, h]
theorem PhB.setAt {w : World} {r : Nat} {v : Array Value} (h : PhB w r v) (k : Nat) (u : Value) : PhB (w.setCell ⟨r, k, none⟩ u) r (v.setIfInBounds k u) := by
  unfold PhB at h ⊢
  simp [World.setCell, Array.getElem?_modify, h]
theorem PhB.setO {w : World} {r x : Nat} {v : Array Value} (h : PhB w r v) (hn : r ≠ x) (k : Nat) (u : Value) : PhB (w.setCell ⟨x, k, none⟩ u) r v := (Below.heap_setCell _ _ _ _ (by simpa using hn)).trans h
theorem TkB.setO {w : World} {r x : Nat} {v : Array Value} (h : TkB w r v) (hn : r ≠ x) (k : Nat) (u : Value) : TkB (w.setCell ⟨x, k, none⟩ u) r v := (Below.heap_setCell _ _ _ _ (by simpa using hn)).trans h
/-- a list of one phrase in a block that was just made -/
theorem phs_new {w : World} {lo : Nat} {p : Ph} {u : List Value} (hp : Tre w lo p u) (hl : lo ≤ w.heap.size) (hu : u.length = 11) : Phs (w.alloc (.cells u.toArray 38)) lo 1 (fun _ => p) (.slice (some ⟨w.heap.size, 0, none⟩) 1 1) := phs_one (heap_alloc_new _ _) hl (hp.allocI _) hu
theorem phs_at {w : World} {lo g : Nat} {p : Ph} {u : List Value} (hg : w.heap.size = g) (hp : Tre w lo p u) (hl : lo ≤ g) (hu : u.length = 11) : Phs (w.alloc (.cells u.toArray 38)) lo 1 (fun _ => p) (.slice (some ⟨g, 0, none⟩) 1 1) := by
  subst hg
  exact phs_new hp hl hu
end Go.Proofs.YtcbpjgnbdpfiiaaGreatDoor
set_option linter.unusedVariables false
namespace Go.Proofs.YtcbpjgnbdpfiiaaGreatDoor
set_option maxRecDepth 100000
open Go.RowKit

theorem want_eq {w : World} {pb b c : Nat} {T : List Tok} {st : Pst} (h : PaS w pb b c T st) (hT : T.length ≤ 200) (hat : st.at' ≤ 300) {k n : Int} {s : ByteArray} {st2 : Pst} (hs : wantM T st ⟨k, s, n⟩ = st2) :
    Calls Tryz.prog 139 #[.pointer (some ⟨pb, 0, none⟩), .agg #[.int .i64 k, .string s, .int .i64 n]] w fun e w' => e = .returned (.tuple #[]) ∧ PaS w' pb b c T st2 ∧ GrowA pb w w' := by
  have := want_is h ⟨k, s, n⟩ hT hat
  rw [hs] at this
  exact this
set_option maxHeartbeats 1600000 in
theorem clone_of (s : ByteArray) (w : World) (hs : s.size ≤ 4000) : Calls Tryz.prog 63 #[.string s] w fun e w' => e = .returned (.string s) ∧ Below w.heap.size w w' := by
  have CC : Hid (∀ W, Calls Tryz.prog 113 #[.string s] W fun e w' => e = .returned (.string s) ∧ Below W.heap.size W w') := fun W => (Tryz.stringslite_Clone s W (by omega)).mono fun e w' h => h
  go_enter Tryz.func63, Tryz.ntmps63
  go_wp2_with (go_at_call 113; refine (CC.out _).mono ?_; rintro e w1 ⟨rfl, hb1⟩)
  all_goals (exact bodyPost_ret (v := .string s) (by simp [results, Tryz.results63, go_sem]) rfl ⟨rfl, hb1⟩)
set_option maxHeartbeats 1600000 in
theorem text_yes {w : World} {pb b c : Nat} {T : List Tok} {st : Pst} (h : PaS w pb b c T st) (hT : T.length ≤ 200) (hat : st.at' ≤ 300) {k un : Int} {us : ByteArray} (hu : seeM T st 0 = ⟨k, us, un⟩) (hs : us.size ≤ 4000) :
    Calls Tryz.prog 140 #[.pointer (some ⟨pb, 0, none⟩), .int .i64 k] w fun e w' => e = .returned (.string us) ∧ PaS w' pb b c T { st with at' := st.at' + 1 } ∧ GrowA pb w w' := by
  have HP1 : Hid (PaS w pb b c T st) := h
  have HG1 : Hid (GrowA pb w w) := GrowA.refl _ _
  have hk2 : (k != k) = false := by simp
  have hwr : IntKind.i64.wrap ((st.at' : Int) + 1) = ((st.at' + 1 : Nat) : Int) := by rw [IntWalk.i64_in _ (by omega)]; simp
  have CL : Hid (∀ W, Calls Tryz.prog 63 #[.string us] W fun e w' => e = .returned (.string us) ∧ Below W.heap.size W w') := fun W => clone_of us W hs
  clear h
  go_enter Tryz.func140, Tryz.ntmps140
  go_upto_region 2 with (first
    | (go_at_call 70; (first | refine (see_lit HP1.out 0 (by omega) hT hat hu).mono ?_ | refine (see_lit (HP1.out.allocI _) 0 (by omega) hT hat hu).mono ?_ | refine (see_lit ((HP1.out.allocI _).allocI _) 0 (by omega) hT hat hu).mono ?_); rintro e w2 ⟨rfl, hb⟩; have HG2 : Hid (GrowA pb w w2) := (by first | exact HG1.out.below hb | exact (HG1.out.alloc _).below hb | exact ((HG1.out.alloc _).alloc _).below hb); have HP2 : Hid (PaS w2 pb b c T st) := (by first | exact HP1.out.below hb | exact (HP1.out.allocI _).below hb | exact ((HP1.out.allocI _).allocI _).below hb); have hxp : w2.heap.size ≠ pb := (by have := HP2.out.pl; omega); clear hb HP1 HG1))
  obtain ⟨W3, hW3⟩ : ∃ W, W = w2.alloc (.cells #[.int .i64 k, .string us, .int .i64 un] 50) := ⟨_, rfl⟩
  have HP3 : Hid (PaS W3 pb b c T st) := by rw [hW3]; exact HP2.out.allocI _
  have HG3 : Hid (GrowA pb w W3) := by rw [hW3]; exact HG2.out.alloc _
  have HX3 : Hid (TkB W3 w2.heap.size #[.int .i64 k, .string us, .int .i64 un]) := by rw [hW3]; exact TkB.new w2 _
  have hxp : w2.heap.size ≠ pb := by have := HP2.out.pl; omega
  rw [← hW3]
  clear hW3 HP2 HG2
  have x1 := HP3.out.a
  have f1 := HP3.out.fa
  have hl3 := HP3.out.pl
  have hx3 := HX3.out.lt
  obtain ⟨d0, d1, d2⟩ := HX3.out.cells
  obtain ⟨W4, hW4⟩ : ∃ W, W = W3.setCell ⟨pb, 1, none⟩ (.int .i64 ((st.at' : Int) + 1)) := ⟨_, rfl⟩
  have HP4 : Hid (PaS W4 pb b c T { st with at' := st.at' + 1 }) := by rw [hW4]; exact HP3.out.setA (st.at' + 1)
  have HG4 : Hid (GrowA pb w W4) := by rw [hW4]; exact HG3.out.set 1 _
  have HX4 : Hid (TkB W4 w2.heap.size #[.int .i64 k, .string us, .int .i64 un]) := by rw [hW4]; exact HX3.out.grow ((GrowA.refl _ _).set 1 _) hxp
  go_upto_region 6 with fail
  rw [← hW4]
  clear hW4 x1 f1 hl3 hx3 d0 d1 d2
  obtain ⟨d0, d1, d2⟩ := HX4.out.cells
  have hx4 := HX4.out.lt
  go_wp2_with (go_at_call 63; refine (CL.out _).mono ?_; rintro e w5 ⟨rfl, hb5⟩)
  go_ret
  exact ⟨rfl, HP4.out.below hb5, HG4.out.below hb5⟩
end Go.Proofs.YtcbpjgnbdpfiiaaGreatDoor
set_option linter.unusedVariables false
namespace Go.Proofs.YtcbpjgnbdpfiiaaGreatDoor
set_option maxRecDepth 100000
open Go.RowKit Go.WideShapes

/-- a scope: a list of texts -/
def ScIs (w : World) (v : Value) (L : List ByteArray) : Prop :=
  ∃ a cap, v = .slice a L.length cap ∧ L.length ≤ cap ∧ cap ≤ maxLen ∧ (0 < L.length → ∃ b off, a = some ⟨b, off, none⟩ ∧ b < w.heap.size ∧ ∀ i (h : i < L.length), w.cell? ⟨b, off + i, none⟩ = some (.string L[i]))
theorem ScIs.nil (w : World) : ScIs w (.slice none 0 0) [] := ⟨none, 0, rfl, Nat.le_refl _, Nat.zero_le _, fun h => absurd h (Nat.lt_irrefl 0)⟩
theorem ScIs.below {w w' : World} {v : Value} {L : List ByteArray} (h : ScIs w v L) (hb : Below w.heap.size w w') : ScIs w' v L := by
  obtain ⟨a, cap, h1, h2, h3, h4⟩ := h
  refine ⟨a, cap, h1, h2, h3, fun h0 => ?_⟩
  obtain ⟨b, off, k1, k2, k3⟩ := h4 h0
  exact ⟨b, off, k1, Nat.lt_of_lt_of_le k2 hb.size, fun i hi => (hb.cell (p := ⟨b, off + i, none⟩) k2).trans (k3 i hi)⟩
end Go.Proofs.YtcbpjgnbdpfiiaaGreatDoor
set_option linter.unusedVariables false
namespace Go.Proofs.YtcbpjgnbdpfiiaaGreatDoor
set_option maxRecDepth 100000
open Go.RowKit Go.WideShapes

/-- an expression as a value: what is in it lies below B -/
def Ex.V (w : World) (B : Nat) : Ex → Value → Prop
  | .no, _ => False
  | .mk k it nm a n ax tk tn m A, v => ∃ sl cap, v = .agg #[.int .i64 k, .int .i64 it.kind, .int .i64 it.n, .string it.s, .string nm, .string a, .int .i64 n, .int .i64 ax, .int .i64 tk, .string tn, .slice sl m cap] ∧ it.s.size ≤ maxLen ∧ nm.size ≤ maxLen ∧ a.size ≤ maxLen ∧ m ≤ cap ∧ cap ≤ maxLen ∧ (0 < m → ∃ b' off', sl = some ⟨b', off', none⟩ ∧ b' < B ∧ ∀ i, i < m → (A i).At w B b' (off' + i * 11))
theorem Ex.V.below {w w' : World} {B : Nat} {x : Ex} {v : Value} (h : x.V w B v) (hb : Below B w w') : x.V w' B v := by
  cases x with
  | no => exact h.elim
  | mk k it nm a n ax tk tn m A =>
    obtain ⟨sl, cap, h1, h2, h3, h4, h5, h6, h7⟩ := h
    refine ⟨sl, cap, h1, h2, h3, h4, h5, h6, fun h0 => ?_⟩
    obtain ⟨b', off', k1, k2, k3⟩ := h7 h0
    exact ⟨b', off', k1, k2, fun i hi => (k3 i hi).below hb⟩
/-- the cells of an expression, and its value -/
theorem Ex.At.val {w : World} {B : Nat} {x : Ex} {b off : Nat} (h : x.At w B b off) : b < B ∧ ∃ k it nm a n ax tk tn sl m cap, HeadAt w b off k it nm a n ax tk tn (.slice sl m cap) ∧ x.V w B (.agg #[.int .i64 k, .int .i64 it.kind, .int .i64 it.n, .string it.s, .string nm, .string a, .int .i64 n, .int .i64 ax, .int .i64 tk, .string tn, .slice sl m cap]) := by
  cases x with
  | no => exact h.elim
  | mk k it nm a n ax tk tn m A =>
    obtain ⟨h1, sl, cap, h2, h3, h4, h5⟩ := h
    exact ⟨h1, k, it, nm, a, n, ax, tk, tn, sl, m, cap, h2, sl, cap, rfl, h2.s1, h2.s2, h2.s3, h3, h4, h5⟩
/-- an expression that is put into a place of its own -/
theorem head_box (w : World) (k : Int) (it : It) (nm a : ByteArray) (n ax tk : Int) (tn : ByteArray) (v : Value) (s1 : it.s.size ≤ maxLen) (s2 : nm.size ≤ maxLen) (s3 : a.size ≤ maxLen) (T : TypeId) :
    HeadAt (w.alloc (.cells #[.int .i64 k, .int .i64 it.kind, .int .i64 it.n, .string it.s, .string nm, .string a, .int .i64 n, .int .i64 ax, .int .i64 tk, .string tn, v] T)) w.heap.size 0 k it nm a n ax tk tn v := by
  refine ⟨?_, ?_, ?_, ?_, ?_, ?_, ?_, ?_, ?_, ?_, ?_, s1, s2, s3⟩ <;> (rw [Lib.cell_of_heap (heap_alloc_new w _)]; rfl)
end Go.Proofs.YtcbpjgnbdpfiiaaGreatDoor
set_option linter.unusedVariables false
namespace Go.Proofs.YtcbpjgnbdpfiiaaGreatDoor
set_option maxRecDepth 100000
open Go.RowKit Go.ChangeShapes Go.WideShapes

theorem cellsOpers : Tryz.prog.cellsOf 189 = 42 := by kernel_rfl
theorem cellsOper : Tryz.prog.cellsOf 188 = 2 := by kernel_rfl
theorem cellsThree : Tryz.prog.cellsOf 3 = 1 := by kernel_rfl
theorem gOpers : Tryz.prog.globalNamed "pleacher/read.operators" = some 4 := by kernel_rfl
theorem gOpersType : (Tryz.prog.globals[4]?).map (·.type) = some 189 := by kernel_rfl
theorem opers_data (k : Nat) (hk : k < 21) : ∃ ds : List (DataW Unit), Rows.laid_pleacher_read_operators = .agg ds ∧ ds[k]? = some (.agg [.lit (.string (opN k).data.toList), .lit (.int .i64 (opB k))]) := by
  refine ⟨_, rfl, ?_⟩
  have : k = 0 ∨ k = 1 ∨ k = 2 ∨ k = 3 ∨ k = 4 ∨ k = 5 ∨ k = 6 ∨ k = 7 ∨ k = 8 ∨ k = 9 ∨ k = 10 ∨ k = 11 ∨ k = 12 ∨ k = 13 ∨ k = 14 ∨ k = 15 ∨ k = 16 ∨ k = 17 ∨ k = 18 ∨ k = 19 ∨ k = 20 := by omega
  rcases this with rfl | rfl | rfl | rfl | rfl | rfl | rfl | rfl | rfl | rfl | rfl | rfl | rfl | rfl | rfl | rfl | rfl | rfl | rfl | rfl | rfl <;> rfl
theorem opCells_at (k : Nat) (hk : k < 21) : (opCells.toList.drop (k * 2)).take 2 = [.string (opN k), .int .i64 (opB k)] := by
  have : k = 0 ∨ k = 1 ∨ k = 2 ∨ k = 3 ∨ k = 4 ∨ k = 5 ∨ k = 6 ∨ k = 7 ∨ k = 8 ∨ k = 9 ∨ k = 10 ∨ k = 11 ∨ k = 12 ∨ k = 13 ∨ k = 14 ∨ k = 15 ∨ k = 16 ∨ k = 17 ∨ k = 18 ∨ k = 19 ∨ k = 20 := by omega
  rcases this with rfl | rfl | rfl | rfl | rfl | rfl | rfl | rfl | rfl | rfl | rfl | rfl | rfl | rfl | rfl | rfl | rfl | rfl | rfl | rfl | rfl <;> rfl
theorem pairs_eq {a b : List Value} {n : Nat} (ha : a.length = n * 2) (hb : b.length = n * 2) (h : ∀ k, k < n → (a.drop (k * 2)).take 2 = (b.drop (k * 2)).take 2) : a = b := by
  refine List.ext_getElem? fun i => ?_
  by_cases hi : i < n * 2
  · have hk := h (i / 2) (by omega)
    have h1 := congrArg (fun l : List Value => l[i % 2]?) hk
    simp only [List.getElem?_take, List.getElem?_drop] at h1
    rw [if_pos (by omega), if_pos (by omega), show i / 2 * 2 + i % 2 = i by omega] at h1
    exact h1
  · rw [List.getElem?_eq_none (by omega), List.getElem?_eq_none (by omega)]
/-- what a row lists gives the table of operators -/
theorem opers_of {W : World} {l : List (String × DataW Unit)} (hL : laidMet Tryz.prog l W) (he : ("pleacher/read.operators", Rows.laid_pleacher_read_operators) ∈ l) : OpTab W := by
  obtain ⟨g, t, cs, fuel, p, hg, hty, hvar, hd⟩ := Lib.laidMet.reads hL he
  obtain rfl := Option.some.inj (gOpers.symm.trans hg)
  obtain rfl := Option.some.inj (gOpersType.symm.trans hty)
  have hlen : cs.toList.length = 21 * 2 := by
    obtain ⟨xs, m, _, _, h, _⟩ := DataW.trod_array Tryz.underlying189 hd
    rw [h, cellsOpers]
  have hcs : cs = opCells := by
    refine Array.toList_inj.1 (pairs_eq hlen rfl fun k hk => ?_)
    rw [opCells_at k hk]
    obtain ⟨ds, e1, e2⟩ := opers_data k hk
    rw [e1] at hd
    obtain ⟨f, d, q, h1, h2⟩ := Lib.array_elem Tryz.underlying189 hd k hk
    rw [e2] at h1
    obtain rfl := Option.some.inj h1
    rw [cellsOper] at h2
    generalize hz : (cs.toList.drop (k * 2)).take 2 = zs at h2
    obtain ⟨y0, y1, m, ex, hl, g0, g1⟩ := trod_struct2 Tryz.underlying188 h2
    rw [cellsOper] at hl
    match zs, hl with
    | [c0, c1], _ =>
      simp only [cellsThree, cells9T, List.drop_zero, List.drop_succ_cons, List.take_succ_cons, List.take_zero] at g0 g1
      obtain ⟨s, a0, b0, _⟩ := DataW.trod_string Tryz.underlying9 g0
      obtain ⟨n, a1, b1, _⟩ := DataW.trod_int Tryz.underlying3 g1
      simp only [Prod.mk.injEq, DataW.agg.injEq, List.cons.injEq, and_true] at ex
      obtain ⟨⟨x0, x1⟩, _⟩ := ex
      rw [b0] at x0
      rw [b1] at x1
      simp only [DataW.lit.injEq, Lit.string.injEq, Lit.int.injEq, true_and] at x0 x1
      simp only [List.cons.injEq, and_true] at a0 a1
      rw [a0, a1]
      have hs : s = opN k := by
        cases hh : s; cases hj : opN k
        rw [hh, hj] at x0
        congr 1
        exact (Array.toList_inj.1 x0).symm
      rw [hs, x1]
  subst hcs
  unfold World.var? at hvar
  rw [gOpers] at hvar
  simp only [Option.bind_some] at hvar
  unfold OpTab
  cases hh : W.heap[4]? with
  | none => rw [hh] at hvar; cases hvar
  | some o =>
    rw [hh] at hvar
    cases o with
    | cells c t fr => simp only [Option.some.injEq] at hvar; subst hvar; exact ⟨t, fr, rfl⟩
    | _ => cases hvar
theorem cellsKt : Tryz.prog.cellsOf 197 = 4 := by kernel_rfl
theorem gKt : Tryz.prog.globalNamed "pleacher/read.kindTests" = some 6 := by kernel_rfl
theorem gKtType : (Tryz.prog.globals[6]?).map (·.type) = some 197 := by kernel_rfl
theorem kinds_data (k : Nat) (hk : k < 4) : ∃ ds : List (DataW Unit), Rows.laid_pleacher_read_kindTests = .agg ds ∧ ds[k]? = some (.lit (.string (ktN k).data.toList)) := by
  refine ⟨_, rfl, ?_⟩
  have : k = 0 ∨ k = 1 ∨ k = 2 ∨ k = 3 := by omega
  rcases this with rfl | rfl | rfl | rfl <;> rfl
theorem kindsCells_at (k : Nat) (hk : k < 4) : ktCells.toList[k]? = some (.string (ktN k)) := by
  have : k = 0 ∨ k = 1 ∨ k = 2 ∨ k = 3 := by omega
  rcases this with rfl | rfl | rfl | rfl <;> rfl
/-- what a row lists gives the table of kindTests -/
theorem kinds_of {W : World} {l : List (String × DataW Unit)} (hL : laidMet Tryz.prog l W) (he : ("pleacher/read.kindTests", Rows.laid_pleacher_read_kindTests) ∈ l) : KtTab W ∧ 6 < W.heap.size := by
  obtain ⟨g, t, cs, fuel, p, hg, hty, hvar, hd⟩ := Lib.laidMet.reads hL he
  obtain rfl := Option.some.inj (gKt.symm.trans hg)
  obtain rfl := Option.some.inj (gKtType.symm.trans hty)
  have hlen : cs.toList.length = 4 := by
    obtain ⟨xs, m, _, _, h, _⟩ := DataW.trod_array Tryz.underlying197 hd
    rw [h, cellsKt]
  have hcs : cs = ktCells := by
    refine Array.toList_inj.1 (List.ext_getElem? fun k => ?_)
    by_cases hk : k < 4
    · obtain ⟨ds, e1, e2⟩ := kinds_data k hk
      rw [e1] at hd
      obtain ⟨f, d, q, h1, h2⟩ := Lib.array_elem Tryz.underlying197 hd k hk
      rw [e2] at h1
      obtain rfl := Option.some.inj h1
      rw [cells9T] at h2
      obtain ⟨s, e3, e4, _⟩ := DataW.trod_string Tryz.underlying9 h2
      simp only [Prod.mk.injEq, DataW.lit.injEq, Lit.string.injEq] at e4
      rw [kindsCells_at k hk]
      have e5 : s = ktN k := by
        have := e4.1
        cases hh : s; cases hj : ktN k
        rw [hh, hj] at this
        congr 1
        exact (Array.toList_inj.1 this).symm
      rw [e5] at e3
      have := congrArg (fun l : List Value => l[0]?) e3
      simpa using this
    · rw [List.getElem?_eq_none (by omega), List.getElem?_eq_none (by show ktCells.toList.length ≤ k; have : ktCells.toList.length = 4 := rfl; omega)]
  subst hcs
  unfold World.var? at hvar
  rw [gKt] at hvar
  simp only [Option.bind_some] at hvar
  unfold KtTab
  cases hh : W.heap[6]? with
  | none => rw [hh] at hvar; cases hvar
  | some o =>
    rw [hh] at hvar
    have hlt : 6 < W.heap.size := by
      by_cases h : 6 < W.heap.size
      · exact h
      · rw [Array.getElem?_eq_none (by omega)] at hh; cases hh
    cases o with
    | cells c t fr => simp only [Option.some.injEq] at hvar; subst hvar; exact ⟨⟨t, fr, rfl⟩, hlt⟩
    | _ => cases hvar

theorem cellsAx : Tryz.prog.cellsOf 196 = 13 := by kernel_rfl
theorem gAx : Tryz.prog.globalNamed "pleacher/read.axes" = some 5 := by kernel_rfl
theorem gAxType : (Tryz.prog.globals[5]?).map (·.type) = some 196 := by kernel_rfl
theorem axes_data (k : Nat) (hk : k < 13) : ∃ ds : List (DataW Unit), Rows.laid_pleacher_read_axes = .agg ds ∧ ds[k]? = some (.lit (.string (axN k).data.toList)) := by
  refine ⟨_, rfl, ?_⟩
  have : k = 0 ∨ k = 1 ∨ k = 2 ∨ k = 3 ∨ k = 4 ∨ k = 5 ∨ k = 6 ∨ k = 7 ∨ k = 8 ∨ k = 9 ∨ k = 10 ∨ k = 11 ∨ k = 12 := by omega
  rcases this with rfl | rfl | rfl | rfl | rfl | rfl | rfl | rfl | rfl | rfl | rfl | rfl | rfl <;> rfl
theorem axesCells_at (k : Nat) (hk : k < 13) : axCells.toList[k]? = some (.string (axN k)) := by
  have : k = 0 ∨ k = 1 ∨ k = 2 ∨ k = 3 ∨ k = 4 ∨ k = 5 ∨ k = 6 ∨ k = 7 ∨ k = 8 ∨ k = 9 ∨ k = 10 ∨ k = 11 ∨ k = 12 := by omega
  rcases this with rfl | rfl | rfl | rfl | rfl | rfl | rfl | rfl | rfl | rfl | rfl | rfl | rfl <;> rfl
/-- what a row lists gives the table of axes -/
theorem axes_of {W : World} {l : List (String × DataW Unit)} (hL : laidMet Tryz.prog l W) (he : ("pleacher/read.axes", Rows.laid_pleacher_read_axes) ∈ l) : AxTab W ∧ 5 < W.heap.size := by
  obtain ⟨g, t, cs, fuel, p, hg, hty, hvar, hd⟩ := Lib.laidMet.reads hL he
  obtain rfl := Option.some.inj (gAx.symm.trans hg)
  obtain rfl := Option.some.inj (gAxType.symm.trans hty)
  have hlen : cs.toList.length = 13 := by
    obtain ⟨xs, m, _, _, h, _⟩ := DataW.trod_array Tryz.underlying196 hd
    rw [h, cellsAx]
  have hcs : cs = axCells := by
    refine Array.toList_inj.1 (List.ext_getElem? fun k => ?_)
    by_cases hk : k < 13
    · obtain ⟨ds, e1, e2⟩ := axes_data k hk
      rw [e1] at hd
      obtain ⟨f, d, q, h1, h2⟩ := Lib.array_elem Tryz.underlying196 hd k hk
      rw [e2] at h1
      obtain rfl := Option.some.inj h1
      rw [cells9T] at h2
      obtain ⟨s, e3, e4, _⟩ := DataW.trod_string Tryz.underlying9 h2
      simp only [Prod.mk.injEq, DataW.lit.injEq, Lit.string.injEq] at e4
      rw [axesCells_at k hk]
      have e5 : s = axN k := by
        have := e4.1
        cases hh : s; cases hj : axN k
        rw [hh, hj] at this
        congr 1
        exact (Array.toList_inj.1 this).symm
      rw [e5] at e3
      have := congrArg (fun l : List Value => l[0]?) e3
      simpa using this
    · rw [List.getElem?_eq_none (by omega), List.getElem?_eq_none (by show axCells.toList.length ≤ k; have : axCells.toList.length = 13 := rfl; omega)]
  subst hcs
  unfold World.var? at hvar
  rw [gAx] at hvar
  simp only [Option.bind_some] at hvar
  unfold AxTab
  cases hh : W.heap[5]? with
  | none => rw [hh] at hvar; cases hvar
  | some o =>
    rw [hh] at hvar
    have hlt : 5 < W.heap.size := by
      by_cases h : 5 < W.heap.size
      · exact h
      · rw [Array.getElem?_eq_none (by omega)] at hh; cases hh
    cases o with
    | cells c t fr => simp only [Option.some.injEq] at hvar; subst hvar; exact ⟨⟨t, fr, rfl⟩, hlt⟩
    | _ => cases hvar

end Go.Proofs.YtcbpjgnbdpfiiaaGreatDoor
namespace Go.Proofs.YtcbpjgnbdpfiiaaGreatDoor
open Go.ChangeShapes Go.WideShapes Go.ChangeAt Go.RowKit

def litD : DataW Unit → Value
  | .lit (.int k n) => .int k n
  | .lit (.string l) => .string ⟨l.toArray⟩
  | _ => .int .i64 0
def aggD : DataW Unit → Array Value
  | .agg l => (l.map litD).toArray
  | _ => #[]
noncomputable def laidWorldD (os : Os) : World :=
  let w0 := World.holding Tryz.prog os ⟨#[], #[], []⟩
  let put (h : Array Obj) (g : Nat) (cs : Array Value) : Array Obj := h.modify g fun
    | .cells _ t frozen => .cells cs t frozen
    | o => o
  let h1 := put w0.heap (Tryz.laysValid_ren.g 3) (Lib.firstTab.map fun z => Value.int .u8 z).toArray
  let h2 := put h1 (Tryz.laysValid_ren.g 4) ((List.range 16).flatMap fun i => [Value.int .u8 (Lib.accLo i), Value.int .u8 (Lib.accHi i)]).toArray
  let h3 := put h2 0 mkCells
  let h4 := put h3 4 opCells
  let h5 := put h4 5 (aggD Rows.laid_pleacher_read_axes)
  let h6 := put h5 6 (aggD Rows.laid_pleacher_read_kindTests)
  { w0 with heap := h6 }
end Go.Proofs.YtcbpjgnbdpfiiaaGreatDoor
