/-
  WHAT IS KEPT WHILE flwor's FIRST REGION IS RUN, in whatever order.
-/
import Derived.Test.YtcbpjgnbdpfiiaaGreatDoorLxR
import Derived.Test.YtcbpjgnbdpfiiaaGreatDoorLxT
import Derived.Test.YtcbpjgnbdpfiiaaGreatDoorLxP
import Derived.Test.YtcbpjgnbdpfiiaaGreatDoorLxM
import Derived.Test.YtcbpjgnbdpfiiaaGreatDoorLcJ
import Derived.Test.YtcbpjgnbdpfiiaaGreatDoorRg
import Derived.Test.YtcbpjgnbdpfiiaaGreatDoorRgIn
set_option linter.unusedVariables false
namespace Go.Proofs.YtcbpjgnbdpfiiaaGreatDoor
set_option maxRecDepth 100000
open Go.RowKit Go.WideShapes Go.Shelf

theorem getD_of {l : Array Bool} {i : Nat} (hl : l.getD i true = false) : l.getD i false = false := by
  rw [Array.getD_eq_getD_getElem?] at hl ⊢
  cases hx : l[i]? with
  | none => rfl
  | some bb => rw [hx] at hl; exact hl
theorem rep_false (n k : Nat) : (Array.replicate n false).getD k false = false := by
  rw [Array.getD_eq_getD_getElem?, Array.getElem?_replicate]
  split <;> rfl
theorem rep_true {n k : Nat} (h : k < n) : (Array.replicate n true).getD k false = true := by
  rw [Array.getD_eq_getD_getElem?, Array.getElem?_replicate, if_pos h]
  rfl
theorem cAt.behind {w : World} {g o : Nat} {a b c d : Value} {u : List Value} (h : cAt w g o ([a, b, c, d] ++ u)) : cAt w g (o + 4) u := fun j hj => by
  have e := h (4 + j) (by simp; omega)
  rw [show o + (4 + j) = o + 4 + j by omega] at e
  rw [e, List.getElem_append_right (by simp)]
  simp
theorem infoClU : (Tryz.prog.info? 142).map (fun i => (i.zero, i.size, i.bytes)) = some (some (.agg #[.pointer none, .int .i64 0, .int .i64 0, .int .i64 0, .string ByteArray.empty, .string ByteArray.empty, .string ByteArray.empty, .int .i64 0, .int .i64 0, .int .i64 0, .string ByteArray.empty, .slice none 0 0]), 12, 144) := by kernel_rfl
theorem own_shapeU {w : World} {base : Nat} {e : TypeId} {size : Nat} {v : Value} {n : Nat} {xs : List Value} (h : w.ownsRow base e size v n xs) : ∃ a c, v = .slice a n c := by
  obtain ⟨_, ⟨h1, h2⟩ | ⟨B, cap, cur, h1, _⟩⟩ := h
  · subst h1; subst h2; exact ⟨_, _, rfl⟩
  · exact ⟨_, _, h1⟩
theorem ownsRow_keptU {w w' : World} {base : Nat} {e : TypeId} {size : Nat} {v : Value} {n : Nat} {xs : List Value} (h : w.ownsRow base e size v n xs) (hk : ∀ b, base ≤ b → b < w.heap.size → w'.heap[b]? = w.heap[b]?) : w'.ownsRow base e size v n xs := by
  obtain ⟨h1, h2⟩ := h
  refine ⟨h1, ?_⟩
  rcases h2 with h2 | ⟨g, cap, cur, k1, k2, k3, k4⟩
  · exact .inl h2
  · exact .inr ⟨g, cap, cur, k1, k2, (hk g k2 (Array.getElem?_eq_some_iff.1 k3).1).trans k3, k4⟩
theorem rowU_in {w : World} (L : List Value) {T : TypeId} : ∀ i u, L[i]? = some u → (w.alloc (.cells L.toArray T)).cell? ((⟨w.heap.size, 0, none⟩ : Addr).add i) = some u := by
  intro i u hi
  rw [show ((⟨w.heap.size, 0, none⟩ : Addr).add i) = ⟨w.heap.size, i, none⟩ by simp [Addr.add]; exact fun h => h.symm, Lib.cell_of_heap (aNew rfl)]
  simpa using hi
theorem rowU_one {w : World} {S : Nat → Prop} {x : Ex} {v : List Value} {cb co : Nat} (h : x.W w S v) : ∀ u ∈ (.pointer (some ⟨cb, co, none⟩) :: v : List Value), u.oneCell' = true := by
  intro u hu
  rcases List.mem_cons.1 hu with rfl | hu
  · rfl
  · exact h.ones u hu
theorem namesOf_forU (b off : Nat) (nm a : ByteArray) (w : World) (h : ClAt w b off 1 nm a) :
    Calls Tryz.prog 94 #[.pointer (some ⟨b, off, none⟩)] w fun e w' => ∃ n6, e = .returned (.slice (some ⟨n6, 0, none⟩) 2 2) ∧ Below w.heap.size w w' ∧ w.heap.size ≤ n6 ∧ w'.heap[n6]? = some (.cells #[.string nm, .string a] 9) :=
  (namesOf_for b off nm a w h).mono (by
    rintro e w' ⟨n0, rfl, rfl⟩
    exact ⟨w.heap.size, rfl, (show Below w.heap.size w (w.drewN n0) from ⟨rfl, rfl, rfl, Nat.le_refl _, fun _ _ => rfl⟩).alloc (Nat.le_refl _) _, Nat.le_refl _, aNew (by simp)⟩)
theorem bk12f {w : World} {b : Nat} {x0 x1 x2 x3 x4 x5 x6 x7 x8 x9 x10 x11 : Value} {T : TypeId} (h : w.heap[b]? = some (.cells #[x0, x1, x2, x3, x4, x5, x6, x7, x8, x9, x10, x11] T)) : w.cell? ⟨b, 0, none⟩ = some x0 ∧ w.cell? ⟨b, 1, none⟩ = some x1 ∧ w.cell? ⟨b, 2, none⟩ = some x2 ∧ w.cell? ⟨b, 3, none⟩ = some x3 ∧ w.cell? ⟨b, 4, none⟩ = some x4 ∧ w.cell? ⟨b, 5, none⟩ = some x5 ∧ w.cell? ⟨b, 6, none⟩ = some x6 ∧ w.cell? ⟨b, 7, none⟩ = some x7 ∧ w.cell? ⟨b, 8, none⟩ = some x8 ∧ w.cell? ⟨b, 9, none⟩ = some x9 ∧ w.cell? ⟨b, 10, none⟩ = some x10 ∧ w.cell? ⟨b, 11, none⟩ = some x11 ∧ (∀ o, w.frozen? ⟨b, o, none⟩ = false) := by
  refine ⟨?_, ?_, ?_, ?_, ?_, ?_, ?_, ?_, ?_, ?_, ?_, ?_, fun o => ?_⟩
  all_goals first | (rw [Lib.cell_of_heap h]; rfl) | (simp [World.frozen?, h])
theorem cellq {w w' : World} {b o : Nat} (e : w'.heap[b]? = w.heap[b]?) : w'.cell? ⟨b, o, none⟩ = w.cell? ⟨b, o, none⟩ := by simp only [World.cell?, e]
theorem ClAt.block {w w' : World} {b off : Nat} {k : Int} {nm a : ByteArray} (h : ClAt w b off k nm a) (e : w'.heap[b]? = w.heap[b]?) : ClAt w' b off k nm a := ⟨(cellq e).trans h.c0, (cellq e).trans h.c1, (cellq e).trans h.c2, h.s1, h.s2⟩
/-- a lowering's state, whatever is in scope and however many parts there are -/
def XQ (w0 : World) (lb tb ob sb : Nat) (W : World) : Prop := ∃ N p, XS w0 lb tb ob sb N p W
/-- the blocks in which an expression may lie -/
def SU (wr : World) (c : Bool) (t : Nat) (W : World) : Nat → Prop := fun b => wr.heap.size ≤ b ∧ b < W.heap.size ∧ (c = true → b ≠ t)
structure FxT (w : World) (lb tb ob sb : Nat) (N : ByteArray → Nat) (p q1 : Nat) (X0 : Ex) (cb co : Nat) (wr : World) (t : Nat) (l : Array Bool) (a : Act) (W : World) : Prop where
  s0 : l.getD 14 false = false → XS w lb tb ob sb N p W
  s1 : l.getD 14 false = true → XS w lb tb ob sb N q1 W
  zr : w.heap.size ≤ wr.heap.size
  z : wr.heap.size ≤ W.heap.size
  k : ∀ c, c < wr.heap.size → c ≠ lb → c ≠ sb → W.heap[c]? = wr.heap[c]?
  b : l.getD 16 false = true → a.tmps[7]? = some (.pointer (some ⟨t, 0, none⟩)) ∧ wr.heap.size ≤ t ∧ t < W.heap.size
  bz : l.getD 16 false = true → l.getD 17 false = false → W.heap[t]? = some (.cells #[.pointer none, .int .i64 0, .int .i64 0, .int .i64 0, .string ⟨#[]⟩, .string ⟨#[]⟩, .string ⟨#[]⟩, .int .i64 0, .int .i64 0, .int .i64 0, .string ⟨#[]⟩, .slice none 0 0] 142)
  x : l.getD 14 false = true → ∃ u : List Value, a.tmps[33]? = some (.agg u.toArray) ∧ X0.W W (SU wr (l.getD 16 false) t W) u
  y : l.getD 15 false = true → ∃ u : List Value, a.tmps[34]? = some (.agg (.pointer (some ⟨cb, co, none⟩) :: u).toArray) ∧ X0.W W (SU wr (l.getD 16 false) t W) u
  f : l.getD 17 false = true → ∃ u : List Value, W.heap[t]? = some (.cells (.pointer (some ⟨cb, co, none⟩) :: u).toArray 142) ∧ X0.W W (SU wr (l.getD 16 false) t W) u
def FxU (w : World) (lb tb ob sb : Nat) (N : ByteArray → Nat) (p q1 : Nat) (X0 : Ex) (cb co : Nat) (wr : World) (l : Array Bool) (a : Act) (W : World) : Prop := ∃ t, FxT w lb tb ob sb N p q1 X0 cb co wr t l a W
theorem FxT.xk {w : World} {lb tb ob sb : Nat} {N : ByteArray → Nat} {p q1 : Nat} {X0 : Ex} {cb co : Nat} {wr : World} {t : Nat} {l : Array Bool} {a : Act} {W : World} (h : FxT w lb tb ob sb N p q1 X0 cb co wr t l a W) : XQ w lb tb ob sb W := by
  cases hx : l.getD 14 false with
  | false => exact ⟨_, _, h.s0 hx⟩
  | true => exact ⟨_, _, h.s1 hx⟩
theorem FxT.start {w : World} {lb tb ob sb : Nat} {N : ByteArray → Nat} {p q1 : Nat} {X0 : Ex} {cb co : Nat} {wr : World} {n : Nat} {a : Act} (h : XS w lb tb ob sb N p wr) : FxU w lb tb ob sb N p q1 X0 cb co wr (Array.replicate n false) a wr.drew := by
  refine ⟨0, fun _ => h.drew, ?_, h.z, Nat.le_refl _, fun _ _ _ _ => rfl, ?_, ?_, ?_, ?_, ?_⟩
  all_goals (intro e; rw [rep_false] at e; cases e)
theorem FxT.pure {w : World} {lb tb ob sb : Nat} {N : ByteArray → Nat} {p q1 : Nat} {X0 : Ex} {cb co : Nat} {wr : World} {t : Nat} {l : Array Bool} {a : Act} {W : World} (h : FxT w lb tb ob sb N p q1 X0 cb co wr t l a W) {i s : Nat} {v : Value} (hi : i ≠ 14 ∧ i ≠ 15 ∧ i ≠ 16 ∧ i ≠ 17) (hs : s ≠ 7 ∧ s ≠ 33 ∧ s ≠ 34) : FxU w lb tb ob sb N p q1 X0 cb co wr (l.setIfInBounds i true) (a.put (some s) v) W := by
  have e14 := set_other_get (listed := l) hi.1
  have e15 := set_other_get (listed := l) hi.2.1
  have e16 := set_other_get (listed := l) hi.2.2.1
  have e17 := set_other_get (listed := l) hi.2.2.2
  refine ⟨t, ?_, ?_, h.zr, h.z, h.k, ?_, ?_, ?_, ?_, ?_⟩
  · rw [e14]; exact h.s0
  · rw [e14]; exact h.s1
  · rw [e16, put_other hs.1]; exact h.b
  · rw [e16, e17]; exact h.bz
  · rw [e14, e16, put_other hs.2.1]; exact h.x
  · rw [e15, e16, put_other hs.2.2]; exact h.y
  · rw [e17, e16]; exact h.f
theorem FxT.call {w : World} {lb tb ob sb : Nat} {N : ByteArray → Nat} {p q1 : Nat} {X0 : Ex} {cb co : Nat} {wr : World} {t : Nat} {l : Array Bool} {a : Act} {W W' : World} (h : FxT w lb tb ob sb N p q1 X0 cb co wr t l a W) (hsz : l.size = 18) (hts : a.tmps.size = 112) (m14 : l.getD 14 false = false) (m15 : l.getD 15 false = false) (m17 : l.getD 17 false = false) {u : List Value} (hx : X0.W W' (fun b => W.heap.size ≤ b ∧ b < W'.heap.size) u) (hs : XS w lb tb ob sb N q1 W') (hk : ∀ b, b < W.heap.size → b ≠ lb → b ≠ sb → W'.heap[b]? = W.heap[b]?) (hz : W.heap.size ≤ W'.heap.size) (hl : lb < w.heap.size) (hsb : sb < w.heap.size) :
    FxU w lb tb ob sb N p q1 X0 cb co wr (l.setIfInBounds 14 true) (a.put (some 33) (.agg u.toArray)) W' := by
  have e15 := set_other_get (listed := l) (show 14 ≠ 15 by decide)
  have e16 := set_other_get (listed := l) (show 14 ≠ 16 by decide)
  have e17 := set_other_get (listed := l) (show 14 ≠ 17 by decide)
  have zr := h.zr
  have z := h.z
  refine ⟨t, fun e => absurd ((set_this_get hsz (by decide)).symm.trans e) (by decide), fun _ => hs, zr, Nat.le_trans z hz, fun c h1 h2 h3 => (hk c (by omega) h2 h3).trans (h.k c h1 h2 h3), ?_, ?_, ?_, ?_, ?_⟩
  · rw [e16, put_other (by decide)]
    exact fun e => ⟨(h.b e).1, (h.b e).2.1, by have := (h.b e).2.2; omega⟩
  · rw [e16, e17]
    exact fun e1 e2 => (hk t (h.b e1).2.2 (by have := (h.b e1).2.1; omega) (by have := (h.b e1).2.1; omega)).trans (h.bz e1 e2)
  · intro _
    refine ⟨u, put_this (by omega), ?_⟩
    rw [e16]
    exact Ex.W.keep (fun b q => ⟨by omega, q.2, fun e => by have := (h.b e).2.2; omega⟩) (fun _ _ => rfl) hx
  · rw [e15, m15]; exact fun e => absurd e (by decide)
  · rw [e17, m17]; exact fun e => absurd e (by decide)
theorem FxT.build {w : World} {lb tb ob sb : Nat} {N : ByteArray → Nat} {p q1 : Nat} {X0 : Ex} {cb co : Nat} {wr : World} {t : Nat} {l : Array Bool} {a : Act} {W : World} (h : FxT w lb tb ob sb N p q1 X0 cb co wr t l a W) (hsz : l.size = 18) (hts : a.tmps.size = 112) (m17 : l.getD 17 false = false) {u : List Value} (hx : X0.W W (SU wr (l.getD 16 false) t W) u) :
    FxU w lb tb ob sb N p q1 X0 cb co wr (l.setIfInBounds 15 true) (a.put (some 34) (.agg (.pointer (some ⟨cb, co, none⟩) :: u).toArray)) W := by
  have e14 := set_other_get (listed := l) (show 15 ≠ 14 by decide)
  have e16 := set_other_get (listed := l) (show 15 ≠ 16 by decide)
  have e17 := set_other_get (listed := l) (show 15 ≠ 17 by decide)
  refine ⟨t, ?_, ?_, h.zr, h.z, h.k, ?_, ?_, ?_, ?_, ?_⟩
  · rw [e14]; exact h.s0
  · rw [e14]; exact h.s1
  · rw [e16, put_other (by decide)]; exact h.b
  · rw [e16, e17]; exact h.bz
  · rw [e14, e16, put_other (by decide)]; exact h.x
  · rw [e16]; exact fun _ => ⟨u, put_this (by omega), hx⟩
  · rw [e17, m17]; exact fun e => absurd e (by decide)
theorem FxT.alloc {w : World} {lb tb ob sb : Nat} {N : ByteArray → Nat} {p q1 : Nat} {X0 : Ex} {cb co : Nat} {wr : World} {t : Nat} {l : Array Bool} {a : Act} {W : World} (h : FxT w lb tb ob sb N p q1 X0 cb co wr t l a W) (hsz : l.size = 18) (hts : a.tmps.size = 112) (m16 : l.getD 16 false = false) (m17 : l.getD 17 false = false) :
    FxU w lb tb ob sb N p q1 X0 cb co wr (l.setIfInBounds 16 true) (a.put (some 7) (.pointer (some ⟨W.heap.size, 0, none⟩))) (W.alloc (.cells #[.pointer none, .int .i64 0, .int .i64 0, .int .i64 0, .string ⟨#[]⟩, .string ⟨#[]⟩, .string ⟨#[]⟩, .int .i64 0, .int .i64 0, .int .i64 0, .string ⟨#[]⟩, .slice none 0 0] 142)) := by
  have e14 := set_other_get (listed := l) (show 16 ≠ 14 by decide)
  have e15 := set_other_get (listed := l) (show 16 ≠ 15 by decide)
  have e17 := set_other_get (listed := l) (show 16 ≠ 17 by decide)
  have zr := h.zr
  have z := h.z
  have hkp : ∀ {u : List Value}, X0.W W (SU wr (l.getD 16 false) t W) u → X0.W (W.alloc (.cells #[.pointer none, .int .i64 0, .int .i64 0, .int .i64 0, .string ⟨#[]⟩, .string ⟨#[]⟩, .string ⟨#[]⟩, .int .i64 0, .int .i64 0, .int .i64 0, .string ⟨#[]⟩, .slice none 0 0] 142)) (SU wr ((l.setIfInBounds 16 true).getD 16 false) W.heap.size (W.alloc (.cells #[.pointer none, .int .i64 0, .int .i64 0, .int .i64 0, .string ⟨#[]⟩, .string ⟨#[]⟩, .string ⟨#[]⟩, .int .i64 0, .int .i64 0, .int .i64 0, .string ⟨#[]⟩, .slice none 0 0] 142))) u := fun hx =>
    Ex.W.keep (fun b q => ⟨q.1, by have := q.2.1; simp; omega, fun _ => by have := q.2.1; omega⟩) (fun b q => Below.heap_alloc _ _ b q.2.1) hx
  refine ⟨W.heap.size, ?_, ?_, zr, by simp; omega, fun c h1 h2 h3 => (Below.heap_alloc _ _ c (by omega)).trans (h.k c h1 h2 h3), ?_, ?_, ?_, ?_, ?_⟩
  · rw [e14]; exact fun e => (h.s0 e).alloc _
  · rw [e14]; exact fun e => (h.s1 e).alloc _
  · exact fun _ => ⟨put_this (by omega), z, by simp⟩
  · exact fun _ _ => heap_alloc_new _ _
  · rw [e14, put_other (by decide)]
    intro e
    obtain ⟨u, h1, h2⟩ := h.x e
    exact ⟨u, h1, hkp h2⟩
  · rw [e15, put_other (by decide)]
    intro e
    obtain ⟨u, h1, h2⟩ := h.y e
    exact ⟨u, h1, hkp h2⟩
  · rw [e17, m17]; exact fun e => absurd e (by decide)
theorem FxT.store {w : World} {lb tb ob sb : Nat} {N : ByteArray → Nat} {p q1 : Nat} {X0 : Ex} {cb co : Nat} {wr : World} {t : Nat} {l : Array Bool} {a : Act} {W : World} (h : FxT w lb tb ob sb N p q1 X0 cb co wr t l a W) (hsz : l.size = 18) (h16 : l.getD 16 false = true) (m17 : l.getD 17 false = false) (hl : lb < w.heap.size) (hsb : sb < w.heap.size) {u : List Value} (hx : X0.W W (SU wr (l.getD 16 false) t W) u) :
    FxU w lb tb ob sb N p q1 X0 cb co wr (l.setIfInBounds 17 true) (a.put none undef) (putL W t 0 (.pointer (some ⟨cb, co, none⟩) :: u)) := by
  have e14 := set_other_get (listed := l) (show 17 ≠ 14 by decide)
  have e15 := set_other_get (listed := l) (show 17 ≠ 15 by decide)
  have e16 := set_other_get (listed := l) (show 17 ≠ 16 by decide)
  have zr := h.zr
  have z := h.z
  obtain ⟨b1, b2, b3⟩ := h.b h16
  have hz : W.heap.size ≤ (putL W t 0 (.pointer (some ⟨cb, co, none⟩) :: u)).heap.size := (putL_below (B := 0) (w0 := W) (Nat.zero_le _) _ _ _ (Below.refl _ _)).size
  have hkp : ∀ {u' : List Value}, X0.W W (SU wr (l.getD 16 false) t W) u' → X0.W (putL W t 0 (.pointer (some ⟨cb, co, none⟩) :: u)) (SU wr ((l.setIfInBounds 17 true).getD 16 false) t (putL W t 0 (.pointer (some ⟨cb, co, none⟩) :: u))) u' := fun hx' => by
    rw [e16]
    exact Ex.W.keep (fun b q => ⟨q.1, by have := q.2.1; omega, q.2.2⟩) (fun b q => putL_other (q.2.2 h16) _ _ _) hx'
  refine ⟨t, ?_, ?_, zr, by omega, fun c h1 h2 h3 => (putL_other (by omega) _ _ _).trans (h.k c h1 h2 h3), ?_, ?_, ?_, ?_, ?_⟩
  · rw [e14]; exact fun e => (h.s0 e).put (by omega) hl hsb _
  · rw [e14]; exact fun e => (h.s1 e).put (by omega) hl hsb _
  · exact fun _ => ⟨b1, b2, by omega⟩
  · exact fun _ e => absurd ((set_this_get hsz (by decide)).symm.trans e) (by decide)
  · rw [e14]
    intro e
    obtain ⟨u', h1, h2⟩ := h.x e
    exact ⟨u', h1, hkp h2⟩
  · rw [e15]
    intro e
    obtain ⟨u', h1, h2⟩ := h.y e
    exact ⟨u', h1, hkp h2⟩
  · exact fun _ => ⟨u, putL_same (h.bz h16 m17) _ (by have := hx.len; simp [this]), hkp hx⟩
theorem FxU.fin {w : World} {lb tb ob sb : Nat} {N : ByteArray → Nat} {p q1 : Nat} {X0 : Ex} {cb co : Nat} {wr : World} {n : Nat} {a : Act} {W : World} (hn : 17 < n) (h : FxU w lb tb ob sb N p q1 X0 cb co wr (Array.replicate n true) a W) :
    ∃ T, a.tmps[7]? = some (.pointer (some ⟨T, 0, none⟩)) ∧ wr.heap.size ≤ T ∧ T < W.heap.size ∧ ∃ u : List Value, W.heap[T]? = some (.cells (.pointer (some ⟨cb, co, none⟩) :: u).toArray 142) ∧ X0.W W (fun b => wr.heap.size ≤ b ∧ b < W.heap.size ∧ b ≠ T) u ∧ XS w lb tb ob sb N q1 W ∧ (∀ c, c < wr.heap.size → c ≠ lb → c ≠ sb → W.heap[c]? = wr.heap[c]?) ∧ wr.heap.size ≤ W.heap.size := by
  obtain ⟨t, h⟩ := h
  have h16 := rep_true (n := n) (k := 16) (by omega)
  obtain ⟨b1, b2, b3⟩ := h.b h16
  obtain ⟨u, f1, f2⟩ := h.f (rep_true (by omega))
  exact ⟨t, b1, b2, b3, u, f1, Ex.W.keep (fun b q => ⟨q.1, q.2.1, q.2.2 h16⟩) (fun _ _ => rfl) f2, h.s1 (rep_true (by omega)), h.k, h.z⟩
end Go.Proofs.YtcbpjgnbdpfiiaaGreatDoor
