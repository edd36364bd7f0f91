/-
  CONTRACT: a look at an expression, and at all that is in it (core.checking's look).
-/
import Derived.Test.YtkhlfdnlpimojaaDoorCkLook
set_option linter.unusedVariables false
namespace Go.Proofs.YtkhlfdnlpimojaaDoor
set_option maxRecDepth 100000
open Go.RowKit Go.WideShapes

theorem firstE_shift {f : Nat → Int} (h : f 0 = 0) : ∀ m, firstE f (m + 1) = firstE (fun i => f (i + 1)) m
  | 0 => by rw [firstE_succ, show firstE f 0 = 0 from rfl, if_pos rfl, h]; rfl
  | m + 1 => by rw [firstE_succ, firstE_shift h m, firstE_succ (fun i => f (i + 1)) m]
theorem sumTo_shift (f : Nat → Nat) : ∀ m, sumTo f (m + 1) = f 0 + sumTo (fun i => f (i + 1)) m
  | 0 => by simp [sumTo]
  | m + 1 => by
    have := sumTo_shift f m
    rw [sumTo, this]
    simp only [sumTo]
    omega
theorem CkS.names {w : World} {cb tb sb : Nat} {N N' : ByteArray → Nat} {l k p : Nat} (h : CkS w cb tb sb N l k p) (e : ∀ x, N x = N' x) : CkS w cb tb sb N' l k p := ⟨h.blk, h.tab, h.sc.congr e, h.tn⟩
/-- only the names turned -/
theorem CkS.turn {w w' : World} {cb tb sb : Nat} {N N' : ByteArray → Nat} {l k p : Nat} (h : CkS w cb tb sb N l k p) (ht : TurnedM w w' sb) (hs : SMap w' sb N') : CkS w' cb tb sb N' l k p :=
  ⟨(ht.2.1 cb h.ne.2).trans h.blk, h.tab.keep (ht.2.1 tb h.tn), hs, h.tn⟩
theorem two_in (w W : World) (x y : ByteArray) (hW : W.heap = (w.alloc (.cells #[.string x, .string y] 9)).heap) : TxtsL W (.slice (some ⟨w.heap.size, 0, none⟩) 2 2) [x, y] := by
  obtain ⟨b, off, cap, h1, h2, h3, h4, h5⟩ := txts_lit w [x, y] (by simp [maxLen])
  refine ⟨b, off, cap, h1, h2, h3, by rw [hW]; exact h4, fun i hi => ?_⟩
  have := h5 i hi
  unfold World.cell? at this ⊢
  rw [hW]
  exact this
theorem below_of {B : Nat} {w W w' : World} {o : Obj} (hW : W.heap = (w.alloc o).heap) (e1 : W.os = w.os) (e2 : W.tape = w.tape) (e3 : W.output = w.output) (hB : B ≤ w.heap.size) (h : Below B W w') : Below B w w' := by
  refine ⟨h.os.trans e1, h.tape.trans e2, h.output.trans e3, ?_, fun b hb => (h.block b hb).trans ?_⟩
  · have := h.size
    rw [hW] at this
    simp at this
    omega
  · rw [hW]; exact Below.heap_alloc w o b (by omega)
/-- names come into scope -/
theorem enter_ck (B : Nat) (S : List ByteArray) (k : Int) (nm a : ByteArray) (cb tb sb l mk p : Nat) (w W : World) (hS : CkS w cb tb sb (cntS S) l mk p) (hsb : B ≤ sb) (hBw : B ≤ w.heap.size) (hb : bindsB k = true) (hn : nm.size ≠ 0) (h1 : nm.size ≤ maxLen) (h2 : (atN k a).size ≤ maxLen) (hl : S.length + 2 ≤ 4294967296)
    (hW : W.heap = (w.alloc (.cells #[.string nm, .string (atN k a)] 9)).heap) (e1 : W.os = w.os) (e2 : W.tape = w.tape) (e3 : W.output = w.output) :
    Calls Tryd.prog 33 #[.map (some sb), .slice (some ⟨w.heap.size, 0, none⟩) 2 2] W fun e w' => e = .returned (.tuple #[]) ∧ CkS w' cb tb sb (cntS (innS S k nm a)) l mk p ∧ Below B w w' := by
  have hS' : CkS W cb tb sb (cntS S) l mk p := hS.keep fun b hb => by rw [hW]; exact Below.heap_alloc w _ b hb
  refine (enter_is sb (cntS S) [nm, atN k a] _ W hS'.sc (two_in w W _ _ hW) (fun x hx => ?_) (fun y => by have := cntS_le S y; simp; omega)).mono ?_
  · simp only [List.mem_cons, List.not_mem_nil, or_false] at hx
    rcases hx with rfl | rfl
    · exact h1
    · exact h2
  · rintro e w' ⟨rfl, h3, h4⟩
    exact ⟨rfl, (hS'.turn h4 h3).names (fun y => (cntS_inn S hb hn y).symm), below_of hW e1 e2 e3 hBw (h4.below hsb)⟩
/-- .. and leave it -/
theorem leave_ck (B : Nat) (S : List ByteArray) (k : Int) (nm a : ByteArray) (cb tb sb l mk p : Nat) (w W : World) (hS : CkS w cb tb sb (cntS (innS S k nm a)) l mk p) (hsb : B ≤ sb) (hBw : B ≤ w.heap.size) (hb : bindsB k = true) (hn : nm.size ≠ 0) (h1 : nm.size ≤ maxLen) (h2 : (atN k a).size ≤ maxLen) (hl : S.length + 2 ≤ 4294967296)
    (hW : W.heap = (w.alloc (.cells #[.string nm, .string (atN k a)] 9)).heap) (e1 : W.os = w.os) (e2 : W.tape = w.tape) (e3 : W.output = w.output) :
    Calls Tryd.prog 34 #[.map (some sb), .slice (some ⟨w.heap.size, 0, none⟩) 2 2] W fun e w' => e = .returned (.tuple #[]) ∧ CkS w' cb tb sb (cntS S) l mk p ∧ Below B w w' := by
  have hS' : CkS W cb tb sb (fun y => cntS S y + cntE [nm, atN k a] y) l mk p := (hS.keep fun b hb => by rw [hW]; exact Below.heap_alloc w _ b hb).names (cntS_inn S hb hn)
  refine (leave_is sb (cntS S) [nm, atN k a] _ W hS'.sc (two_in w W _ _ hW) (fun x hx => ?_) (fun y => by have := cntS_le S y; simp; omega)).mono ?_
  · simp only [List.mem_cons, List.not_mem_nil, or_false] at hx
    rcases hx with rfl | rfl
    · exact h1
    · exact h2
  · rintro e w' ⟨rfl, h3, h4⟩
    exact ⟨rfl, hS'.turn h4 h3, below_of hW e1 e2 e3 hBw (h4.below hsb)⟩
end Go.Proofs.YtkhlfdnlpimojaaDoor
