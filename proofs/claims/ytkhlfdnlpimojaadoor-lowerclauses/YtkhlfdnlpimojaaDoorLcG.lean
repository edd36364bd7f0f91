/-
  CONTRACTS of package core: around a body one Where.
-/
import Derived.Test.YtkhlfdnlpimojaaDoorLcF
import Derived.Test.YtkhlfdnlpimojaaDoorRgIn
set_option linter.unusedVariables false
namespace Go.Proofs.YtkhlfdnlpimojaaDoor
set_option maxRecDepth 100000
open Go.RowKit Go.WideShapes Go.Shelf
attribute [local go_sem] Oper.semAt_some

def one (b : Bool) : Nat := if b then 1 else 0
theorem one_le (b : Bool) : one b ≤ 1 := by cases b <;> decide
theorem box1 {w : World} {b : Nat} {x : Value} {T : TypeId} (h : w.heap[b]? = some (.cells #[x] T)) : w.cell? ⟨b, 0, none⟩ = some x := by rw [Lib.cell_of_heap h]; rfl
theorem bk12 {w : World} {b : Nat} {x0 x1 x2 x3 x4 x5 x6 x7 x8 x9 x10 x11 : Value} {T : TypeId} (h : w.heap[b]? = some (.cells #[x0, x1, x2, x3, x4, x5, x6, x7, x8, x9, x10, x11] T)) : w.cell? ⟨b, 0, none⟩ = some x0 ∧ w.cell? ⟨b, 1, none⟩ = some x1 ∧ w.cell? ⟨b, 2, none⟩ = some x2 ∧ w.cell? ⟨b, 3, none⟩ = some x3 ∧ w.cell? ⟨b, 4, none⟩ = some x4 ∧ w.cell? ⟨b, 5, none⟩ = some x5 ∧ w.cell? ⟨b, 6, none⟩ = some x6 ∧ w.cell? ⟨b, 7, none⟩ = some x7 ∧ w.cell? ⟨b, 8, none⟩ = some x8 ∧ w.cell? ⟨b, 9, none⟩ = some x9 ∧ w.cell? ⟨b, 10, none⟩ = some x10 ∧ w.cell? ⟨b, 11, none⟩ = some x11 :=
  ⟨by rw [Lib.cell_of_heap h]; rfl, by rw [Lib.cell_of_heap h]; rfl, by rw [Lib.cell_of_heap h]; rfl, by rw [Lib.cell_of_heap h]; rfl, by rw [Lib.cell_of_heap h]; rfl, by rw [Lib.cell_of_heap h]; rfl, by rw [Lib.cell_of_heap h]; rfl, by rw [Lib.cell_of_heap h]; rfl, by rw [Lib.cell_of_heap h]; rfl, by rw [Lib.cell_of_heap h]; rfl, by rw [Lib.cell_of_heap h]; rfl, by rw [Lib.cell_of_heap h]; rfl⟩
theorem cells_kept {X Y : World} {row : Option Nat} {B b : Nat} {cs : Array Value} {T : TypeId} (h : X.heap[b]? = some (.cells cs T)) (hg : X.grownBy Y row) (hr : ∀ r, row = some r → B ≤ r ∧ ∃ o : Obj, X.heap[r]? = some o ∧ o.isCells = false) : Y.heap[b]? = some (.cells cs T) :=
  (hg.block b (Array.getElem?_eq_some_iff.1 h).1 (fun e => by obtain ⟨_, o, ho, hc⟩ := hr b e.symm; rw [h] at ho; cases ho; cases hc)).trans h
/-- between two rounds of around: what is kept, and what the body's box holds -/
def AroI (lb : Nat) (m1 m2 m3 : Value) (p : Nat) (cv : CV) (k2 : Int) (i2 : It) (nm2 at2 : ByteArray) (g2 ax2 tk2 : Int) (tn2 : ByteArray) (aa2 : Option Addr) (am2 ac2 : Nat) (w W0 : World) (pre : List Nat) (W : World) : Prop :=
  ∃ (q : Nat) (Bd : Array Value), W.heap[lb]? = some (.cells #[m1, m2, m3, .int .i64 ((q : Nat) : Int), .int .i64 0] 49) ∧ W.heap[w.heap.size + 1]? = some (.cells Bd 39) ∧ W.heap[w.heap.size]? = some (.cells #[.pointer (some ⟨lb, 0, none⟩)] 57) ∧ W.heap[w.heap.size + 2]? = some (.cells #[.int .i64 0, .int .i64 0, .int .i64 0, .string ⟨#[]⟩, .string ⟨#[]⟩, .string ⟨#[]⟩, .int .i64 0, .int .i64 0, .int .i64 0, .string ⟨#[]⟩, .slice none 0 0] 39) ∧ (∀ c, c < w.heap.size → c ≠ lb → W.heap[c]? = w.heap[c]?) ∧ Below lb w W ∧ W0.heap.size ≤ W.heap.size ∧
    ((pre = [] ∧ q = p ∧ Bd = #[.int .i64 (k2), .int .i64 (i2.kind), .int .i64 (i2.n), .string i2.s, .string nm2, .string at2, .int .i64 (g2), .int .i64 (ax2), .int .i64 (tk2), .string tn2, .slice aa2 am2 ac2]) ∨ (pre.length = 1 ∧ q = p + 3 ∧ ∃ n9 n4 : Nat, Bd = #[.int .i64 7, .int .i64 0, .int .i64 0, .string ⟨#[]⟩, .string ⟨#[]⟩, .string ⟨#[]⟩, .int .i64 0, .int .i64 0, .int .i64 0, .string ⟨#[]⟩, .slice (some ⟨n9, 0, none⟩) 3 3] ∧ W0.heap.size ≤ n9 ∧ W.heap[n9]? = some (.cells #[.int .i64 8, .int .i64 0, .int .i64 0, .string ⟨#[]⟩, .string ⟨#[98, 111, 111, 108, 101, 97, 110]⟩, .string ⟨#[]⟩, .int .i64 0, .int .i64 0, .int .i64 0, .string ⟨#[]⟩, .slice (some ⟨n4, 0, none⟩) 1 1, .int .i64 (k2), .int .i64 (i2.kind), .int .i64 (i2.n), .string i2.s, .string nm2, .string at2, .int .i64 (g2), .int .i64 (ax2), .int .i64 (tk2), .string tn2, .slice aa2 am2 ac2, .int .i64 3, .int .i64 0, .int .i64 0, .string ⟨#[]⟩, .string ⟨#[]⟩, .string ⟨#[]⟩, .int .i64 0, .int .i64 0, .int .i64 0, .string ⟨#[]⟩, .slice none 0 0] 39) ∧ W0.heap.size ≤ n4 ∧ W.heap[n4]? = some (.cells #[.int .i64 (cv.k), .int .i64 (cv.it.kind), .int .i64 (cv.it.n), .string cv.it.s, .string cv.nm, .string cv.at_, .int .i64 (cv.n), .int .i64 (cv.ax), .int .i64 (cv.tk), .string cv.tn, .slice cv.aa cv.am cv.ac] 39)))
theorem AroI.own (lb : Nat) (m1 m2 m3 : Value) (p : Nat) (cv : CV) (k2 : Int) (i2 : It) (nm2 at2 : ByteArray) (g2 ax2 tk2 : Int) (tn2 : ByteArray) (aa2 : Option Addr) (am2 ac2 : Nat) (w W0 : World) (hl : lb < w.heap.size) (hz : w.heap.size ≤ W0.heap.size) : OwnFrom W0.heap.size (AroI lb m1 m2 m3 p cv k2 i2 nm2 at2 g2 ax2 tk2 tn2 aa2 am2 ac2 w W0) := by
  rintro pre X Y row ⟨q, Bd, h1, h2, h3, h4, h5, h6, h7, h8⟩ hg hr
  refine ⟨q, Bd, cells_kept h1 hg hr, cells_kept h2 hg hr, cells_kept h3 hg hr, cells_kept h4 hg hr, fun c hc hn => (hg.block c (by omega) (fun e => by have := (hr c e.symm).1; omega)).trans (h5 c hc hn), h6.grown hg (by omega) (fun k e => by have := (hr k e).1; omega), Nat.le_trans h7 hg.size, ?_⟩
  rcases h8 with h8 | ⟨e1, e2, n9, n4, e3, e4, e5, e6, e7⟩
  · exact .inl h8
  · exact .inr ⟨e1, e2, n9, n4, e3, e4, cells_kept e5 hg hr, e6, cells_kept e7 hg hr⟩

/-- what around answers: If (Call boolean (value)) body nothing -/
def ArW (lb : Nat) (m1 m2 m3 : Value) (p : Nat) (cv : CV) (k2 : Int) (i2 : It) (nm2 at2 : ByteArray) (g2 ax2 tk2 : Int) (tn2 : ByteArray) (aa2 : Option Addr) (am2 ac2 : Nat) (w : World) (e : Ending) (w' : World) : Prop :=
  ∃ n9 n4 : Nat, e = .returned (.agg #[.int .i64 7, .int .i64 0, .int .i64 0, .string ⟨#[]⟩, .string ⟨#[]⟩, .string ⟨#[]⟩, .int .i64 0, .int .i64 0, .int .i64 0, .string ⟨#[]⟩, .slice (some ⟨n9, 0, none⟩) 3 3]) ∧ Kp lb m1 m2 m3 (p + 3) w w' ∧ w.heap.size ≤ n9 ∧ w'.heap[n9]? = some (.cells #[.int .i64 8, .int .i64 0, .int .i64 0, .string ⟨#[]⟩, .string ⟨#[98, 111, 111, 108, 101, 97, 110]⟩, .string ⟨#[]⟩, .int .i64 0, .int .i64 0, .int .i64 0, .string ⟨#[]⟩, .slice (some ⟨n4, 0, none⟩) 1 1, .int .i64 (k2), .int .i64 (i2.kind), .int .i64 (i2.n), .string i2.s, .string nm2, .string at2, .int .i64 (g2), .int .i64 (ax2), .int .i64 (tk2), .string tn2, .slice aa2 am2 ac2, .int .i64 3, .int .i64 0, .int .i64 0, .string ⟨#[]⟩, .string ⟨#[]⟩, .string ⟨#[]⟩, .int .i64 0, .int .i64 0, .int .i64 0, .string ⟨#[]⟩, .slice none 0 0] 39) ∧ w.heap.size ≤ n4 ∧ w'.heap[n4]? = some (.cells #[.int .i64 (cv.k), .int .i64 (cv.it.kind), .int .i64 (cv.it.n), .string cv.it.s, .string cv.nm, .string cv.at_, .int .i64 (cv.n), .int .i64 (cv.ax), .int .i64 (cv.tk), .string cv.tn, .slice cv.aa cv.am cv.ac] 39)
set_option maxHeartbeats 6400000 in
theorem around_where (lb : Nat) (m1 m2 m3 : Value) (p : Nat) (cv : CV) (b off cap : Nat) (k2 : Int) (i2 : It) (nm2 at2 : ByteArray) (g2 ax2 tk2 : Int) (tn2 : ByteArray) (aa2 : Option Addr) (am2 ac2 : Nat) (w : World) (hl : w.heap[lb]? = some (.cells #[m1, m2, m3, .int .i64 (p : Int), .int .i64 0] 49)) (hp : p + 3 ≤ 700)
    (hcv : CvAt w b off cv) (hb : b < w.heap.size) (hbl : b ≠ lb) (hk : w.cell? ⟨cv.pb, cv.po, none⟩ = some (.int .i64 3)) (hkb : cv.pb < w.heap.size) (hkl : cv.pb ≠ lb) :
    Calls Tryd.prog 43 #[.pointer (some ⟨lb, 0, none⟩), .slice (some ⟨b, off, none⟩) 1 cap, .agg #[.int .i64 (k2), .int .i64 (i2.kind), .int .i64 (i2.n), .string i2.s, .string nm2, .string at2, .int .i64 (g2), .int .i64 (ax2), .int .i64 (tk2), .string tn2, .slice aa2 am2 ac2]] w fun e w' => ArW lb m1 m2 m3 p cv k2 i2 nm2 at2 g2 ax2 tk2 tn2 aa2 am2 ac2 w e w' := by
  have HL := hidC hl
  have HK := hidC hk
  have HC := hidC hcv
  have l6 : lb < w.heap.size := (Array.getElem?_eq_some_iff.1 hl).1
  have CC : Hid (∀ (W : World) (c : Nat) (aa : Option Addr) (am ac : Nat), W.heap[lb]? = some (.cells #[m1, m2, m3, .int .i64 ((c : Nat) : Int), .int .i64 0] 49) → c + 1 ≤ 700 → Calls Tryd.prog 35 _ W _) := fun W c aa am ac h1 h2 => call_is lb m1 m2 m3 c ⟨#[98, 111, 111, 108, 101, 97, 110]⟩ aa am ac W h1 h2 (by decide)
  have CN : Hid (∀ (W : World) (c : Nat), W.heap[lb]? = some (.cells #[m1, m2, m3, .int .i64 ((c : Nat) : Int), .int .i64 0] 49) → c + 1 ≤ 700 → Calls Tryd.prog 59 _ W _) := fun W c h1 h2 => nothing_is lb m1 m2 m3 c W h1 h2
  have CD : Hid (∀ (W : World) (c n4 : Nat), W.heap[lb]? = some (.cells #[m1, m2, m3, .int .i64 ((c : Nat) : Int), .int .i64 0] 49) → c + 1 ≤ 700 → Calls Tryd.prog 44 _ W _) := fun W c n4 h1 h2 => conditional_is lb m1 m2 m3 c 8 ⟨0, 0, ⟨#[]⟩⟩ ⟨#[98, 111, 111, 108, 101, 97, 110]⟩ ⟨#[]⟩ 0 0 0 ⟨#[]⟩ (some ⟨n4, 0, none⟩) 1 1 k2 i2 nm2 at2 g2 ax2 tk2 tn2 aa2 am2 ac2 3 ⟨0, 0, ⟨#[]⟩⟩ ⟨#[]⟩ ⟨#[]⟩ 0 0 0 ⟨#[]⟩ none 0 0 W h1 h2
  clear hl hk hcv
  refine (callsIn_wide (n := 3)).1 ?_
  refine callsIn_of_wp_marks Tryd.func43 rfl trivial ?_ rfl
  simp only [Tryd.ntmps43, List.size_toArray, List.length_cons, List.length_nil, Nat.reduceAdd, Nat.reduceSub, Array.replicate_succ, Array.replicate_zero, List.push_toArray, List.append_toArray, List.nil_append, List.cons_append]
  gi_wp2_with (refine ⟨trivial, ?_⟩; gi_at_call 64; refine (callsIn_wide.2 (backward_is _ _ _ _)).mono ?_; rintro e w1 ⟨rfl, rfl⟩)
  obtain ⟨W0, hW0⟩ : ∃ W, W = (((w.alloc (.cells #[.pointer (some ⟨lb, 0, none⟩)] 57)).alloc (.cells #[.int .i64 (k2), .int .i64 (i2.kind), .int .i64 (i2.n), .string i2.s, .string nm2, .string at2, .int .i64 (g2), .int .i64 (ax2), .int .i64 (tk2), .string tn2, .slice aa2 am2 ac2] 39)).alloc (.cells #[.int .i64 0, .int .i64 0, .int .i64 0, .string ⟨#[]⟩, .string ⟨#[]⟩, .string ⟨#[]⟩, .int .i64 0, .int .i64 0, .int .i64 0, .string ⟨#[]⟩, .slice none 0 0] 39)).alloc (.cells #[.slice (some ⟨b, off, none⟩) 1 cap] 79) := ⟨_, rfl⟩
  have HL0 : Hid (W0.heap[lb]? = some (.cells #[m1, m2, m3, .int .i64 (p : Int), .int .i64 0] 49)) := by rw [hW0]; exact aOld (aOld (aOld (aOld HL.out)))
  have HA0 : Hid (W0.heap[w.heap.size]? = some (.cells #[.pointer (some ⟨lb, 0, none⟩)] 57)) := by rw [hW0]; exact aOld (aOld (aOld (aNew rfl)))
  have HY0 : Hid (W0.heap[w.heap.size + 1]? = some (.cells #[.int .i64 (k2), .int .i64 (i2.kind), .int .i64 (i2.n), .string i2.s, .string nm2, .string at2, .int .i64 (g2), .int .i64 (ax2), .int .i64 (tk2), .string tn2, .slice aa2 am2 ac2] 39)) := by rw [hW0]; exact aOld (aOld (aNew (by simp)))
  have HR0 : Hid (W0.heap[w.heap.size + 2]? = some (.cells #[.int .i64 0, .int .i64 0, .int .i64 0, .string ⟨#[]⟩, .string ⟨#[]⟩, .string ⟨#[]⟩, .int .i64 0, .int .i64 0, .int .i64 0, .string ⟨#[]⟩, .slice none 0 0] 39)) := by rw [hW0]; exact aOld (aNew (by simp))
  have HS0 : Hid (W0.heap[w.heap.size + 1 + 1 + 1]? = some (.cells #[.slice (some ⟨b, off, none⟩) 1 cap] 79)) := by rw [hW0]; exact aNew (by simp)
  have HB0 : Hid (Below w.heap.size w W0) := by rw [hW0]; exact ((((Below.refl _ w).alloc (Nat.le_refl _) _).alloc (by simp) _).alloc (by simp; omega) _).alloc (by simp; omega) _
  have hz0 : W0.heap.size = w.heap.size + 4 := by rw [hW0]; simp
  rw [← hW0]
  clear hW0
  refine wpIn_rangeFunc_ownH rfl (by decide) (gf := 70) (lb := #[.pointer (some ⟨w.heap.size + 1 + 1 + 1, 0, none⟩)]) rfl trivial (enters_of Tryd.func70 (by kernel_rfl) rfl) (backward_stops Fence.wide _ trivial rfl (by decide) (w.heap.size + 1 + 1 + 1) b off 1 cap (fun _ => cv) (by decide) W0 HS0.out (fun j hj => by obtain rfl : j = 0 := (by omega); exact HC.out.block (HB0.out.block b hb)) (by omega)) (fun h k => h.trans k) (two_b (by omega) (by omega)) (Below.refl _ _) (fun _ => rfl)
    (AroI lb m1 m2 m3 p cv k2 i2 nm2 at2 g2 ax2 tk2 tn2 aa2 am2 ac2 w W0) (fun _ _ _ => False) (AroI.own lb m1 m2 m3 p cv k2 i2 nm2 at2 g2 ax2 tk2 tn2 aa2 am2 ac2 w W0 l6 (by omega)) (fun _ _ _ _ _ hs _ _ => hs)
    ⟨p, _, HL0.out, HY0.out, HA0.out, HR0.out, fun c hc _ => HB0.out.block c hc, HB0.out.mono (by omega), Nat.le_refl _, .inl ⟨rfl, rfl, rfl⟩⟩
    (fun x a' W => ∃ T, W0.heap.size ≤ T ∧ W.heap[T]? = some (.cells #[.pointer (some ⟨cv.pb, cv.po, none⟩), .int .i64 (cv.k), .int .i64 (cv.it.kind), .int .i64 (cv.it.n), .string cv.it.s, .string cv.nm, .string cv.at_, .int .i64 (cv.n), .int .i64 (cv.ax), .int .i64 (cv.tk), .string cv.tn, .slice cv.aa cv.am cv.ac] 82) ∧ a' = { tmps := #[.pointer (some ⟨lb, 0, none⟩), .slice (some ⟨b, off, none⟩) 1 cap, .agg #[.int .i64 (k2), .int .i64 (i2.kind), .int .i64 (i2.n), .string i2.s, .string nm2, .string at2, .int .i64 (g2), .int .i64 (ax2), .int .i64 (tk2), .string tn2, .slice aa2 am2 ac2], .pointer (some ⟨w.heap.size, 0, none⟩), undef, .pointer (some ⟨w.heap.size + 1, 0, none⟩), .pointer (some ⟨w.heap.size + 1 + 1, 0, none⟩), undef, .pointer (some ⟨T, 0, none⟩), .slice (some ⟨b, off, none⟩) 1 cap, .func (.func 70) #[] #[.pointer (some ⟨w.heap.size + 1 + 1 + 1, 0, none⟩)], .int .i64 ((x : Nat) : Int), .agg #[.pointer (some ⟨cv.pb, cv.po, none⟩), .int .i64 (cv.k), .int .i64 (cv.it.kind), .int .i64 (cv.it.n), .string cv.it.s, .string cv.nm, .string cv.at_, .int .i64 (cv.n), .int .i64 (cv.ax), .int .i64 (cv.tk), .string cv.tn, .slice cv.aa cv.am cv.ac], undef, undef, undef, undef, undef, undef, undef, undef, undef, undef, undef, undef, undef, undef, undef, undef, undef, undef, undef, undef, undef, undef, undef, undef, undef, undef, undef, undef, undef, undef, undef, undef, undef, undef, undef, undef, undef, undef, undef, undef, undef, undef, undef, undef, undef, undef, undef], defers := [] })
    (fun x a' _ X Y row hs hg hr => by obtain ⟨T, e1, e2, e3⟩ := hs; exact ⟨T, e1, cells_kept e2 hg hr, e3⟩) ?assign ?body ?done ?stop
  case assign =>
    intro l pre x W K hi hK
    simp only [CV.val]
    gi_wp2
    have hzW : W0.heap.size ≤ W.heap.size := by obtain ⟨_, _, _, _, _, _, _, _, h7, _⟩ := hi; exact h7
    exact hK _ _ ((KeepsOthers.alloc _ _).from _) ⟨Below.heap_alloc _ _ _ (by omega), Below.heap_alloc _ _ _ (by omega)⟩ ((AroI.own lb m1 m2 m3 p cv k2 i2 nm2 at2 g2 ax2 tk2 tn2 aa2 am2 ac2 w W0 l6 (by omega)).alloc _ hi) ⟨W.heap.size, hzW, aNew rfl, rfl⟩
  case body =>
    rintro l pre x a' W1 hl ⟨r, hr⟩ hi ⟨T, hT, hTb, rfl⟩ hlt
    obtain ⟨q, Bd, g1, g2', g3, g4, g5, g6, g7, g8⟩ := hi
    obtain ⟨rfl, e1, rfl⟩ : pre = [] ∧ q = p ∧ Bd = #[.int .i64 (k2), .int .i64 (i2.kind), .int .i64 (i2.n), .string i2.s, .string nm2, .string at2, .int .i64 (g2), .int .i64 (ax2), .int .i64 (tk2), .string tn2, .slice aa2 am2 ac2] := by
      rcases g8 with h | h
      · exact h
      · exfalso; have := h.1; omega
    obtain rfl : p = q := e1.symm
    have HA1 := hidC g3
    have HT1 := hidC hTb
    have HY1 := hidC g2'
    have HL1 := hidC g1
    have HR1 := hidC g4
    have HO1 := hidC g5
    have HB1 := hidC g6
    have HRR := hidC hr
    have HK1 : W1.cell? ⟨cv.pb, cv.po, none⟩ = some (.int .i64 3) := by have e := g5 cv.pb hkb hkl; rw [show W1.cell? ⟨cv.pb, cv.po, none⟩ = w.cell? ⟨cv.pb, cv.po, none⟩ by simp only [World.cell?, e]]; exact HK.out
    have hTz : T < W1.heap.size := (Array.getElem?_eq_some_iff.1 hTb).1
    obtain ⟨c0, _, _, _, _, _, _, _, _, _, _, _⟩ := bk12 hTb
    clear g1 g2' g3 g4 g5 g6 g8 hTb hr
    gi_wp2
    have HL1c : W1.heap[lb]? = some (.cells #[m1, m2, m3, .int .i64 (((p + one ((Array.replicate 11 false).getD 5 false) + one ((Array.replicate 11 false).getD 8 false) + one ((Array.replicate 11 false).getD 9 false)) : Nat) : Int), .int .i64 0] 49) := HL1.out
    clear c0 HK1
    refine wpIn_region_slots (by kernel_rfl) (fun j v W => (match j with | 0 => v = (.pointer (some ⟨lb, 0, none⟩)) | 1 => v = (.pointer (some ⟨lb, 0, none⟩)) | 2 => v = (.pointer (some ⟨T, 1, none⟩)) | 3 => v = (.agg #[.int .i64 (cv.k), .int .i64 (cv.it.kind), .int .i64 (cv.it.n), .string cv.it.s, .string cv.nm, .string cv.at_, .int .i64 (cv.n), .int .i64 (cv.ax), .int .i64 (cv.tk), .string cv.tn, .slice cv.aa cv.am cv.ac]) | 6 => v = (.agg #[.int .i64 (k2), .int .i64 (i2.kind), .int .i64 (i2.n), .string i2.s, .string nm2, .string at2, .int .i64 (g2), .int .i64 (ax2), .int .i64 (tk2), .string tn2, .slice aa2 am2 ac2]) | 7 => v = (.pointer (some ⟨lb, 0, none⟩)) | 8 => v = (.agg #[.int .i64 3, .int .i64 0, .int .i64 0, .string ⟨#[]⟩, .string ⟨#[]⟩, .string ⟨#[]⟩, .int .i64 0, .int .i64 0, .int .i64 0, .string ⟨#[]⟩, .slice none 0 0]) | _ => True) ∧ (j = 4 → ∃ n4 : Nat, v = (.slice (some ⟨n4, 0, none⟩) 1 1) ∧ W1.heap.size ≤ n4 ∧ W.heap[n4]? = some (.cells #[.int .i64 (cv.k), .int .i64 (cv.it.kind), .int .i64 (cv.it.n), .string cv.it.s, .string cv.nm, .string cv.at_, .int .i64 (cv.n), .int .i64 (cv.ax), .int .i64 (cv.tk), .string cv.tn, .slice cv.aa cv.am cv.ac] 39)) ∧ (j = 5 → ∃ n4 : Nat, v = (.agg #[.int .i64 8, .int .i64 0, .int .i64 0, .string ⟨#[]⟩, .string ⟨#[98, 111, 111, 108, 101, 97, 110]⟩, .string ⟨#[]⟩, .int .i64 0, .int .i64 0, .int .i64 0, .string ⟨#[]⟩, .slice (some ⟨n4, 0, none⟩) 1 1]) ∧ W1.heap.size ≤ n4 ∧ W.heap[n4]? = some (.cells #[.int .i64 (cv.k), .int .i64 (cv.it.kind), .int .i64 (cv.it.n), .string cv.it.s, .string cv.nm, .string cv.at_, .int .i64 (cv.n), .int .i64 (cv.ax), .int .i64 (cv.tk), .string cv.tn, .slice cv.aa cv.am cv.ac] 39)) ∧ (j = 9 → ∃ n9 n4 : Nat, v = (.agg #[.int .i64 7, .int .i64 0, .int .i64 0, .string ⟨#[]⟩, .string ⟨#[]⟩, .string ⟨#[]⟩, .int .i64 0, .int .i64 0, .int .i64 0, .string ⟨#[]⟩, .slice (some ⟨n9, 0, none⟩) 3 3]) ∧ W1.heap.size ≤ n9 ∧ W.heap[n9]? = some (.cells #[.int .i64 8, .int .i64 0, .int .i64 0, .string ⟨#[]⟩, .string ⟨#[98, 111, 111, 108, 101, 97, 110]⟩, .string ⟨#[]⟩, .int .i64 0, .int .i64 0, .int .i64 0, .string ⟨#[]⟩, .slice (some ⟨n4, 0, none⟩) 1 1, .int .i64 (k2), .int .i64 (i2.kind), .int .i64 (i2.n), .string i2.s, .string nm2, .string at2, .int .i64 (g2), .int .i64 (ax2), .int .i64 (tk2), .string tn2, .slice aa2 am2 ac2, .int .i64 3, .int .i64 0, .int .i64 0, .string ⟨#[]⟩, .string ⟨#[]⟩, .string ⟨#[]⟩, .int .i64 0, .int .i64 0, .int .i64 0, .string ⟨#[]⟩, .slice none 0 0] 39) ∧ W1.heap.size ≤ n4 ∧ W.heap[n4]? = some (.cells #[.int .i64 (cv.k), .int .i64 (cv.it.kind), .int .i64 (cv.it.n), .string cv.it.s, .string cv.nm, .string cv.at_, .int .i64 (cv.n), .int .i64 (cv.ax), .int .i64 (cv.tk), .string cv.tn, .slice cv.aa cv.am cv.ac] 39))) (fun l a W => Below lb W1 W ∧ W1.heap.size ≤ W.heap.size ∧ W.heap[w.heap.size]? = some (.cells #[.pointer (some ⟨lb, 0, none⟩)] 57) ∧ W.heap[T]? = some (.cells #[.pointer (some ⟨cv.pb, cv.po, none⟩), .int .i64 (cv.k), .int .i64 (cv.it.kind), .int .i64 (cv.it.n), .string cv.it.s, .string cv.nm, .string cv.at_, .int .i64 (cv.n), .int .i64 (cv.ax), .int .i64 (cv.tk), .string cv.tn, .slice cv.aa cv.am cv.ac] 82) ∧ ((l.getD 10 false = false → W.heap[w.heap.size + 1]? = some (.cells #[.int .i64 (k2), .int .i64 (i2.kind), .int .i64 (i2.n), .string i2.s, .string nm2, .string at2, .int .i64 (g2), .int .i64 (ax2), .int .i64 (tk2), .string tn2, .slice aa2 am2 ac2] 39)) ∧ (l.getD 10 false = true → ∃ n9 n4 : Nat, W.heap[w.heap.size + 1]? = some (.cells #[.int .i64 7, .int .i64 0, .int .i64 0, .string ⟨#[]⟩, .string ⟨#[]⟩, .string ⟨#[]⟩, .int .i64 0, .int .i64 0, .int .i64 0, .string ⟨#[]⟩, .slice (some ⟨n9, 0, none⟩) 3 3] 39) ∧ W1.heap.size ≤ n9 ∧ W.heap[n9]? = some (.cells #[.int .i64 8, .int .i64 0, .int .i64 0, .string ⟨#[]⟩, .string ⟨#[98, 111, 111, 108, 101, 97, 110]⟩, .string ⟨#[]⟩, .int .i64 0, .int .i64 0, .int .i64 0, .string ⟨#[]⟩, .slice (some ⟨n4, 0, none⟩) 1 1, .int .i64 (k2), .int .i64 (i2.kind), .int .i64 (i2.n), .string i2.s, .string nm2, .string at2, .int .i64 (g2), .int .i64 (ax2), .int .i64 (tk2), .string tn2, .slice aa2 am2 ac2, .int .i64 3, .int .i64 0, .int .i64 0, .string ⟨#[]⟩, .string ⟨#[]⟩, .string ⟨#[]⟩, .int .i64 0, .int .i64 0, .int .i64 0, .string ⟨#[]⟩, .slice none 0 0] 39) ∧ W1.heap.size ≤ n4 ∧ W.heap[n4]? = some (.cells #[.int .i64 (cv.k), .int .i64 (cv.it.kind), .int .i64 (cv.it.n), .string cv.it.s, .string cv.nm, .string cv.at_, .int .i64 (cv.n), .int .i64 (cv.ax), .int .i64 (cv.tk), .string cv.tn, .slice cv.aa cv.am cv.ac] 39))) ∧ W.heap[lb]? = some (.cells #[m1, m2, m3, .int .i64 (((p + one (l.getD 5 false) + one (l.getD 8 false) + one (l.getD 9 false)) : Nat) : Int), .int .i64 0] 49) ∧ (∀ c, c < W1.heap.size → c ≠ lb → c ≠ w.heap.size + 1 → W.heap[c]? = W1.heap[c]?)) (by kernel_rfl) (by kernel_rfl) (by kernel_rfl) ⟨(Below.refl _ _).trans ⟨rfl, rfl, rfl, Nat.le_refl _, fun _ _ => rfl⟩, Nat.le_refl _, HA1.out, HT1.out, ⟨fun _ => HY1.out, fun e7 => by rw [Array.getD_eq_getD_getElem?, Array.getElem?_replicate] at e7; split at e7 <;> cases e7⟩, HL1c, fun c _ _ _ => rfl⟩ ?_ ?_
    · intro l a W i o hsz h ho hl haf
      obtain ⟨g1, g0, b0, b1, b2, bc, gr⟩ := h.more
      have gz : lb ≤ W.heap.size := Nat.le_trans (by first | exact Nat.le_refl _ | omega) g0
      have hi : i < 11 := (Array.getElem?_eq_some_iff.1 ho).1
      obtain rfl | rfl | rfl | rfl | rfl | rfl | rfl | rfl | rfl | rfl | rfl : i = 0 ∨ i = 1 ∨ i = 2 ∨ i = 3 ∨ i = 4 ∨ i = 5 ∨ i = 6 ∨ i = 7 ∨ i = 8 ∨ i = 9 ∨ i = 10 := by omega
      all_goals (obtain rfl := Option.some.inj ho; rw [if_pos (want_none rfl)])
      · have e3 := h.given 3 _ rfl (by kernel_rfl)
        have m10 := h.later 10 0 _ ⟨0, .phase⟩ rfl (by simp) rfl rfl hl
        have c_ := b0
        have c0 := box1 c_
        refine wp_val (v := .pointer (some ⟨lb, 0, none⟩)) (w' := W) ?_ ⟨_, rfl, ⟨rfl, fun e => absurd e (by decide), fun e => absurd e (by decide), fun e => absurd e (by decide)⟩, fun _ _ h => h, g1, g0, b0, b1, ⟨fun _ => (b2.1 m10), fun e7 => absurd ((set_other_get (show 0 ≠ 10 by decide)).symm.trans e7) (by rw [m10]; decide)⟩, (by simp only [set_other_get (show 0 ≠ 5 by decide), set_other_get (show 0 ≠ 8 by decide), set_other_get (show 0 ≠ 9 by decide)]; exact bc), (fun c h1 h2 h3 => gr c h1 h2 h3)⟩
        unfold execOp
        simp [e3, c0, go_sem]
      · have e3 := h.given 3 _ rfl (by kernel_rfl)
        have m10 := h.later 10 1 _ ⟨1, .phase⟩ rfl (by simp) rfl rfl hl
        have c_ := b0
        have c0 := box1 c_
        refine wp_val (v := .pointer (some ⟨lb, 0, none⟩)) (w' := W) ?_ ⟨_, rfl, ⟨rfl, fun e => absurd e (by decide), fun e => absurd e (by decide), fun e => absurd e (by decide)⟩, fun _ _ h => h, g1, g0, b0, b1, ⟨fun _ => (b2.1 m10), fun e7 => absurd ((set_other_get (show 1 ≠ 10 by decide)).symm.trans e7) (by rw [m10]; decide)⟩, (by simp only [set_other_get (show 1 ≠ 5 by decide), set_other_get (show 1 ≠ 8 by decide), set_other_get (show 1 ≠ 9 by decide)]; exact bc), (fun c h1 h2 h3 => gr c h1 h2 h3)⟩
        unfold execOp
        simp [e3, c0, go_sem]
      · have e8 := h.given 8 _ rfl (by kernel_rfl)
        have m10 := h.later 10 2 _ ⟨2, .phase⟩ rfl (by simp) rfl rfl hl
        refine wp_val (v := .pointer (some ⟨T, 1, none⟩)) (w' := W) ?_ ⟨_, rfl, ⟨rfl, fun e => absurd e (by decide), fun e => absurd e (by decide), fun e => absurd e (by decide)⟩, fun _ _ h => h, g1, g0, b0, b1, ⟨fun _ => (b2.1 m10), fun e7 => absurd ((set_other_get (show 2 ≠ 10 by decide)).symm.trans e7) (by rw [m10]; decide)⟩, (by simp only [set_other_get (show 2 ≠ 5 by decide), set_other_get (show 2 ≠ 8 by decide), set_other_get (show 2 ≠ 9 by decide)]; exact bc), (fun c h1 h2 h3 => gr c h1 h2 h3)⟩
        unfold execOp
        simp [e8, go_sem]
      · obtain ⟨u51, e51, x51⟩ := h.new 2 _ 51 rfl rfl (haf ⟨2, .data⟩ (by simp) rfl)
        have y51 : u51 = (.pointer (some ⟨T, 1, none⟩)) := x51.1
        subst y51
        have m10 := h.later 10 3 _ ⟨3, .phase⟩ rfl (by simp) rfl rfl hl
        have c_ := b1
        obtain ⟨c0, c1, c2, c3, c4, c5, c6, c7, c8, c9, c10, c11⟩ := bk12 c_
        refine wp_val (v := .agg #[.int .i64 (cv.k), .int .i64 (cv.it.kind), .int .i64 (cv.it.n), .string cv.it.s, .string cv.nm, .string cv.at_, .int .i64 (cv.n), .int .i64 (cv.ax), .int .i64 (cv.tk), .string cv.tn, .slice cv.aa cv.am cv.ac]) (w' := W) ?_ ⟨_, rfl, ⟨rfl, fun e => absurd e (by decide), fun e => absurd e (by decide), fun e => absurd e (by decide)⟩, fun _ _ h => h, g1, g0, b0, b1, ⟨fun _ => (b2.1 m10), fun e7 => absurd ((set_other_get (show 3 ≠ 10 by decide)).symm.trans e7) (by rw [m10]; decide)⟩, (by simp only [set_other_get (show 3 ≠ 5 by decide), set_other_get (show 3 ≠ 8 by decide), set_other_get (show 3 ≠ 9 by decide)]; exact bc), (fun c h1 h2 h3 => gr c h1 h2 h3)⟩
        unfold execOp
        simp [e51, c1, c2, c3, c4, c5, c6, c7, c8, c9, c10, c11, go_sem]
      · obtain ⟨u52, e52, x52⟩ := h.new 3 _ 52 rfl rfl (haf ⟨3, .data⟩ (by simp) rfl)
        have y52 : u52 = (.agg #[.int .i64 (cv.k), .int .i64 (cv.it.kind), .int .i64 (cv.it.n), .string cv.it.s, .string cv.nm, .string cv.at_, .int .i64 (cv.n), .int .i64 (cv.ax), .int .i64 (cv.tk), .string cv.tn, .slice cv.aa cv.am cv.ac]) := x52.1
        subst y52
        have m10 := h.later 10 4 _ ⟨4, .phase⟩ rfl (by simp) rfl rfl hl
        refine wp_val (v := .slice (some ⟨W.heap.size, 0, none⟩) 1 1) (w' := W.alloc (.cells #[.int .i64 (cv.k), .int .i64 (cv.it.kind), .int .i64 (cv.it.n), .string cv.it.s, .string cv.nm, .string cv.at_, .int .i64 (cv.n), .int .i64 (cv.ax), .int .i64 (cv.tk), .string cv.tn, .slice cv.aa cv.am cv.ac] 39)) ?_ ⟨_, rfl, ⟨trivial, fun _ => ⟨W.heap.size, rfl, g0, aNew rfl⟩, fun e => absurd e (by decide), fun e => absurd e (by decide)⟩, fun j u hd => ⟨hd.1, fun e => by obtain ⟨n4, ev, p_n4, f_n4⟩ := hd.2.1 e; exact ⟨n4, ev, p_n4, aOld f_n4⟩, fun e => by obtain ⟨n4, ev, p_n4, f_n4⟩ := hd.2.2.1 e; exact ⟨n4, ev, p_n4, aOld f_n4⟩, fun e => by obtain ⟨n9, n4, ev, p_n9, f_n9, p_n4, f_n4⟩ := hd.2.2.2 e; exact ⟨n9, n4, ev, p_n9, aOld f_n9, p_n4, aOld f_n4⟩⟩, g1.alloc gz _, by simp; omega, aOld b0, aOld b1, ⟨fun _ => aOld ((b2.1 m10)), fun e7 => absurd ((set_other_get (show 4 ≠ 10 by decide)).symm.trans e7) (by rw [m10]; decide)⟩, (by simp only [set_other_get (show 4 ≠ 5 by decide), set_other_get (show 4 ≠ 8 by decide), set_other_get (show 4 ≠ 9 by decide)]; exact aOld bc), (fun c h1 h2 h3 => (Below.heap_alloc _ _ c (Nat.lt_of_lt_of_le h1 g0)).trans (gr c h1 h2 h3))⟩
        unfold execOp
        simp [e52, go_sem]
      · obtain ⟨u50, e50, x50⟩ := h.new 1 _ 50 rfl rfl (haf ⟨1, .data⟩ (by simp) rfl)
        have y50 : u50 = (.pointer (some ⟨lb, 0, none⟩)) := x50.1
        subst y50
        obtain ⟨u53, e53, x53⟩ := h.new 4 _ 53 rfl rfl (haf ⟨4, .data⟩ (by simp) rfl)
        obtain ⟨n4, rfl, p_n4, f_n4⟩ := x53.2.1 rfl
        have m10 := h.later 10 5 _ ⟨5, .phase⟩ rfl (by simp) rfl rfl hl
        have m5 : l.getD 5 false = false := by rw [Array.getD_eq_getD_getElem?] at hl ⊢; cases hx : l[5]? with | none => rfl | some bb => rw [hx] at hl; exact hl
        have o1 : one true = 1 := rfl
        have o0 : one false = 0 := rfl
        have o_5 := one_le (l.getD 5 false)
        have o_8 := one_le (l.getD 8 false)
        have o_9 := one_le (l.getD 9 false)
        have ob : (p + one (l.getD 5 false) + one (l.getD 8 false) + one (l.getD 9 false)) + 1 ≤ 700 := by rw [m5, o0]; omega
        have oc : p + one ((l.setIfInBounds 5 true).getD 5 false) + one ((l.setIfInBounds 5 true).getD 8 false) + one ((l.setIfInBounds 5 true).getD 9 false) = (p + one (l.getD 5 false) + one (l.getD 8 false) + one (l.getD 9 false)) + 1 := by rw [set_other_get (show 5 ≠ 8 by decide), set_other_get (show 5 ≠ 9 by decide), set_this_get (i := 5) (n := 11) hsz (by decide), m5, o0, o1] <;> omega
        refine wp_enter (f := 35) (args := #[.pointer (some ⟨lb, 0, none⟩), .string ⟨#[98, 111, 111, 108, 101, 97, 110]⟩, .slice (some ⟨n4, 0, none⟩) 1 1]) (w' := W) ?_ ((CC.out W (p + one (l.getD 5 false) + one (l.getD 8 false) + one (l.getD 9 false)) _ _ _ bc ob).mono ?_)
        · unfold execOp
          simp [e50, e53, go_sem]
        · rintro e W' ⟨rfl, hk⟩
          exact ⟨_, rfl, _, rfl, ⟨trivial, fun e => absurd e (by decide), fun _ => ⟨n4, rfl, p_n4, (hk.2.1 _ (Array.getElem?_eq_some_iff.1 (f_n4)).1 (by omega)).trans (f_n4)⟩, fun e => absurd e (by decide)⟩, fun j u hd => ⟨hd.1, fun e => by obtain ⟨n4, ev, p_n4, f_n4⟩ := hd.2.1 e; exact ⟨n4, ev, p_n4, (hk.2.1 _ (Array.getElem?_eq_some_iff.1 (f_n4)).1 (by omega)).trans (f_n4)⟩, fun e => by obtain ⟨n4, ev, p_n4, f_n4⟩ := hd.2.2.1 e; exact ⟨n4, ev, p_n4, (hk.2.1 _ (Array.getElem?_eq_some_iff.1 (f_n4)).1 (by omega)).trans (f_n4)⟩, fun e => by obtain ⟨n9, n4, ev, p_n9, f_n9, p_n4, f_n4⟩ := hd.2.2.2 e; exact ⟨n9, n4, ev, p_n9, (hk.2.1 _ (Array.getElem?_eq_some_iff.1 (f_n9)).1 (by omega)).trans (f_n9), p_n4, (hk.2.1 _ (Array.getElem?_eq_some_iff.1 (f_n4)).1 (by omega)).trans (f_n4)⟩⟩, g1.trans hk.2.2, Nat.le_trans g0 hk.2.2.size, (hk.2.1 _ (Array.getElem?_eq_some_iff.1 (b0)).1 (by omega)).trans (b0), (hk.2.1 _ (Array.getElem?_eq_some_iff.1 (b1)).1 (by omega)).trans (b1), ⟨fun _ => (hk.2.1 _ (Array.getElem?_eq_some_iff.1 ((b2.1 m10))).1 (by omega)).trans ((b2.1 m10)), fun e7 => absurd ((set_other_get (show 5 ≠ 10 by decide)).symm.trans e7) (by rw [m10]; decide)⟩, (by rw [oc]; exact hk.1), (fun c h1 h2 h3 => (hk.2.1 c (Nat.lt_of_lt_of_le h1 g0) h2).trans (gr c h1 h2 h3))⟩
      · have e5 := h.given 5 _ rfl (by kernel_rfl)
        have m10 := h.later 10 6 _ ⟨6, .phase⟩ rfl (by simp) rfl rfl hl
        have c_ := b2.1 m10
        obtain ⟨c0, c1, c2, c3, c4, c5, c6, c7, c8, c9, c10, cf, _⟩ := bk11 c_
        refine wp_val (v := .agg #[.int .i64 (k2), .int .i64 (i2.kind), .int .i64 (i2.n), .string i2.s, .string nm2, .string at2, .int .i64 (g2), .int .i64 (ax2), .int .i64 (tk2), .string tn2, .slice aa2 am2 ac2]) (w' := W) ?_ ⟨_, rfl, ⟨rfl, fun e => absurd e (by decide), fun e => absurd e (by decide), fun e => absurd e (by decide)⟩, fun _ _ h => h, g1, g0, b0, b1, ⟨fun _ => (b2.1 m10), fun e7 => absurd ((set_other_get (show 6 ≠ 10 by decide)).symm.trans e7) (by rw [m10]; decide)⟩, (by simp only [set_other_get (show 6 ≠ 5 by decide), set_other_get (show 6 ≠ 8 by decide), set_other_get (show 6 ≠ 9 by decide)]; exact bc), (fun c h1 h2 h3 => gr c h1 h2 h3)⟩
        unfold execOp
        simp [e5, c0, c1, c2, c3, c4, c5, c6, c7, c8, c9, c10, go_sem]
      · have e3 := h.given 3 _ rfl (by kernel_rfl)
        have m10 := h.later 10 7 _ ⟨7, .phase⟩ rfl (by simp) rfl rfl hl
        have c_ := b0
        have c0 := box1 c_
        refine wp_val (v := .pointer (some ⟨lb, 0, none⟩)) (w' := W) ?_ ⟨_, rfl, ⟨rfl, fun e => absurd e (by decide), fun e => absurd e (by decide), fun e => absurd e (by decide)⟩, fun _ _ h => h, g1, g0, b0, b1, ⟨fun _ => (b2.1 m10), fun e7 => absurd ((set_other_get (show 7 ≠ 10 by decide)).symm.trans e7) (by rw [m10]; decide)⟩, (by simp only [set_other_get (show 7 ≠ 5 by decide), set_other_get (show 7 ≠ 8 by decide), set_other_get (show 7 ≠ 9 by decide)]; exact bc), (fun c h1 h2 h3 => gr c h1 h2 h3)⟩
        unfold execOp
        simp [e3, c0, go_sem]
      · obtain ⟨u56, e56, x56⟩ := h.new 7 _ 56 rfl rfl (haf ⟨7, .data⟩ (by simp) rfl)
        have y56 : u56 = (.pointer (some ⟨lb, 0, none⟩)) := x56.1
        subst y56
        have m10 := h.later 10 8 _ ⟨8, .phase⟩ rfl (by simp) rfl rfl hl
        have m8 : l.getD 8 false = false := by rw [Array.getD_eq_getD_getElem?] at hl ⊢; cases hx : l[8]? with | none => rfl | some bb => rw [hx] at hl; exact hl
        have o1 : one true = 1 := rfl
        have o0 : one false = 0 := rfl
        have o_5 := one_le (l.getD 5 false)
        have o_8 := one_le (l.getD 8 false)
        have o_9 := one_le (l.getD 9 false)
        have ob : (p + one (l.getD 5 false) + one (l.getD 8 false) + one (l.getD 9 false)) + 1 ≤ 700 := by rw [m8, o0]; omega
        have oc : p + one ((l.setIfInBounds 8 true).getD 5 false) + one ((l.setIfInBounds 8 true).getD 8 false) + one ((l.setIfInBounds 8 true).getD 9 false) = (p + one (l.getD 5 false) + one (l.getD 8 false) + one (l.getD 9 false)) + 1 := by rw [set_other_get (show 8 ≠ 5 by decide), set_other_get (show 8 ≠ 9 by decide), set_this_get (i := 8) (n := 11) hsz (by decide), m8, o0, o1] <;> omega
        refine wp_enter (f := 59) (args := #[.pointer (some ⟨lb, 0, none⟩)]) (w' := W) ?_ ((CN.out W (p + one (l.getD 5 false) + one (l.getD 8 false) + one (l.getD 9 false)) bc ob).mono ?_)
        · unfold execOp
          simp [e56, go_sem]
        · rintro e W' ⟨rfl, hk⟩
          exact ⟨_, rfl, _, rfl, ⟨rfl, fun e => absurd e (by decide), fun e => absurd e (by decide), fun e => absurd e (by decide)⟩, fun j u hd => ⟨hd.1, fun e => by obtain ⟨n4, ev, p_n4, f_n4⟩ := hd.2.1 e; exact ⟨n4, ev, p_n4, (hk.2.1 _ (Array.getElem?_eq_some_iff.1 (f_n4)).1 (by omega)).trans (f_n4)⟩, fun e => by obtain ⟨n4, ev, p_n4, f_n4⟩ := hd.2.2.1 e; exact ⟨n4, ev, p_n4, (hk.2.1 _ (Array.getElem?_eq_some_iff.1 (f_n4)).1 (by omega)).trans (f_n4)⟩, fun e => by obtain ⟨n9, n4, ev, p_n9, f_n9, p_n4, f_n4⟩ := hd.2.2.2 e; exact ⟨n9, n4, ev, p_n9, (hk.2.1 _ (Array.getElem?_eq_some_iff.1 (f_n9)).1 (by omega)).trans (f_n9), p_n4, (hk.2.1 _ (Array.getElem?_eq_some_iff.1 (f_n4)).1 (by omega)).trans (f_n4)⟩⟩, g1.trans hk.2.2, Nat.le_trans g0 hk.2.2.size, (hk.2.1 _ (Array.getElem?_eq_some_iff.1 (b0)).1 (by omega)).trans (b0), (hk.2.1 _ (Array.getElem?_eq_some_iff.1 (b1)).1 (by omega)).trans (b1), ⟨fun _ => (hk.2.1 _ (Array.getElem?_eq_some_iff.1 ((b2.1 m10))).1 (by omega)).trans ((b2.1 m10)), fun e7 => absurd ((set_other_get (show 8 ≠ 10 by decide)).symm.trans e7) (by rw [m10]; decide)⟩, (by rw [oc]; exact hk.1), (fun c h1 h2 h3 => (hk.2.1 c (Nat.lt_of_lt_of_le h1 g0) h2).trans (gr c h1 h2 h3))⟩
      · obtain ⟨u49, e49, x49⟩ := h.new 0 _ 49 rfl rfl (haf ⟨0, .data⟩ (by simp) rfl)
        have y49 : u49 = (.pointer (some ⟨lb, 0, none⟩)) := x49.1
        subst y49
        obtain ⟨u54, e54, x54⟩ := h.new 5 _ 54 rfl rfl (haf ⟨5, .data⟩ (by simp) rfl)
        obtain ⟨n4, rfl, p_n4, f_n4⟩ := x54.2.2.1 rfl
        obtain ⟨u55, e55, x55⟩ := h.new 6 _ 55 rfl rfl (haf ⟨6, .data⟩ (by simp) rfl)
        have y55 : u55 = (.agg #[.int .i64 (k2), .int .i64 (i2.kind), .int .i64 (i2.n), .string i2.s, .string nm2, .string at2, .int .i64 (g2), .int .i64 (ax2), .int .i64 (tk2), .string tn2, .slice aa2 am2 ac2]) := x55.1
        subst y55
        obtain ⟨u57, e57, x57⟩ := h.new 8 _ 57 rfl rfl (haf ⟨8, .chain⟩ (by simp) rfl)
        have y57 : u57 = (.agg #[.int .i64 3, .int .i64 0, .int .i64 0, .string ⟨#[]⟩, .string ⟨#[]⟩, .string ⟨#[]⟩, .int .i64 0, .int .i64 0, .int .i64 0, .string ⟨#[]⟩, .slice none 0 0]) := x57.1
        subst y57
        have m10 := h.later 10 9 _ ⟨9, .phase⟩ rfl (by simp) rfl rfl hl
        have m9 : l.getD 9 false = false := by rw [Array.getD_eq_getD_getElem?] at hl ⊢; cases hx : l[9]? with | none => rfl | some bb => rw [hx] at hl; exact hl
        have o1 : one true = 1 := rfl
        have o0 : one false = 0 := rfl
        have o_5 := one_le (l.getD 5 false)
        have o_8 := one_le (l.getD 8 false)
        have o_9 := one_le (l.getD 9 false)
        have ob : (p + one (l.getD 5 false) + one (l.getD 8 false) + one (l.getD 9 false)) + 1 ≤ 700 := by rw [m9, o0]; omega
        have oc : p + one ((l.setIfInBounds 9 true).getD 5 false) + one ((l.setIfInBounds 9 true).getD 8 false) + one ((l.setIfInBounds 9 true).getD 9 false) = (p + one (l.getD 5 false) + one (l.getD 8 false) + one (l.getD 9 false)) + 1 := by rw [set_other_get (show 9 ≠ 5 by decide), set_other_get (show 9 ≠ 8 by decide), set_this_get (i := 9) (n := 11) hsz (by decide), m9, o0, o1] <;> omega
        refine wp_enter (f := 44) (args := #[.pointer (some ⟨lb, 0, none⟩), .agg #[.int .i64 8, .int .i64 0, .int .i64 0, .string ⟨#[]⟩, .string ⟨#[98, 111, 111, 108, 101, 97, 110]⟩, .string ⟨#[]⟩, .int .i64 0, .int .i64 0, .int .i64 0, .string ⟨#[]⟩, .slice (some ⟨n4, 0, none⟩) 1 1], .agg #[.int .i64 (k2), .int .i64 (i2.kind), .int .i64 (i2.n), .string i2.s, .string nm2, .string at2, .int .i64 (g2), .int .i64 (ax2), .int .i64 (tk2), .string tn2, .slice aa2 am2 ac2], .agg #[.int .i64 3, .int .i64 0, .int .i64 0, .string ⟨#[]⟩, .string ⟨#[]⟩, .string ⟨#[]⟩, .int .i64 0, .int .i64 0, .int .i64 0, .string ⟨#[]⟩, .slice none 0 0]]) (w' := W) ?_ ((CD.out W (p + one (l.getD 5 false) + one (l.getD 8 false) + one (l.getD 9 false)) _ bc ob).mono ?_)
        · unfold execOp
          simp [e49, e54, e55, e57, go_sem]
        · rintro e W' ⟨rfl, hk, hs⟩
          exact ⟨_, rfl, _, rfl, ⟨trivial, fun e => absurd e (by decide), fun e => absurd e (by decide), fun _ => ⟨W.heap.size + 4, n4, rfl, by omega, hs, p_n4, (hk.2.1 _ (Array.getElem?_eq_some_iff.1 (f_n4)).1 (by omega)).trans (f_n4)⟩⟩, fun j u hd => ⟨hd.1, fun e => by obtain ⟨n4, ev, p_n4, f_n4⟩ := hd.2.1 e; exact ⟨n4, ev, p_n4, (hk.2.1 _ (Array.getElem?_eq_some_iff.1 (f_n4)).1 (by omega)).trans (f_n4)⟩, fun e => by obtain ⟨n4, ev, p_n4, f_n4⟩ := hd.2.2.1 e; exact ⟨n4, ev, p_n4, (hk.2.1 _ (Array.getElem?_eq_some_iff.1 (f_n4)).1 (by omega)).trans (f_n4)⟩, fun e => by obtain ⟨n9, n4, ev, p_n9, f_n9, p_n4, f_n4⟩ := hd.2.2.2 e; exact ⟨n9, n4, ev, p_n9, (hk.2.1 _ (Array.getElem?_eq_some_iff.1 (f_n9)).1 (by omega)).trans (f_n9), p_n4, (hk.2.1 _ (Array.getElem?_eq_some_iff.1 (f_n4)).1 (by omega)).trans (f_n4)⟩⟩, g1.trans hk.2.2, Nat.le_trans g0 hk.2.2.size, (hk.2.1 _ (Array.getElem?_eq_some_iff.1 (b0)).1 (by omega)).trans (b0), (hk.2.1 _ (Array.getElem?_eq_some_iff.1 (b1)).1 (by omega)).trans (b1), ⟨fun _ => (hk.2.1 _ (Array.getElem?_eq_some_iff.1 ((b2.1 m10))).1 (by omega)).trans ((b2.1 m10)), fun e7 => absurd ((set_other_get (show 9 ≠ 10 by decide)).symm.trans e7) (by rw [m10]; decide)⟩, (by rw [oc]; exact hk.1), (fun c h1 h2 h3 => (hk.2.1 c (Nat.lt_of_lt_of_le h1 g0) h2).trans (gr c h1 h2 h3))⟩
      · have e5 := h.given 5 _ rfl (by kernel_rfl)
        obtain ⟨u58, e58, x58⟩ := h.new 9 _ 58 rfl rfl (haf ⟨9, .phase⟩ (by simp) rfl)
        obtain ⟨n9, n4, rfl, p_n9, f_n9, p_n4, f_n4⟩ := x58.2.2.2 rfl
        have m10 : l.getD 10 false = false := by rw [Array.getD_eq_getD_getElem?] at hl ⊢; cases hx : l[10]? with | none => rfl | some bb => rw [hx] at hl; exact hl
        have c_ := b2.1 m10
        obtain ⟨c0, c1, c2, c3, c4, c5, c6, c7, c8, c9, c10, cf, _⟩ := bk11 c_
        obtain ⟨W', hW'⟩ : ∃ V, V = (((((((((((W).setCell ⟨w.heap.size + 1, 0, none⟩ (.int .i64 7)).setCell ⟨w.heap.size + 1, 1, none⟩ (.int .i64 0)).setCell ⟨w.heap.size + 1, 2, none⟩ (.int .i64 0)).setCell ⟨w.heap.size + 1, 3, none⟩ (.string ⟨#[]⟩)).setCell ⟨w.heap.size + 1, 4, none⟩ (.string ⟨#[]⟩)).setCell ⟨w.heap.size + 1, 5, none⟩ (.string ⟨#[]⟩)).setCell ⟨w.heap.size + 1, 6, none⟩ (.int .i64 0)).setCell ⟨w.heap.size + 1, 7, none⟩ (.int .i64 0)).setCell ⟨w.heap.size + 1, 8, none⟩ (.int .i64 0)).setCell ⟨w.heap.size + 1, 9, none⟩ (.string ⟨#[]⟩)).setCell ⟨w.heap.size + 1, 10, none⟩ (.slice (some ⟨n9, 0, none⟩) 3 3) := ⟨_, rfl⟩
        have hP : W' = putL W (w.heap.size + 1) 0 [.int .i64 7, .int .i64 0, .int .i64 0, .string ⟨#[]⟩, .string ⟨#[]⟩, .string ⟨#[]⟩, .int .i64 0, .int .i64 0, .int .i64 0, .string ⟨#[]⟩, .slice (some ⟨n9, 0, none⟩) 3 3] := hW'
        refine wp_skip (w' := W') ?_ ⟨undef, rfl, ⟨trivial, fun e => absurd e (by decide), fun e => absurd e (by decide), fun e => absurd e (by decide)⟩, fun j u hd => ⟨hd.1, fun e => by obtain ⟨n4, ev, p_n4, f_n4⟩ := hd.2.1 e; exact ⟨n4, ev, p_n4, (by rw [hP]; exact (putL_other (by omega) _ _ _).trans (f_n4))⟩, fun e => by obtain ⟨n4, ev, p_n4, f_n4⟩ := hd.2.2.1 e; exact ⟨n4, ev, p_n4, (by rw [hP]; exact (putL_other (by omega) _ _ _).trans (f_n4))⟩, fun e => by obtain ⟨n9, n4, ev, p_n9, f_n9, p_n4, f_n4⟩ := hd.2.2.2 e; exact ⟨n9, n4, ev, p_n9, (by rw [hP]; exact (putL_other (by omega) _ _ _).trans (f_n9)), p_n4, (by rw [hP]; exact (putL_other (by omega) _ _ _).trans (f_n4))⟩⟩, (by rw [hP]; exact putL_below (by omega) _ _ _ g1), Nat.le_trans g0 (by rw [hP]; exact (putL_below (B := 0) (w0 := W) (Nat.zero_le _) _ _ _ (Below.refl _ _)).size), (by rw [hP]; exact (putL_other (by omega) _ _ _).trans (b0)), (by rw [hP]; exact (putL_other (by omega) _ _ _).trans (b1)), ⟨fun e7 => absurd ((set_this_get (i := 10) (n := 11) hsz (by decide)).symm.trans e7) (by decide), fun _ => ⟨n9, n4, (by rw [hP]; exact putL_same c_ _ rfl), p_n9, (by rw [hP]; exact (putL_other (by omega) _ _ _).trans (f_n9)), p_n4, (by rw [hP]; exact (putL_other (by omega) _ _ _).trans (f_n4))⟩⟩, (by simp only [set_other_get (show 10 ≠ 5 by decide), set_other_get (show 10 ≠ 8 by decide), set_other_get (show 10 ≠ 9 by decide)]; exact (by rw [hP]; exact (putL_other (by omega) _ _ _).trans (bc))), (fun c h1 h2 h3 => (by rw [hP]; exact (putL_other h3 _ _ _).trans (gr c h1 h2 h3)))⟩
        rw [hW']
        clear hP hW'
        unfold execOp
        simp [e5, e58, c0, c1, c2, c3, c4, c5, c6, c7, c8, c9, c10, cf, go_sem]
    · intro v W3 hv hs hg
      obtain ⟨u1, u0, y0, y1, y2, yc, yr⟩ := hg
      obtain ⟨n9, n4, z1, z2, z3, z4, z5⟩ := y2.2 rfl
      have yc' : W3.heap[lb]? = some (.cells #[m1, m2, m3, .int .i64 ((p + 3 : Nat) : Int), .int .i64 0] 49) := yc
      clear hv hs yc y2 CC CN CD HL1c
      gi_wp2
      refine ⟨⟨u0, fun k o hk h0 ho => (yr k (Array.getElem?_eq_some_iff.1 h0).1 (by omega) (by omega)).trans h0⟩, ⟨yr _ (by omega) (by omega) (by omega), yr b (by omega) hbl (by omega)⟩, p + 3, _, yc', z1, y0, (yr _ (by omega) (by omega) (by omega)).trans HR1.out, fun c hc hn => (yr c (by omega) hn (by omega)).trans (HO1.out c hc hn), HB1.out.trans u1, Nat.le_trans g7 u0, .inr ⟨rfl, rfl, n9, n4, rfl, Nat.le_trans g7 z2, z3, Nat.le_trans g7 z4, z5⟩⟩
  case done =>
    rintro D ys W hD hS hI hK
    obtain ⟨q, Bd, g1, g2', g3, g4, g5, g6, g7, g8⟩ := hI
    obtain ⟨e1, e2, n9, n4, rfl, z2, z3, z4, z5⟩ : ys.length = 1 ∧ q = p + 3 ∧ ∃ n9 n4 : Nat, Bd = #[.int .i64 7, .int .i64 0, .int .i64 0, .string ⟨#[]⟩, .string ⟨#[]⟩, .string ⟨#[]⟩, .int .i64 0, .int .i64 0, .int .i64 0, .string ⟨#[]⟩, .slice (some ⟨n9, 0, none⟩) 3 3] ∧ W0.heap.size ≤ n9 ∧ W.heap[n9]? = some (.cells #[.int .i64 8, .int .i64 0, .int .i64 0, .string ⟨#[]⟩, .string ⟨#[98, 111, 111, 108, 101, 97, 110]⟩, .string ⟨#[]⟩, .int .i64 0, .int .i64 0, .int .i64 0, .string ⟨#[]⟩, .slice (some ⟨n4, 0, none⟩) 1 1, .int .i64 (k2), .int .i64 (i2.kind), .int .i64 (i2.n), .string i2.s, .string nm2, .string at2, .int .i64 (g2), .int .i64 (ax2), .int .i64 (tk2), .string tn2, .slice aa2 am2 ac2, .int .i64 3, .int .i64 0, .int .i64 0, .string ⟨#[]⟩, .string ⟨#[]⟩, .string ⟨#[]⟩, .int .i64 0, .int .i64 0, .int .i64 0, .string ⟨#[]⟩, .slice none 0 0] 39) ∧ W0.heap.size ≤ n4 ∧ W.heap[n4]? = some (.cells #[.int .i64 (cv.k), .int .i64 (cv.it.kind), .int .i64 (cv.it.n), .string cv.it.s, .string cv.nm, .string cv.at_, .int .i64 (cv.n), .int .i64 (cv.ax), .int .i64 (cv.tk), .string cv.tn, .slice cv.aa cv.am cv.ac] 39) := by
      rcases g8 with h | h
      · exfalso; rw [h.1] at hS; have := congrArg List.length hS; rw [dn_length] at this; cases this
      · exact h
    obtain rfl : p + 3 = q := e2.symm
    have HK2 := hidC hK
    have HR2 := hidC g4
    obtain ⟨c0, c1, c2, c3, c4, c5, c6, c7, c8, c9, c10, _, _⟩ := bk11 g2'
    obtain ⟨r0, r1, r2, r3, r4, r5, r6, r7, r8, r9, r10, rf, _⟩ := bk11 g4
    have HL2 := hidC g1
    have HO2 := hidC g5
    have HB2 := hidC g6
    have HZ3 := hidC z3
    have HZ5 := hidC z5
    clear g1 g2' g3 g4 g5 g6 g8 hK z3 z5
    gi_wp2
    obtain ⟨W2, hW2⟩ : ∃ V, V = (((((((((((W).setCell ⟨w.heap.size + 1 + 1, 0, none⟩ (.int .i64 7)).setCell ⟨w.heap.size + 1 + 1, 1, none⟩ (.int .i64 0)).setCell ⟨w.heap.size + 1 + 1, 2, none⟩ (.int .i64 0)).setCell ⟨w.heap.size + 1 + 1, 3, none⟩ (.string ⟨#[]⟩)).setCell ⟨w.heap.size + 1 + 1, 4, none⟩ (.string ⟨#[]⟩)).setCell ⟨w.heap.size + 1 + 1, 5, none⟩ (.string ⟨#[]⟩)).setCell ⟨w.heap.size + 1 + 1, 6, none⟩ (.int .i64 0)).setCell ⟨w.heap.size + 1 + 1, 7, none⟩ (.int .i64 0)).setCell ⟨w.heap.size + 1 + 1, 8, none⟩ (.int .i64 0)).setCell ⟨w.heap.size + 1 + 1, 9, none⟩ (.string ⟨#[]⟩)).setCell ⟨w.heap.size + 1 + 1, 10, none⟩ (.slice (some ⟨n9, 0, none⟩) 3 3) := ⟨_, rfl⟩
    have hP : W2 = putL W (w.heap.size + 2) 0 [.int .i64 7, .int .i64 0, .int .i64 0, .string ⟨#[]⟩, .string ⟨#[]⟩, .string ⟨#[]⟩, .int .i64 0, .int .i64 0, .int .i64 0, .string ⟨#[]⟩, .slice (some ⟨n9, 0, none⟩) 3 3] := hW2
    have HK3 : W2.heap[D]? = some (.deferred (some [])) := by rw [hP]; exact (putL_other (by omega) _ _ _).trans HK2.out
    have HR3 : W2.heap[w.heap.size + 2]? = some (.cells #[.int .i64 7, .int .i64 0, .int .i64 0, .string ⟨#[]⟩, .string ⟨#[]⟩, .string ⟨#[]⟩, .int .i64 0, .int .i64 0, .int .i64 0, .string ⟨#[]⟩, .slice (some ⟨n9, 0, none⟩) 3 3] 39) := by rw [hP]; exact putL_same HR2.out _ rfl
    have hO3 : ∀ c, c ≠ w.heap.size + 2 → W2.heap[c]? = W.heap[c]? := fun c h => by rw [hP]; exact putL_other h _ _ _
    have hB3 : Below lb w W2 := by rw [hP]; exact putL_below (by omega) _ _ _ HB2.out
    rw [← hW2]
    clear hW2 hP
    refine ⟨by simp, .inl ⟨_, _, rfl, run_takeDeferred HK3, ?_⟩⟩
    have hD3 : ∀ c, c ≠ D → (W2.putObj D (.deferred none)).heap[c]? = W2.heap[c]? := fun c h => World.putObj_heap_other h
    have h9D : n9 ≠ D := fun e => by have := HZ3.out; rw [e, HK2.out] at this; cases this
    have h4D : n4 ≠ D := fun e => by have := HZ5.out; rw [e, HK2.out] at this; cases this
    have hz4 : lb ≤ W2.heap.size := Nat.le_trans (Nat.le_of_lt l6) hB3.size
    obtain ⟨y0, y1, y2, y3, y4, y5, y6, y7, y8, y9, y10, _, _⟩ := bk11 ((hD3 (w.heap.size + 2) (by omega)).trans HR3)
    refine ⟨.agg #[.int .i64 7, .int .i64 0, .int .i64 0, .string ⟨#[]⟩, .string ⟨#[]⟩, .string ⟨#[]⟩, .int .i64 0, .int .i64 0, .int .i64 0, .string ⟨#[]⟩, .slice (some ⟨n9, 0, none⟩) 3 3], by simp [results, Tryd.results43, go_sem, y0, y1, y2, y3, y4, y5, y6, y7, y8, y9, y10], ?_⟩
    exact ⟨n9, n4, rfl, ⟨(hD3 lb (by omega)).trans ((hO3 lb (by omega)).trans HL2.out), fun c hc hn => (hD3 c (by omega)).trans ((hO3 c (by omega)).trans (HO2.out c hc hn)), hB3.grown (grownBy_putObj' W2 D _) hz4 (fun k e => by cases e; omega)⟩, by omega, (hD3 n9 h9D).trans ((hO3 n9 (by omega)).trans HZ3.out), by omega, (hD3 n4 h4D).trans ((hO3 n4 (by omega)).trans HZ5.out)⟩
  case stop =>
    rintro D c pre W _ _ h _
    exact h.elim
end Go.Proofs.YtkhlfdnlpimojaaDoor
