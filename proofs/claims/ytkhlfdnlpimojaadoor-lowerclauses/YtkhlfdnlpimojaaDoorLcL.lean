/-
  CONTRACTS of package core: flwor: a ForIn, a Where, an OrderBy, each of a Lit, around a Lit.
-/
import Derived.Test.YtkhlfdnlpimojaaDoorLcK
import Derived.Test.YtkhlfdnlpimojaaDoorCfPlus
import Derived.Test.YtkhlfdnlpimojaaDoorCkScope
import Derived.Test.YtkhlfdnlpimojaaDoorUnroll
set_option linter.unusedVariables false
namespace Go.Proofs.YtkhlfdnlpimojaaDoor
set_option maxRecDepth 100000
open Go.RowKit Go.WideShapes Go.Shelf
attribute [local go_sem] Oper.semAt_some

theorem infoCl : (Tryd.prog.info? 82).map (fun i => (i.zero, i.size, i.bytes)) = some (some (.agg #[.pointer none, .int .i64 0, .int .i64 0, .int .i64 0, .string ByteArray.empty, .string ByteArray.empty, .string ByteArray.empty, .int .i64 0, .int .i64 0, .int .i64 0, .string ByteArray.empty, .slice none 0 0]), 12, 144) := by kernel_rfl
def clC (cb co : Nat) (it : It) (jj : Nat) : List Value := [.pointer (some ⟨cb, co + jj * 15, none⟩), .int .i64 1, .int .i64 (it.kind), .int .i64 (it.n), .string it.s, .string ⟨#[]⟩, .string ⟨#[]⟩, .int .i64 0, .int .i64 0, .int .i64 0, .string ⟨#[]⟩, .slice none 0 0]
def clCells (cb co : Nat) (it : It) (n : Nat) : List Value := (List.range n).flatMap (clC cb co it)
theorem clCells_snoc (cb co : Nat) (it : It) (n : Nat) : clCells cb co it (n + 1) = clCells cb co it n ++ clC cb co it n := by simp [clCells, List.range_succ]
theorem clC_in {w : World} (cb co : Nat) (it : It) (jj : Nat) : ∀ i u, (clC cb co it jj)[i]? = some u → (w.alloc (.cells #[.pointer (some ⟨cb, co + jj * 15, none⟩), .int .i64 1, .int .i64 (it.kind), .int .i64 (it.n), .string it.s, .string ⟨#[]⟩, .string ⟨#[]⟩, .int .i64 0, .int .i64 0, .int .i64 0, .string ⟨#[]⟩, .slice none 0 0] 82)).cell? ((⟨w.heap.size, 0, none⟩ : Addr).add i) = some u := by
  intro i u hi
  have h12 : i < 12 := (List.getElem?_eq_some_iff.1 hi).1
  rw [show ((⟨w.heap.size, 0, none⟩ : Addr).add i) = ⟨w.heap.size, i, none⟩ by simp [Addr.add]; exact fun h => h.symm, Lib.cell_of_heap (aNew rfl)]
  rw [← hi]
  simp [clC]
theorem clC_one (cb co : Nat) (it : It) (j : Nat) : ∀ u ∈ clC cb co it j, u.oneCell' = true := by
  intro u hu
  simp [clC] at hu
  rcases hu with rfl | rfl | rfl | rfl | rfl | rfl | rfl | rfl | rfl <;> rfl
theorem ownsRow_kept {w w' : World} {base : Nat} {e : TypeId} {size : Nat} {v : Value} {n : Nat} {xs : List Value} (h : w.ownsRow base e size v n xs) (hk : ∀ b, base ≤ b → b < w.heap.size → w'.heap[b]? = w.heap[b]?) : w'.ownsRow base e size v n xs := by
  obtain ⟨h1, h2⟩ := h
  refine ⟨h1, ?_⟩
  rcases h2 with h2 | ⟨g, cap, cur, k1, k2, k3, k4⟩
  · exact .inl h2
  · exact .inr ⟨g, cap, cur, k1, k2, (hk g k2 (Array.getElem?_eq_some_iff.1 k3).1).trans k3, k4⟩
theorem grown_kept {X Y : World} {row : Option Nat} {b : Nat} {o : Obj} (h : X.heap[b]? = some o) (hg : X.grownBy Y row) (hr : ∀ r, row = some r → r ≠ b) : Y.heap[b]? = some o :=
  (hg.block b (Array.getElem?_eq_some_iff.1 h).1 (fun e => hr b e.symm rfl)).trans h
theorem txts2 {W : World} {b : Nat} {x y : ByteArray} {T : TypeId} (h : W.heap[b]? = some (.cells #[.string x, .string y] T)) : TxtsL W (.slice (some ⟨b, 0, none⟩) 2 2) [x, y] :=
  ⟨b, 0, 2, rfl, Nat.le_refl _, by unfold maxLen; omega, (Array.getElem?_eq_some_iff.1 h).1, fun i hi => by
    match i, hi with
    | 0, _ => rw [Lib.cell_of_heap h]; rfl
    | 1, _ => rw [Lib.cell_of_heap h]; rfl⟩
theorem namesOf_for' (b off : Nat) (nm a : ByteArray) (w : World) (h : ClAt w b off 1 nm a) :
    Calls Tryd.prog 41 #[.pointer (some ⟨b, off, none⟩)] w fun e w' => ∃ n6, e = .returned (.slice (some ⟨n6, 0, none⟩) 2 2) ∧ Below w.heap.size w w' ∧ w.heap.size ≤ n6 ∧ w'.heap[n6]? = some (.cells #[.string nm, .string a] 9) :=
  (namesOf_for b off nm a w h).mono (by
    rintro e w' ⟨n0, rfl, rfl⟩
    exact ⟨w.heap.size, rfl, (show Below w.heap.size w (w.drewN n0) from ⟨rfl, rfl, rfl, Nat.le_refl _, fun _ _ => rfl⟩).alloc (Nat.le_refl _) _, Nat.le_refl _, aNew (by simp)⟩)
theorem enter_nil (M : Nat) (w : World) : Calls Tryd.prog 33 #[.map (some M), .slice none 0 0] w fun e w' => e = .returned (.tuple #[]) ∧ w' = w := by
  go_enter Tryd.func33, Tryd.ntmps33
  go_wp2
  refine LoopN.wp 1 (LoopN.next ?_)
  go_wp2
  go_end0
  exact ⟨rfl, rfl⟩
theorem leave_nil (M : Nat) (w : World) : Calls Tryd.prog 34 #[.map (some M), .slice none 0 0] w fun e w' => e = .returned (.tuple #[]) ∧ w' = w := by
  go_enter Tryd.func34, Tryd.ntmps34
  go_wp2
  refine LoopN.wp 1 (LoopN.next ?_)
  go_wp2
  go_end0
  exact ⟨rfl, rfl⟩
theorem ClAt.block {w w' : World} {b off : Nat} {k : Int} {nm a : ByteArray} (h : ClAt w b off k nm a) (e : w'.heap[b]? = w.heap[b]?) : ClAt w' b off k nm a := ⟨(cellq e).trans h.c0, (cellq e).trans h.c1, (cellq e).trans h.c2, h.s1, h.s2⟩
/-- between two rounds of flwor's first loop -/
def FlI (lb sb : Nat) (m1 m2 : Value) (N : ByteArray → Nat) (p B0 : Nat) (it : It) (nmf atf : ByteArray) (cb co : Nat) (w : World) (jj : Nat) (v : Value) (wr : World) : Prop :=
  wr.heap[lb]? = some (.cells #[m1, m2, .map (some sb), .int .i64 ((p + jj : Nat) : Int), .int .i64 0] 49) ∧ SMap wr sb (fun y => N y + (if jj = 0 then 0 else cntE [nmf, atf] y)) ∧ (∀ c, c < w.heap.size → c ≠ lb → c ≠ sb → wr.heap[c]? = w.heap[c]?) ∧ Below B0 w wr ∧ w.heap.size < wr.heap.size ∧ wr.heap[w.heap.size]? = some (.cells #[.int .i64 0, .int .i64 0, .int .i64 0, .string ⟨#[]⟩, .string ⟨#[]⟩, .string ⟨#[]⟩, .int .i64 0, .int .i64 0, .int .i64 0, .string ⟨#[]⟩, .slice none 0 0] 39) ∧ wr.ownsRow (w.heap.size + 1) 82 12 v jj (clCells cb co it jj)
/-- between two rounds of flwor's second loop -/
def FlJ (sb : Nat) (N : ByteArray → Nat) (B0 : Nat) (nmf atf : ByteArray) (W2 : World) (jj : Nat) (wr : World) : Prop :=
  SMap wr sb (fun y => N y + (if jj = 0 then cntE [nmf, atf] y else 0)) ∧ (∀ c, c < W2.heap.size → c ≠ sb → wr.heap[c]? = W2.heap[c]?) ∧ Below B0 W2 wr ∧ W2.heap.size ≤ wr.heap.size
/-- what flwor answers, and where it lies -/
def FlT (lb sb : Nat) (m1 m2 : Value) (p B0 : Nat) (it : It) (nmf atf : ByteArray) (w : World) (e : Ending) (w' : World) : Prop :=
  ∃ n13 n12 n100 : Nat, e = .returned (.agg #[.int .i64 6, .int .i64 0, .int .i64 0, .string ⟨#[]⟩, .string nmf, .string atf, .int .i64 0, .int .i64 0, .int .i64 0, .string ⟨#[]⟩, .slice (some ⟨n13, 0, none⟩) 3 3]) ∧ w'.heap[lb]? = some (.cells #[m1, m2, .map (some sb), .int .i64 ((p + 8 : Nat) : Int), .int .i64 0] 49) ∧ (∀ c, c < w.heap.size → c ≠ lb → c ≠ sb → w'.heap[c]? = w.heap[c]?) ∧ Below B0 w w' ∧ w.heap.size ≤ n13 ∧ w'.heap[n13]? = some (.cells #[.int .i64 1, .int .i64 (it.kind), .int .i64 (it.n), .string it.s, .string ⟨#[]⟩, .string ⟨#[]⟩, .int .i64 0, .int .i64 0, .int .i64 0, .string ⟨#[]⟩, .slice none 0 0, .int .i64 1, .int .i64 (it.kind), .int .i64 (it.n), .string it.s, .string ⟨#[]⟩, .string ⟨#[]⟩, .int .i64 0, .int .i64 0, .int .i64 0, .string ⟨#[]⟩, .slice none 0 0, .int .i64 7, .int .i64 0, .int .i64 0, .string ⟨#[]⟩, .string ⟨#[]⟩, .string ⟨#[]⟩, .int .i64 0, .int .i64 0, .int .i64 0, .string ⟨#[]⟩, .slice (some ⟨n12, 0, none⟩) 3 3] 39) ∧ w.heap.size ≤ n12 ∧ w'.heap[n12]? = some (.cells #[.int .i64 8, .int .i64 0, .int .i64 0, .string ⟨#[]⟩, .string ⟨#[98, 111, 111, 108, 101, 97, 110]⟩, .string ⟨#[]⟩, .int .i64 0, .int .i64 0, .int .i64 0, .string ⟨#[]⟩, .slice (some ⟨n100, 0, none⟩) 1 1, .int .i64 1, .int .i64 (it.kind), .int .i64 (it.n), .string it.s, .string ⟨#[]⟩, .string ⟨#[]⟩, .int .i64 0, .int .i64 0, .int .i64 0, .string ⟨#[]⟩, .slice none 0 0, .int .i64 3, .int .i64 0, .int .i64 0, .string ⟨#[]⟩, .string ⟨#[]⟩, .string ⟨#[]⟩, .int .i64 0, .int .i64 0, .int .i64 0, .string ⟨#[]⟩, .slice none 0 0] 39) ∧ w.heap.size ≤ n100 ∧ w'.heap[n100]? = some (.cells #[.int .i64 1, .int .i64 (it.kind), .int .i64 (it.n), .string it.s, .string ⟨#[]⟩, .string ⟨#[]⟩, .int .i64 0, .int .i64 0, .int .i64 0, .string ⟨#[]⟩, .slice none 0 0] 39)
theorem cv_row {w : World} {base B cap : Nat} {cb co : Nat} {it : It} (h : w.ownsRow base 82 12 (.slice (some ⟨B, 0, none⟩) 3 cap) 3 (clCells cb co it 3)) : CvAt w B 0 ⟨cb, co, 1, it, ⟨#[]⟩, ⟨#[]⟩, 0, 0, 0, ⟨#[]⟩, none, 0, 0⟩ ∧ CvAt w B 12 ⟨cb, co + 15, 1, it, ⟨#[]⟩, ⟨#[]⟩, 0, 0, 0, ⟨#[]⟩, none, 0, 0⟩ ∧ CvAt w B 24 ⟨cb, co + 30, 1, it, ⟨#[]⟩, ⟨#[]⟩, 0, 0, 0, ⟨#[]⟩, none, 0, 0⟩ :=
  ⟨⟨(World.ownsRow.cellAt h 0 (by decide)).trans rfl, (World.ownsRow.cellAt h 1 (by decide)).trans rfl, (World.ownsRow.cellAt h 2 (by decide)).trans rfl, (World.ownsRow.cellAt h 3 (by decide)).trans rfl, (World.ownsRow.cellAt h 4 (by decide)).trans rfl, (World.ownsRow.cellAt h 5 (by decide)).trans rfl, (World.ownsRow.cellAt h 6 (by decide)).trans rfl, (World.ownsRow.cellAt h 7 (by decide)).trans rfl, (World.ownsRow.cellAt h 8 (by decide)).trans rfl, (World.ownsRow.cellAt h 9 (by decide)).trans rfl, (World.ownsRow.cellAt h 10 (by decide)).trans rfl, (World.ownsRow.cellAt h 11 (by decide)).trans rfl⟩, ⟨(World.ownsRow.cellAt h 12 (by decide)).trans rfl, (World.ownsRow.cellAt h 13 (by decide)).trans rfl, (World.ownsRow.cellAt h 14 (by decide)).trans rfl, (World.ownsRow.cellAt h 15 (by decide)).trans rfl, (World.ownsRow.cellAt h 16 (by decide)).trans rfl, (World.ownsRow.cellAt h 17 (by decide)).trans rfl, (World.ownsRow.cellAt h 18 (by decide)).trans rfl, (World.ownsRow.cellAt h 19 (by decide)).trans rfl, (World.ownsRow.cellAt h 20 (by decide)).trans rfl, (World.ownsRow.cellAt h 21 (by decide)).trans rfl, (World.ownsRow.cellAt h 22 (by decide)).trans rfl, (World.ownsRow.cellAt h 23 (by decide)).trans rfl⟩, ⟨(World.ownsRow.cellAt h 24 (by decide)).trans rfl, (World.ownsRow.cellAt h 25 (by decide)).trans rfl, (World.ownsRow.cellAt h 26 (by decide)).trans rfl, (World.ownsRow.cellAt h 27 (by decide)).trans rfl, (World.ownsRow.cellAt h 28 (by decide)).trans rfl, (World.ownsRow.cellAt h 29 (by decide)).trans rfl, (World.ownsRow.cellAt h 30 (by decide)).trans rfl, (World.ownsRow.cellAt h 31 (by decide)).trans rfl, (World.ownsRow.cellAt h 32 (by decide)).trans rfl, (World.ownsRow.cellAt h 33 (by decide)).trans rfl, (World.ownsRow.cellAt h 34 (by decide)).trans rfl, (World.ownsRow.cellAt h 35 (by decide)).trans rfl⟩⟩
set_option maxHeartbeats 6400000 in
theorem flwor_three (lb sb : Nat) (m1 m2 : Value) (N : ByteArray → Nat) (p B0 : Nat) (it pit : It) (nmf atf pnm : ByteArray) (pn pax ptk : Int) (ptn : ByteArray) (pb po ab ao ac cb co cc : Nat) (K : Nat → Int) (NN AA : Nat → ByteArray) (w : World)
    (hl : w.heap[lb]? = some (.cells #[m1, m2, .map (some sb), .int .i64 ((p : Nat) : Int), .int .i64 0] 49)) (hp : p + 8 ≤ 700) (hS : SMap w sb N) (hN : ∀ y, N y ≤ 4000) (hsl : sb ≠ lb) (hB1 : B0 ≤ lb) (hB2 : B0 ≤ sb) (hTB : ∀ W, Below B0 w W → Tabs W)
    (hph : PhAt w pb po 28 pit pnm pn pax ptk ptn (.slice (some ⟨ab, ao, none⟩) 1 ac) (.slice (some ⟨cb, co, none⟩) 3 cc)) (hpb : pb < w.heap.size) (hpl : pb ≠ lb) (hps : pb ≠ sb)
    (hcl : ∀ jj, jj < 3 → ClAt w cb (co + jj * 15) (K jj) (NN jj) (AA jj)) (hce : ∀ jj, jj < 3 → ∃ nm n ax tk tn cv, PhAt w cb (co + jj * 15 + 4) 1 it nm n ax tk tn (.slice none 0 0) cv) (hcb : cb < w.heap.size) (hcbl : cb ≠ lb) (hcbs : cb ≠ sb)
    (hbe : ∃ nm n ax tk tn cv, PhAt w ab ao 1 it nm n ax tk tn (.slice none 0 0) cv) (hab : ab < w.heap.size) (habl : ab ≠ lb) (habs : ab ≠ sb)
    (hK0 : K 0 = 1) (hK1 : K 1 = 3) (hK2 : K 2 = 4) (hn0 : NN 0 = nmf) (ha0 : AA 0 = atf) (hnf : nmf.size ≤ 4000) (haf : atf.size ≤ 4000) (hdn : w.cell? ⟨cb, co + 33, none⟩ = some (.bool false)) (hits : it.s.size ≤ 4000) (hlit : litF it = 0) :
    Calls Tryd.prog 17 #[.pointer (some ⟨lb, 0, none⟩), .pointer (some ⟨pb, po, none⟩)] w fun e w' => FlT lb sb m1 m2 p B0 it nmf atf w e w' := by
  have l6 : lb < w.heap.size := (Array.getElem?_eq_some_iff.1 hl).1
  have s6 : sb < w.heap.size := hS.lt
  have HL := hidC hl
  have HS := hidC hS
  have HP := hidC hph
  have HCL := hidC hcl
  have HCE := hidC hce
  have HBE := hidC hbe
  have HTB := hidC hTB
  have HN := hidC hN
  have HDN := hidC hdn
  have HLN : Hid (∀ x ∈ [nmf, atf], x.size ≤ maxLen) := fun x hx => by simp at hx; unfold maxLen; rcases hx with rfl | rfl <;> omega
  have HNN : Hid (∀ y, N y + [nmf, atf].length ≤ 4611686018427387904) := fun y => by have := HN.out y; simp; omega
  obtain ⟨i0, hi0, hz0, hz1, hz2⟩ := info_parts infoCl
  have hcc := hph.c10
  have HK0 := hidC hK0
  have HK1 := hidC hK1
  have HK2 := hidC hK2
  have HN0 := hidC hn0
  have HA0 := hidC ha0
  have HLT := hidC hlit
  clear hl hS hph hcl hce hbe hTB hN hdn hK0 hK1 hK2 hn0 ha0 hlit
  go_enter Tryd.func17, Tryd.ntmps17
  go_wp2
  go_loopw [5, 16] (fun v i wr => ∃ j : Nat, j ≤ 3 ∧ i = .int .i64 j ∧ FlI lb sb m1 m2 N p B0 it nmf atf cb co w j v wr) (fun _ i _ => 3 - (intOf i).toNat)
  case atStart =>
    exact ⟨0, by decide, rfl, aOld HL.out, (HS.out.keep (Below.heap_alloc _ _ _ s6)).congr (fun y => by simp), fun c hc _ _ => Below.heap_alloc _ _ _ hc, ((Below.refl _ w).alloc (by omega) _), by simp, aNew rfl, World.ownsRow_nil _ _ _ _⟩
  case round =>
    obtain ⟨jj, hj, rfl, hI⟩ := hrel
    have HI := hidC hI
    have hsh := own_shape hI.2.2.2.2.2.2
    obtain ⟨va, vc, rfl⟩ := hsh
    have hzr := hI.2.2.2.2.1
    clear hI hcc
    by_cases hlt : jj < 3
    · have hj0 : ¬ (jj : Int) < 0 := by omega
      have hj3 : (jj : Int) < 3 := by omega
      go_wp2
      obtain ⟨g1, g2, g3, g4, g5, g6, g7⟩ := HI.out
      have HL1 := hidC g1
      have HS1 := hidC g2
      have HM1 := hidC g3
      have HB1 := hidC g4
      have HR1 := hidC g6
      have HV1 := hidC g7
      obtain ⟨obp, hobp⟩ : ∃ o, wr.heap[pb]? = some o := ⟨_, Array.getElem?_eq_getElem (by omega)⟩
      have HOP := hidC hobp
      have PC := hidC ((cellq (o := po + 10) (g3 pb hpb hpl hps)).trans HP.out.c10)
      have HLc : wr.heap[lb]? = some (.cells #[m1, m2, .map (some sb), .int .i64 ((p + jj + one ((Array.replicate 18 false).getD 14 false) : Nat) : Int), .int .i64 0] 49) := g1
      have CE : Hid (∀ (W : World) (c : Nat), W.heap[lb]? = some (.cells #[m1, m2, .map (some sb), .int .i64 ((c : Nat) : Int), .int .i64 0] 49) → c + 1 ≤ 700 → (∀ x, x < wr.heap.size → x ≠ lb → W.heap[x]? = wr.heap[x]?) → wr.heap.size ≤ W.heap.size → Below lb wr W → Calls Tryd.prog 9 #[.pointer (some ⟨lb, 0, none⟩), .pointer (some ⟨cb, co + jj * 15 + 4, none⟩)] W fun e w' => e = .returned (.agg #[.int .i64 1, .int .i64 (it.kind), .int .i64 (it.n), .string it.s, .string ⟨#[]⟩, .string ⟨#[]⟩, .int .i64 0, .int .i64 0, .int .i64 0, .string ⟨#[]⟩, .slice none 0 0]) ∧ Kp lb m1 m2 (.map (some sb)) (c + 1) W w') := fun W c h1 h2 h3 h4 h5 => by
        obtain ⟨nm, n, ax, tk, tn, cv, hq⟩ := HCE.out jj hlt
        exact expr_lit lb cb (co + jj * 15 + 4) m1 m2 _ c it nm n ax tk tn none 0 cv W h1 h2 (hq.block ((h3 cb (by omega) hcbl).trans (HM1.out cb hcb hcbl hcbs))) (by omega) hcbl hits (HTB.out W (HB1.out.trans (h5.mono hB1))) HLT.out
      clear g1 g2 g3 g4 g6 g7 hobp
      refine wp_region_slots (by kernel_rfl) (fun j v W => (match j with | 0 => v = (.pointer (some ⟨pb, po, none⟩)) | 1 => v = (.pointer (some ⟨pb, po, none⟩)) | 2 => v = (.pointer (some ⟨pb, po + 10, none⟩)) | 3 => v = (.slice (some ⟨cb, co, none⟩) 3 cc) | 4 => v = (.int .i64 (((jj : Nat) : Int))) | 5 => v = (.pointer (some ⟨cb, co + jj * 15, none⟩)) | 6 => v = (.pointer (some ⟨lb, 0, none⟩)) | 7 => v = (.pointer (some ⟨pb, po, none⟩)) | 8 => v = (.pointer (some ⟨pb, po, none⟩)) | 9 => v = (.pointer (some ⟨pb, po + 10, none⟩)) | 10 => v = (.slice (some ⟨cb, co, none⟩) 3 cc) | 11 => v = (.int .i64 (((jj : Nat) : Int))) | 12 => v = (.pointer (some ⟨cb, co + jj * 15, none⟩)) | 13 => v = (.pointer (some ⟨cb, co + jj * 15 + 4, none⟩)) | 14 => v = (.agg #[.int .i64 1, .int .i64 (it.kind), .int .i64 (it.n), .string it.s, .string ⟨#[]⟩, .string ⟨#[]⟩, .int .i64 0, .int .i64 0, .int .i64 0, .string ⟨#[]⟩, .slice none 0 0]) | 15 => v = (.agg #[.pointer (some ⟨cb, co + jj * 15, none⟩), .int .i64 1, .int .i64 (it.kind), .int .i64 (it.n), .string it.s, .string ⟨#[]⟩, .string ⟨#[]⟩, .int .i64 0, .int .i64 0, .int .i64 0, .string ⟨#[]⟩, .slice none 0 0]) | _ => True)) (fun l a W => Below lb wr W ∧ wr.heap.size ≤ W.heap.size ∧ W.heap[pb]? = some (obp) ∧ W.heap[lb]? = some (.cells #[m1, m2, .map (some sb), .int .i64 (((p + jj + one (l.getD 14 false)) : Nat) : Int), .int .i64 0] 49) ∧ (∀ c, c < wr.heap.size → c ≠ lb → W.heap[c]? = wr.heap[c]?) ∧ (l.getD 16 false = true → ∃ T16, a.tmps[7]? = some (.pointer (some ⟨T16, 0, none⟩)) ∧ wr.heap.size ≤ T16 ∧ W.heap[T16]? = some (if l.getD 17 false = true then (.cells #[.pointer (some ⟨cb, co + jj * 15, none⟩), .int .i64 1, .int .i64 (it.kind), .int .i64 (it.n), .string it.s, .string ⟨#[]⟩, .string ⟨#[]⟩, .int .i64 0, .int .i64 0, .int .i64 0, .string ⟨#[]⟩, .slice none 0 0] 82) else (.cells #[.pointer none, .int .i64 0, .int .i64 0, .int .i64 0, .string ⟨#[]⟩, .string ⟨#[]⟩, .string ⟨#[]⟩, .int .i64 0, .int .i64 0, .int .i64 0, .string ⟨#[]⟩, .slice none 0 0] 82)))) (by kernel_rfl) (by kernel_rfl) ⟨(Below.refl _ _).trans ⟨rfl, rfl, rfl, Nat.le_refl _, fun _ _ => rfl⟩, Nat.le_refl _, HOP.out, HLc, fun c _ _ => rfl, fun e7 => by rw [Array.getD_eq_getD_getElem?, Array.getElem?_replicate] at e7; split at e7 <;> cases e7⟩ ?_ ?_
      · intro l a W i o hsz h ho hl haf
        obtain ⟨g1, g0, b0, bc, gr, q16⟩ := h.more
        have gz : lb ≤ W.heap.size := Nat.le_trans (by first | exact Nat.le_refl _ | omega) g0
        have hi : i < 18 := (Array.getElem?_eq_some_iff.1 ho).1
        obtain rfl | rfl | rfl | rfl | rfl | rfl | rfl | rfl | rfl | rfl | rfl | rfl | rfl | rfl | rfl | rfl | rfl | rfl : i = 0 ∨ i = 1 ∨ i = 2 ∨ i = 3 ∨ i = 4 ∨ i = 5 ∨ i = 6 ∨ i = 7 ∨ i = 8 ∨ i = 9 ∨ i = 10 ∨ i = 11 ∨ i = 12 ∨ i = 13 ∨ i = 14 ∨ i = 15 ∨ i = 16 ∨ i = 17 := by omega
        all_goals (obtain rfl := Option.some.inj ho; rw [if_pos (want_none rfl)])
        · have e1 := h.given 1 _ rfl (by kernel_rfl)
          refine wp_val (v := .pointer (some ⟨pb, po, none⟩)) (w' := W) ?_ ⟨_, rfl, rfl, fun _ _ h => h, g1, g0, b0, (by simp only [set_other_get (show 0 ≠ 14 by decide)]; exact bc), (fun c h1 h2 => gr c h1 h2), (fun e7 => by rw [set_other_get (by decide)] at e7; obtain ⟨T, t1, t2, t3⟩ := q16 e7; exact ⟨T, (put_other (by decide)).trans t1, t2, by simp only [set_other_get (show 0 ≠ 17 by decide)]; exact t3⟩)⟩
          unfold execOp
          simp [e1, go_sem]
        · obtain ⟨u19, e19, x19⟩ := h.new 0 _ 19 rfl rfl (haf ⟨0, .data⟩ (by simp) rfl)
          have y19 : u19 = (.pointer (some ⟨pb, po, none⟩)) := x19
          subst y19
          refine wp_val (v := .pointer (some ⟨pb, po, none⟩)) (w' := W) ?_ ⟨_, rfl, rfl, fun _ _ h => h, g1, g0, b0, (by simp only [set_other_get (show 1 ≠ 14 by decide)]; exact bc), (fun c h1 h2 => gr c h1 h2), (fun e7 => by rw [set_other_get (by decide)] at e7; obtain ⟨T, t1, t2, t3⟩ := q16 e7; exact ⟨T, (put_other (by decide)).trans t1, t2, by simp only [set_other_get (show 1 ≠ 17 by decide)]; exact t3⟩)⟩
          unfold execOp
          simp [e19, go_sem]
        · obtain ⟨u20, e20, x20⟩ := h.new 1 _ 20 rfl rfl (haf ⟨1, .data⟩ (by simp) rfl)
          have y20 : u20 = (.pointer (some ⟨pb, po, none⟩)) := x20
          subst y20
          refine wp_val (v := .pointer (some ⟨pb, po + 10, none⟩)) (w' := W) ?_ ⟨_, rfl, rfl, fun _ _ h => h, g1, g0, b0, (by simp only [set_other_get (show 2 ≠ 14 by decide)]; exact bc), (fun c h1 h2 => gr c h1 h2), (fun e7 => by rw [set_other_get (by decide)] at e7; obtain ⟨T, t1, t2, t3⟩ := q16 e7; exact ⟨T, (put_other (by decide)).trans t1, t2, by simp only [set_other_get (show 2 ≠ 17 by decide)]; exact t3⟩)⟩
          unfold execOp
          simp [e20, go_sem]
        · obtain ⟨u21, e21, x21⟩ := h.new 2 _ 21 rfl rfl (haf ⟨2, .data⟩ (by simp) rfl)
          have y21 : u21 = (.pointer (some ⟨pb, po + 10, none⟩)) := x21
          subst y21
          have c_ := b0
          have c_1 := (cellq (o := po + 10) (c_.trans HOP.out.symm)).trans PC.out
          refine wp_val (v := .slice (some ⟨cb, co, none⟩) 3 cc) (w' := W) ?_ ⟨_, rfl, rfl, fun _ _ h => h, g1, g0, b0, (by simp only [set_other_get (show 3 ≠ 14 by decide)]; exact bc), (fun c h1 h2 => gr c h1 h2), (fun e7 => by rw [set_other_get (by decide)] at e7; obtain ⟨T, t1, t2, t3⟩ := q16 e7; exact ⟨T, (put_other (by decide)).trans t1, t2, by simp only [set_other_get (show 3 ≠ 17 by decide)]; exact t3⟩)⟩
          unfold execOp
          simp [e21, c_1, go_sem]
        · have e6 := h.given 6 _ rfl (by kernel_rfl)
          refine wp_val (v := .int .i64 (((jj : Nat) : Int))) (w' := W) ?_ ⟨_, rfl, rfl, fun _ _ h => h, g1, g0, b0, (by simp only [set_other_get (show 4 ≠ 14 by decide)]; exact bc), (fun c h1 h2 => gr c h1 h2), (fun e7 => by rw [set_other_get (by decide)] at e7; obtain ⟨T, t1, t2, t3⟩ := q16 e7; exact ⟨T, (put_other (by decide)).trans t1, t2, by simp only [set_other_get (show 4 ≠ 17 by decide)]; exact t3⟩)⟩
          unfold execOp
          simp [e6, go_sem]
        · obtain ⟨u22, e22, x22⟩ := h.new 3 _ 22 rfl rfl (haf ⟨3, .data⟩ (by simp) rfl)
          have y22 : u22 = (.slice (some ⟨cb, co, none⟩) 3 cc) := x22
          subst y22
          obtain ⟨u23, e23, x23⟩ := h.new 4 _ 23 rfl rfl (haf ⟨4, .data⟩ (by simp) rfl)
          have y23 : u23 = (.int .i64 (((jj : Nat) : Int))) := x23
          subst y23
          refine wp_val (v := .pointer (some ⟨cb, co + jj * 15, none⟩)) (w' := W) ?_ ⟨_, rfl, rfl, fun _ _ h => h, g1, g0, b0, (by simp only [set_other_get (show 5 ≠ 14 by decide)]; exact bc), (fun c h1 h2 => gr c h1 h2), (fun e7 => by rw [set_other_get (by decide)] at e7; obtain ⟨T, t1, t2, t3⟩ := q16 e7; exact ⟨T, (put_other (by decide)).trans t1, t2, by simp only [set_other_get (show 5 ≠ 17 by decide)]; exact t3⟩)⟩
          unfold execOp
          simp [e22, e23, go_sem, hj0, hj3]
        · have e0 := h.given 0 _ rfl (by kernel_rfl)
          refine wp_val (v := .pointer (some ⟨lb, 0, none⟩)) (w' := W) ?_ ⟨_, rfl, rfl, fun _ _ h => h, g1, g0, b0, (by simp only [set_other_get (show 6 ≠ 14 by decide)]; exact bc), (fun c h1 h2 => gr c h1 h2), (fun e7 => by rw [set_other_get (by decide)] at e7; obtain ⟨T, t1, t2, t3⟩ := q16 e7; exact ⟨T, (put_other (by decide)).trans t1, t2, by simp only [set_other_get (show 6 ≠ 17 by decide)]; exact t3⟩)⟩
          unfold execOp
          simp [e0, go_sem]
        · have e1 := h.given 1 _ rfl (by kernel_rfl)
          refine wp_val (v := .pointer (some ⟨pb, po, none⟩)) (w' := W) ?_ ⟨_, rfl, rfl, fun _ _ h => h, g1, g0, b0, (by simp only [set_other_get (show 7 ≠ 14 by decide)]; exact bc), (fun c h1 h2 => gr c h1 h2), (fun e7 => by rw [set_other_get (by decide)] at e7; obtain ⟨T, t1, t2, t3⟩ := q16 e7; exact ⟨T, (put_other (by decide)).trans t1, t2, by simp only [set_other_get (show 7 ≠ 17 by decide)]; exact t3⟩)⟩
          unfold execOp
          simp [e1, go_sem]
        · obtain ⟨u26, e26, x26⟩ := h.new 7 _ 26 rfl rfl (haf ⟨7, .data⟩ (by simp) rfl)
          have y26 : u26 = (.pointer (some ⟨pb, po, none⟩)) := x26
          subst y26
          refine wp_val (v := .pointer (some ⟨pb, po, none⟩)) (w' := W) ?_ ⟨_, rfl, rfl, fun _ _ h => h, g1, g0, b0, (by simp only [set_other_get (show 8 ≠ 14 by decide)]; exact bc), (fun c h1 h2 => gr c h1 h2), (fun e7 => by rw [set_other_get (by decide)] at e7; obtain ⟨T, t1, t2, t3⟩ := q16 e7; exact ⟨T, (put_other (by decide)).trans t1, t2, by simp only [set_other_get (show 8 ≠ 17 by decide)]; exact t3⟩)⟩
          unfold execOp
          simp [e26, go_sem]
        · obtain ⟨u27, e27, x27⟩ := h.new 8 _ 27 rfl rfl (haf ⟨8, .data⟩ (by simp) rfl)
          have y27 : u27 = (.pointer (some ⟨pb, po, none⟩)) := x27
          subst y27
          refine wp_val (v := .pointer (some ⟨pb, po + 10, none⟩)) (w' := W) ?_ ⟨_, rfl, rfl, fun _ _ h => h, g1, g0, b0, (by simp only [set_other_get (show 9 ≠ 14 by decide)]; exact bc), (fun c h1 h2 => gr c h1 h2), (fun e7 => by rw [set_other_get (by decide)] at e7; obtain ⟨T, t1, t2, t3⟩ := q16 e7; exact ⟨T, (put_other (by decide)).trans t1, t2, by simp only [set_other_get (show 9 ≠ 17 by decide)]; exact t3⟩)⟩
          unfold execOp
          simp [e27, go_sem]
        · obtain ⟨u28, e28, x28⟩ := h.new 9 _ 28 rfl rfl (haf ⟨9, .data⟩ (by simp) rfl)
          have y28 : u28 = (.pointer (some ⟨pb, po + 10, none⟩)) := x28
          subst y28
          have c_ := b0
          have c_1 := (cellq (o := po + 10) (c_.trans HOP.out.symm)).trans PC.out
          refine wp_val (v := .slice (some ⟨cb, co, none⟩) 3 cc) (w' := W) ?_ ⟨_, rfl, rfl, fun _ _ h => h, g1, g0, b0, (by simp only [set_other_get (show 10 ≠ 14 by decide)]; exact bc), (fun c h1 h2 => gr c h1 h2), (fun e7 => by rw [set_other_get (by decide)] at e7; obtain ⟨T, t1, t2, t3⟩ := q16 e7; exact ⟨T, (put_other (by decide)).trans t1, t2, by simp only [set_other_get (show 10 ≠ 17 by decide)]; exact t3⟩)⟩
          unfold execOp
          simp [e28, c_1, go_sem]
        · have e6 := h.given 6 _ rfl (by kernel_rfl)
          refine wp_val (v := .int .i64 (((jj : Nat) : Int))) (w' := W) ?_ ⟨_, rfl, rfl, fun _ _ h => h, g1, g0, b0, (by simp only [set_other_get (show 11 ≠ 14 by decide)]; exact bc), (fun c h1 h2 => gr c h1 h2), (fun e7 => by rw [set_other_get (by decide)] at e7; obtain ⟨T, t1, t2, t3⟩ := q16 e7; exact ⟨T, (put_other (by decide)).trans t1, t2, by simp only [set_other_get (show 11 ≠ 17 by decide)]; exact t3⟩)⟩
          unfold execOp
          simp [e6, go_sem]
        · obtain ⟨u29, e29, x29⟩ := h.new 10 _ 29 rfl rfl (haf ⟨10, .data⟩ (by simp) rfl)
          have y29 : u29 = (.slice (some ⟨cb, co, none⟩) 3 cc) := x29
          subst y29
          obtain ⟨u30, e30, x30⟩ := h.new 11 _ 30 rfl rfl (haf ⟨11, .data⟩ (by simp) rfl)
          have y30 : u30 = (.int .i64 (((jj : Nat) : Int))) := x30
          subst y30
          refine wp_val (v := .pointer (some ⟨cb, co + jj * 15, none⟩)) (w' := W) ?_ ⟨_, rfl, rfl, fun _ _ h => h, g1, g0, b0, (by simp only [set_other_get (show 12 ≠ 14 by decide)]; exact bc), (fun c h1 h2 => gr c h1 h2), (fun e7 => by rw [set_other_get (by decide)] at e7; obtain ⟨T, t1, t2, t3⟩ := q16 e7; exact ⟨T, (put_other (by decide)).trans t1, t2, by simp only [set_other_get (show 12 ≠ 17 by decide)]; exact t3⟩)⟩
          unfold execOp
          simp [e29, e30, go_sem, hj0, hj3]
        · obtain ⟨u31, e31, x31⟩ := h.new 12 _ 31 rfl rfl (haf ⟨12, .data⟩ (by simp) rfl)
          have y31 : u31 = (.pointer (some ⟨cb, co + jj * 15, none⟩)) := x31
          subst y31
          refine wp_val (v := .pointer (some ⟨cb, co + jj * 15 + 4, none⟩)) (w' := W) ?_ ⟨_, rfl, rfl, fun _ _ h => h, g1, g0, b0, (by simp only [set_other_get (show 13 ≠ 14 by decide)]; exact bc), (fun c h1 h2 => gr c h1 h2), (fun e7 => by rw [set_other_get (by decide)] at e7; obtain ⟨T, t1, t2, t3⟩ := q16 e7; exact ⟨T, (put_other (by decide)).trans t1, t2, by simp only [set_other_get (show 13 ≠ 17 by decide)]; exact t3⟩)⟩
          unfold execOp
          simp [e31, go_sem]
        · obtain ⟨u25, e25, x25⟩ := h.new 6 _ 25 rfl rfl (haf ⟨6, .data⟩ (by simp) rfl)
          have y25 : u25 = (.pointer (some ⟨lb, 0, none⟩)) := x25
          subst y25
          obtain ⟨u32, e32, x32⟩ := h.new 13 _ 32 rfl rfl (haf ⟨13, .data⟩ (by simp) rfl)
          have y32 : u32 = (.pointer (some ⟨cb, co + jj * 15 + 4, none⟩)) := x32
          subst y32
          have m14 : l.getD 14 false = false := by rw [Array.getD_eq_getD_getElem?] at hl ⊢; cases hx : l[14]? with | none => rfl | some bb => rw [hx] at hl; exact hl
          have o1 : one true = 1 := rfl
          have o0 : one false = 0 := rfl
          have o_14 := one_le (l.getD 14 false)
          have ob : (p + jj + one (l.getD 14 false)) + 1 ≤ 700 := by rw [m14, o0]; omega
          have oc : p + jj + one ((l.setIfInBounds 14 true).getD 14 false) = (p + jj + one (l.getD 14 false)) + 1 := by rw [set_this_get (i := 14) (n := 18) hsz (by decide), m14, o0, o1] <;> omega
          refine wp_enter (f := 9) (args := #[.pointer (some ⟨lb, 0, none⟩), .pointer (some ⟨cb, co + jj * 15 + 4, none⟩)]) (w' := W) ?_ ((CE.out W (p + jj + one (l.getD 14 false)) bc ob gr g0 g1).mono ?_)
          · unfold execOp
            simp [e25, e32, go_sem]
          · rintro e W' ⟨rfl, hk⟩
            exact ⟨_, rfl, _, rfl, rfl, fun _ _ h => h, g1.trans hk.2.2, Nat.le_trans g0 hk.2.2.size, (hk.2.1 _ (Array.getElem?_eq_some_iff.1 (b0)).1 (by omega)).trans (b0), (by rw [oc]; exact hk.1), (fun c h1 h2 => (hk.2.1 c (Nat.lt_of_lt_of_le h1 g0) h2).trans (gr c h1 h2)), (fun e7 => by rw [set_other_get (by decide)] at e7; obtain ⟨T, t1, t2, t3⟩ := q16 e7; exact ⟨T, (put_other (by decide)).trans t1, t2, by simp only [set_other_get (show 14 ≠ 17 by decide)]; exact (hk.2.1 _ (Array.getElem?_eq_some_iff.1 (t3)).1 (by omega)).trans (t3)⟩)⟩
        · obtain ⟨u24, e24, x24⟩ := h.new 5 _ 24 rfl rfl (haf ⟨5, .data⟩ (by simp) rfl)
          have y24 : u24 = (.pointer (some ⟨cb, co + jj * 15, none⟩)) := x24
          subst y24
          obtain ⟨u33, e33, x33⟩ := h.new 14 _ 33 rfl rfl (haf ⟨14, .data⟩ (by simp) rfl)
          have y33 : u33 = (.agg #[.int .i64 1, .int .i64 (it.kind), .int .i64 (it.n), .string it.s, .string ⟨#[]⟩, .string ⟨#[]⟩, .int .i64 0, .int .i64 0, .int .i64 0, .string ⟨#[]⟩, .slice none 0 0]) := x33
          subst y33
          refine wp_val (v := .agg #[.pointer (some ⟨cb, co + jj * 15, none⟩), .int .i64 1, .int .i64 (it.kind), .int .i64 (it.n), .string it.s, .string ⟨#[]⟩, .string ⟨#[]⟩, .int .i64 0, .int .i64 0, .int .i64 0, .string ⟨#[]⟩, .slice none 0 0]) (w' := W) ?_ ⟨_, rfl, rfl, fun _ _ h => h, g1, g0, b0, (by simp only [set_other_get (show 15 ≠ 14 by decide)]; exact bc), (fun c h1 h2 => gr c h1 h2), (fun e7 => by rw [set_other_get (by decide)] at e7; obtain ⟨T, t1, t2, t3⟩ := q16 e7; exact ⟨T, (put_other (by decide)).trans t1, t2, by simp only [set_other_get (show 15 ≠ 17 by decide)]; exact t3⟩)⟩
          unfold execOp
          simp [e24, e33, go_sem]
        · have m17 := h.later 17 16 _ ⟨16, .phase⟩ rfl (by simp) rfl rfl hl
          refine wp_val (v := .pointer (some ⟨W.heap.size, 0, none⟩)) (w' := W.alloc (.cells #[.pointer none, .int .i64 0, .int .i64 0, .int .i64 0, .string ⟨#[]⟩, .string ⟨#[]⟩, .string ⟨#[]⟩, .int .i64 0, .int .i64 0, .int .i64 0, .string ⟨#[]⟩, .slice none 0 0] 82)) ?_ ⟨_, rfl, trivial, fun _ _ h => h, g1.alloc gz _, by simp; omega, aOld b0, (by simp only [set_other_get (show 16 ≠ 14 by decide)]; exact aOld bc), (fun c h1 h2 => (Below.heap_alloc _ _ c (Nat.lt_of_lt_of_le h1 g0)).trans (gr c h1 h2)), (fun _ => ⟨W.heap.size, put_this (by rw [h.size]; exact (by decide : (7 : Nat) < 112)), g0, by rw [if_neg (show ¬ (l.setIfInBounds 16 true).getD 17 false = true by rw [set_other_get (by decide), m17]; decide)]; exact aNew rfl⟩)⟩
          unfold execOp
          simp [go_sem]
        · obtain ⟨T16, t1_16, t2_16, t3_16⟩ := q16 (haf ⟨16, .phase⟩ (by simp) rfl)
          obtain ⟨u34, e34, x34⟩ := h.new 15 _ 34 rfl rfl (haf ⟨15, .phase⟩ (by simp) rfl)
          have y34 : u34 = (.agg #[.pointer (some ⟨cb, co + jj * 15, none⟩), .int .i64 1, .int .i64 (it.kind), .int .i64 (it.n), .string it.s, .string ⟨#[]⟩, .string ⟨#[]⟩, .int .i64 0, .int .i64 0, .int .i64 0, .string ⟨#[]⟩, .slice none 0 0]) := x34
          subst y34
          have m17 : l.getD 17 false = false := by rw [Array.getD_eq_getD_getElem?] at hl ⊢; cases hx : l[17]? with | none => rfl | some bb => rw [hx] at hl; exact hl
          have c_ := t3_16
          rw [if_neg (show ¬ l.getD 17 false = true by rw [m17]; decide)] at c_
          obtain ⟨z0, z1, z2, z3, z4, z5, z6, z7, z8, z9, z10, z11, zf⟩ := bk12f c_
          obtain ⟨W', hW'⟩ : ∃ V, V = ((((((((((((W).setCell ⟨T16, 0, none⟩ (.pointer (some ⟨cb, co + jj * 15, none⟩))).setCell ⟨T16, 1, none⟩ (.int .i64 1)).setCell ⟨T16, 2, none⟩ (.int .i64 (it.kind))).setCell ⟨T16, 3, none⟩ (.int .i64 (it.n))).setCell ⟨T16, 4, none⟩ (.string it.s)).setCell ⟨T16, 5, none⟩ (.string ⟨#[]⟩)).setCell ⟨T16, 6, none⟩ (.string ⟨#[]⟩)).setCell ⟨T16, 7, none⟩ (.int .i64 0)).setCell ⟨T16, 8, none⟩ (.int .i64 0)).setCell ⟨T16, 9, none⟩ (.int .i64 0)).setCell ⟨T16, 10, none⟩ (.string ⟨#[]⟩)).setCell ⟨T16, 11, none⟩ (.slice none 0 0) := ⟨_, rfl⟩
          have hP : W' = putL W (T16) 0 [.pointer (some ⟨cb, co + jj * 15, none⟩), .int .i64 1, .int .i64 (it.kind), .int .i64 (it.n), .string it.s, .string ⟨#[]⟩, .string ⟨#[]⟩, .int .i64 0, .int .i64 0, .int .i64 0, .string ⟨#[]⟩, .slice none 0 0] := hW'
          refine wp_skip (w' := W') ?_ ⟨undef, rfl, trivial, fun _ _ h => h, (by rw [hP]; exact putL_below (by omega) _ _ _ g1), Nat.le_trans g0 (by rw [hP]; exact (putL_below (B := 0) (w0 := W) (Nat.zero_le _) _ _ _ (Below.refl _ _)).size), (by rw [hP]; exact (putL_other (by omega) _ _ _).trans (b0)), (by simp only [set_other_get (show 17 ≠ 14 by decide)]; exact (by rw [hP]; exact (putL_other (by omega) _ _ _).trans (bc))), (fun c h1 h2 => (by rw [hP]; exact (putL_other (by omega) _ _ _).trans (gr c h1 h2))), (fun _ => ⟨T16, t1_16, t2_16, by rw [if_pos (set_this_get (i := 17) (n := 18) hsz (by decide))]; exact (by rw [hP]; exact putL_same c_ _ rfl)⟩)⟩
          rw [hW']
          clear hP hW'
          unfold execOp
          simp [t1_16, e34, z0, z1, z2, z3, z4, z5, z6, z7, z8, z9, z10, z11, zf, go_sem]
      · intro v W1 hv hs hg
        obtain ⟨u1, u0, yP, yc, yr, y16⟩ := hg
        obtain ⟨T, t1, t2, t3⟩ := y16 rfl
        have e16 : v 16 = .pointer (some ⟨T, 0, none⟩) := Option.some.inj ((hs 16 _ 7 rfl rfl).symm.trans t1)
        have HT2 : Hid (W1.heap[T]? = some (.cells #[.pointer (some ⟨cb, co + jj * 15, none⟩), .int .i64 1, .int .i64 (it.kind), .int .i64 (it.n), .string it.s, .string ⟨#[]⟩, .string ⟨#[]⟩, .int .i64 0, .int .i64 0, .int .i64 0, .string ⟨#[]⟩, .slice none 0 0] 82)) := t3
        simp only [putAll, Act.put, List.setIfInBounds_toArray, List.set_cons_succ, List.set_cons_zero]
        rw [e16]
        generalize v 0 = x0, v 1 = x1, v 2 = x2, v 3 = x3, v 4 = x4, v 5 = x5, v 6 = x6, v 7 = x7, v 8 = x8, v 9 = x9, v 10 = x10, v 11 = x11, v 12 = x12, v 13 = x13, v 14 = x14, v 15 = x15 at *
        have yc' : W1.heap[lb]? = some (.cells #[m1, m2, .map (some sb), .int .i64 ((p + jj + 1 : Nat) : Int), .int .i64 0] 49) := yc
        have HL2 := hidC yc'
        have HM2 : Hid (∀ c, c < wr.heap.size → c ≠ lb → W1.heap[c]? = wr.heap[c]?) := yr
        have HV2 : Hid (W1.ownsRow (w.heap.size + 1) 82 12 (.slice va jj vc) jj (clCells cb co it jj)) := ownsRow_kept HV1.out (fun b h1 h2 => yr b h2 (by omega))
        have HB2 := hidC (HB1.out.trans (u1.mono hB1))
        have hTz : T < W1.heap.size := (Array.getElem?_eq_some_iff.1 t3).1
        have hpj : p + jj + 1 ≤ 700 := by omega
        obtain ⟨c0, c1, c2, c3, c4, c5, c6, c7, c8, c9, c10, c11⟩ := bk12 t3
        clear hv hs t1 t3 e16 y16 u1 yP yc yc' yr CE HLc HOP PC
        go_wp2_with (first
          | (go_at_call 40; refine (keeps_is lb m1 m2 _ (p + jj + 1) _ W1 HL2.out hpj).mono ?_; rintro e w2 ⟨rfl, hw2⟩; obtain rfl := hw2.symm)
          | (at_builtin; refine wpList_append_own _ rfl (.tmp 37) (.tmp 39) 79 rfl (w.heap.size + 1) 82 i0 _ 12 144 Tryd.underlying79 hi0 hz0 hz1 hz2 rfl (by decide) _ _ _ rfl (World.ownsRow.alloc HV2.out _) ⟨W1.heap.size, 0, none⟩ 1 1 (clC cb co it jj) rfl rfl (clC_in cb co it jj) (clC_one cb co it jj) (by unfold maxLen; omega) (by omega) (by simp <;> omega) ?_; intro v6 w8 hown6 hgrow6 _; obtain ⟨va6, vc6, rfl⟩ := own_shape hown6))
        have HV8 : Hid (w8.ownsRow (w.heap.size + 1) 82 12 (.slice va6 (jj + 1) vc6) (jj + 1) (clCells cb co it jj ++ clC cb co it jj)) := hown6
        have hrow : ∀ r, (Value.slice va jj vc).ownBlock = some r → w.heap.size + 1 ≤ r ∧ r < wr.heap.size := World.ownsRow.lt HV1.out
        have HL8 := hidC (grown_kept (aOld HL2.out) hgrow6 (fun r hr => by have := hrow r hr; omega))
        have HT8 := hidC (grown_kept (aOld HT2.out) hgrow6 (fun r hr => by have := hrow r hr; omega))
        have HR8 := hidC (grown_kept (aOld ((HM2.out _ (by omega) (by omega)).trans HR1.out)) hgrow6 (fun r hr => by have := hrow r hr; omega))
        have HM8' : Hid (∀ c, c < w.heap.size → c ≠ lb → w8.heap[c]? = wr.heap[c]?) := fun c h1 h2 => (hgrow6.block c (by simp; omega) (fun e => by have := hrow c e.symm; omega)).trans ((Below.heap_alloc _ _ c (by omega)).trans (HM2.out c (by omega) h2))
        have HM8 : Hid (∀ c, c < w.heap.size → c ≠ lb → c ≠ sb → w8.heap[c]? = w.heap[c]?) := fun c h1 h2 h3 => (HM8'.out c h1 h2).trans (HM1.out c h1 h2 h3)
        have HS8 := hidC (HS1.out.keep (HM8'.out sb s6 hsl))
        have HB8 : Hid (Below B0 w w8) := (HB2.out.alloc (by omega) _).grown hgrow6 (by simp; omega) (fun z hz => by have := hrow z hz; omega)
        have hz8 : W1.heap.size + 1 ≤ w8.heap.size := by have := hgrow6.size; simp at this; omega
        clear hown6 hgrow6 hrow HL2 HT2 HM2 HV2 HB2 HL1 HS1 HM1 HB1 HR1 HV1 HM8' c0 c1 c2 c3 c4 c5 c6 c7 c8 c9 c10 c11 HI
        by_cases hj00 : jj = 0
        · have HCLJ : Hid (∀ W : World, (∀ c, c < w8.heap.size → c ≠ sb → W.heap[c]? = w8.heap[c]?) → w8.heap.size ≤ W.heap.size → ClAt W cb (co + jj * 15) 1 nmf atf) := fun W h1 h2 => by
            have hq := (HCL.out jj hlt).block ((h1 cb (by omega) hcbs).trans (HM8.out cb hcb hcbl hcbs))
            rw [hj00] at hq ⊢
            rw [HK0.out, HN0.out, HA0.out] at hq
            exact hq
          have HSM8 : Hid (SMap w8 sb N) := HS8.out.congr (fun y => by simp [hj00])
          refine wp_region_slots (by kernel_rfl) (fun j v W => (match j with | 0 => v = (.pointer (some ⟨lb, 0, none⟩)) | 1 => v = (.pointer (some ⟨lb, 0, none⟩)) | 2 => v = (.pointer (some ⟨lb, 2, none⟩)) | 3 => v = (.map (some sb)) | 4 => v = (.pointer (some ⟨T, 0, none⟩)) | 5 => v = (.pointer (some ⟨cb, co + jj * 15, none⟩)) | 7 => v = (.tuple #[]) | _ => True) ∧ (j = 6 → ∃ n6 : Nat, v = (.slice (some ⟨n6, 0, none⟩) 2 2) ∧ w8.heap.size ≤ n6 ∧ W.heap[n6]? = some (.cells #[.string nmf, .string atf] 9))) (fun l a W => Below B0 w8 W ∧ w8.heap.size ≤ W.heap.size ∧ W.heap[lb]? = some (.cells #[m1, m2, .map (some sb), .int .i64 (((p + jj + 1 : Nat) : Int)), .int .i64 0] 49) ∧ W.heap[T]? = some (.cells #[.pointer (some ⟨cb, co + jj * 15, none⟩), .int .i64 1, .int .i64 (it.kind), .int .i64 (it.n), .string it.s, .string ⟨#[]⟩, .string ⟨#[]⟩, .int .i64 0, .int .i64 0, .int .i64 0, .string ⟨#[]⟩, .slice none 0 0] 82) ∧ (∀ c, c < w8.heap.size → c ≠ sb → W.heap[c]? = w8.heap[c]?) ∧ ((l.getD 7 false = false → SMap W sb N) ∧ (l.getD 7 false = true → SMap W sb (fun y => N y + cntE [nmf, atf] y)))) (by kernel_rfl) (by kernel_rfl) ⟨(Below.refl _ _).trans ⟨rfl, rfl, rfl, Nat.le_refl _, fun _ _ => rfl⟩, Nat.le_refl _, HL8.out, HT8.out, fun c _ _ => rfl, ⟨fun _ => HSM8.out, fun e7 => by rw [Array.getD_eq_getD_getElem?, Array.getElem?_replicate] at e7; split at e7 <;> cases e7⟩⟩ ?_ ?_
          · intro l a W i o hsz h ho hl haf
            obtain ⟨g1, g0, b0, b1, gr, ex⟩ := h.more
            have gz : B0 ≤ W.heap.size := Nat.le_trans (by first | exact Nat.le_refl _ | omega) g0
            have hi : i < 8 := (Array.getElem?_eq_some_iff.1 ho).1
            obtain rfl | rfl | rfl | rfl | rfl | rfl | rfl | rfl : i = 0 ∨ i = 1 ∨ i = 2 ∨ i = 3 ∨ i = 4 ∨ i = 5 ∨ i = 6 ∨ i = 7 := by omega
            all_goals (obtain rfl := Option.some.inj ho; rw [if_pos (want_none rfl)])
            · have e0 := h.given 0 _ rfl (by kernel_rfl)
              have m1 := h.later 1 0 _ ⟨0, .data⟩ rfl (by simp) rfl rfl hl
              have m2 := h.later2 2 1 _ ⟨1, .data⟩ rfl (by simp) rfl rfl m1
              have m3 := h.later2 3 2 _ ⟨2, .data⟩ rfl (by simp) rfl rfl m2
              have m7 := h.later2 7 3 _ ⟨3, .data⟩ rfl (by simp) rfl rfl m3
              refine wp_val (v := .pointer (some ⟨lb, 0, none⟩)) (w' := W) ?_ ⟨_, rfl, ⟨rfl, fun e => absurd e (by decide)⟩, fun _ _ h => h, g1, g0, b0, b1, (fun c h1 h2 => gr c h1 h2), ⟨fun _ => (ex.1 m7).keep (rfl), fun e7 => absurd ((set_other_get (show 0 ≠ 7 by decide)).symm.trans e7) (by rw [m7]; decide)⟩⟩
              unfold execOp
              simp [e0, go_sem]
            · obtain ⟨u41, e41, x41⟩ := h.new 0 _ 41 rfl rfl (haf ⟨0, .data⟩ (by simp) rfl)
              have y41 : u41 = (.pointer (some ⟨lb, 0, none⟩)) := x41.1
              subst y41
              have m2 := h.later 2 1 _ ⟨1, .data⟩ rfl (by simp) rfl rfl hl
              have m3 := h.later2 3 2 _ ⟨2, .data⟩ rfl (by simp) rfl rfl m2
              have m7 := h.later2 7 3 _ ⟨3, .data⟩ rfl (by simp) rfl rfl m3
              refine wp_val (v := .pointer (some ⟨lb, 0, none⟩)) (w' := W) ?_ ⟨_, rfl, ⟨rfl, fun e => absurd e (by decide)⟩, fun _ _ h => h, g1, g0, b0, b1, (fun c h1 h2 => gr c h1 h2), ⟨fun _ => (ex.1 m7).keep (rfl), fun e7 => absurd ((set_other_get (show 1 ≠ 7 by decide)).symm.trans e7) (by rw [m7]; decide)⟩⟩
              unfold execOp
              simp [e41, go_sem]
            · obtain ⟨u42, e42, x42⟩ := h.new 1 _ 42 rfl rfl (haf ⟨1, .data⟩ (by simp) rfl)
              have y42 : u42 = (.pointer (some ⟨lb, 0, none⟩)) := x42.1
              subst y42
              have m3 := h.later 3 2 _ ⟨2, .data⟩ rfl (by simp) rfl rfl hl
              have m7 := h.later2 7 3 _ ⟨3, .data⟩ rfl (by simp) rfl rfl m3
              refine wp_val (v := .pointer (some ⟨lb, 2, none⟩)) (w' := W) ?_ ⟨_, rfl, ⟨rfl, fun e => absurd e (by decide)⟩, fun _ _ h => h, g1, g0, b0, b1, (fun c h1 h2 => gr c h1 h2), ⟨fun _ => (ex.1 m7).keep (rfl), fun e7 => absurd ((set_other_get (show 2 ≠ 7 by decide)).symm.trans e7) (by rw [m7]; decide)⟩⟩
              unfold execOp
              simp [e42, go_sem]
            · obtain ⟨u43, e43, x43⟩ := h.new 2 _ 43 rfl rfl (haf ⟨2, .data⟩ (by simp) rfl)
              have y43 : u43 = (.pointer (some ⟨lb, 2, none⟩)) := x43.1
              subst y43
              have m7 := h.later 7 3 _ ⟨3, .data⟩ rfl (by simp) rfl rfl hl
              have c_ := b0
              obtain ⟨c0, c1, c2, c3, c4, _, _⟩ := bk5 c_
              refine wp_val (v := .map (some sb)) (w' := W) ?_ ⟨_, rfl, ⟨rfl, fun e => absurd e (by decide)⟩, fun _ _ h => h, g1, g0, b0, b1, (fun c h1 h2 => gr c h1 h2), ⟨fun _ => (ex.1 m7).keep (rfl), fun e7 => absurd ((set_other_get (show 3 ≠ 7 by decide)).symm.trans e7) (by rw [m7]; decide)⟩⟩
              unfold execOp
              simp [e43, c2, go_sem]
            · have e7 := h.given 7 _ rfl (by kernel_rfl)
              have m5 := h.later 5 4 _ ⟨4, .data⟩ rfl (by simp) rfl rfl hl
              have m6 := h.later2 6 5 _ ⟨5, .data⟩ rfl (by simp) rfl rfl m5
              have m7 := h.later2 7 6 _ ⟨6, .chain⟩ rfl (by simp) rfl rfl m6
              refine wp_val (v := .pointer (some ⟨T, 0, none⟩)) (w' := W) ?_ ⟨_, rfl, ⟨rfl, fun e => absurd e (by decide)⟩, fun _ _ h => h, g1, g0, b0, b1, (fun c h1 h2 => gr c h1 h2), ⟨fun _ => (ex.1 m7).keep (rfl), fun e7 => absurd ((set_other_get (show 4 ≠ 7 by decide)).symm.trans e7) (by rw [m7]; decide)⟩⟩
              unfold execOp
              simp [e7, go_sem]
            · obtain ⟨u45, e45, x45⟩ := h.new 4 _ 45 rfl rfl (haf ⟨4, .data⟩ (by simp) rfl)
              have y45 : u45 = (.pointer (some ⟨T, 0, none⟩)) := x45.1
              subst y45
              have m6 := h.later 6 5 _ ⟨5, .data⟩ rfl (by simp) rfl rfl hl
              have m7 := h.later2 7 6 _ ⟨6, .chain⟩ rfl (by simp) rfl rfl m6
              have c_ := b1
              obtain ⟨c0, c1, c2, c3, c4, c5, c6, c7, c8, c9, c10, c11⟩ := bk12 c_
              refine wp_val (v := .pointer (some ⟨cb, co + jj * 15, none⟩)) (w' := W) ?_ ⟨_, rfl, ⟨rfl, fun e => absurd e (by decide)⟩, fun _ _ h => h, g1, g0, b0, b1, (fun c h1 h2 => gr c h1 h2), ⟨fun _ => (ex.1 m7).keep (rfl), fun e7 => absurd ((set_other_get (show 5 ≠ 7 by decide)).symm.trans e7) (by rw [m7]; decide)⟩⟩
              unfold execOp
              simp [e45, c0, go_sem]
            · obtain ⟨u46, e46, x46⟩ := h.new 5 _ 46 rfl rfl (haf ⟨5, .data⟩ (by simp) rfl)
              have y46 : u46 = (.pointer (some ⟨cb, co + jj * 15, none⟩)) := x46.1
              subst y46
              have m7 := h.later 7 6 _ ⟨6, .chain⟩ rfl (by simp) rfl rfl hl
              refine wp_enter (f := 41) (args := #[.pointer (some ⟨cb, co + jj * 15, none⟩)]) (w' := W) ?_ ((namesOf_for' cb (co + jj * 15) nmf atf W (HCLJ.out W gr g0)).mono ?_)
              · unfold execOp
                simp [e46, go_sem]
              · rintro e W' ⟨n6, rfl, hb, q1, hs6⟩
                exact ⟨_, rfl, _, rfl, ⟨trivial, fun _ => ⟨n6, rfl, by omega, hs6⟩⟩, fun j u hd => ⟨hd.1, fun e => by obtain ⟨n6, ev, p_n6, f_n6⟩ := hd.2 e; exact ⟨n6, ev, p_n6, blC hb (Array.getElem?_eq_some_iff.1 (f_n6)).1 (f_n6)⟩⟩, g1.trans (hb.mono gz), Nat.le_trans g0 hb.size, blC hb (Array.getElem?_eq_some_iff.1 (b0)).1 (b0), blC hb (Array.getElem?_eq_some_iff.1 (b1)).1 (b1), (fun c h1 h2 => (hb.block c (Nat.lt_of_lt_of_le h1 g0)).trans (gr c h1 h2)), ⟨fun _ => (ex.1 m7).keep (hb.block _ (ex.1 m7).lt), fun e7 => absurd ((set_other_get (show 6 ≠ 7 by decide)).symm.trans e7) (by rw [m7]; decide)⟩⟩
            · obtain ⟨u44, e44, x44⟩ := h.new 3 _ 44 rfl rfl (haf ⟨3, .data⟩ (by simp) rfl)
              have y44 : u44 = (.map (some sb)) := x44.1
              subst y44
              obtain ⟨u47, e47, x47⟩ := h.new 6 _ 47 rfl rfl (haf ⟨6, .chain⟩ (by simp) rfl)
              obtain ⟨n6, rfl, p_n6, f_n6⟩ := x47.2 rfl
              have m7 : l.getD 7 false = false := by rw [Array.getD_eq_getD_getElem?] at hl ⊢; cases hx : l[7]? with | none => rfl | some bb => rw [hx] at hl; exact hl
              refine wp_enter (f := 33) (args := #[.map (some sb), .slice (some ⟨n6, 0, none⟩) 2 2]) (w' := W) ?_ ((enter_is sb N [nmf, atf] _ W (ex.1 m7) (txts2 f_n6) HLN.out HNN.out).mono ?_)
              · unfold execOp
                simp [e44, e47, go_sem]
              · rintro e W' ⟨rfl, hs, ht⟩
                exact ⟨_, rfl, _, rfl, ⟨rfl, fun e => absurd e (by decide)⟩, fun j u hd => ⟨hd.1, fun e => by obtain ⟨n6, ev, p_n6, f_n6⟩ := hd.2 e; exact ⟨n6, ev, p_n6, (ht.2.1 _ (by omega)).trans (f_n6)⟩⟩, g1.trans (ht.below (by omega)), Nat.le_trans g0 (Nat.le_of_eq ht.1.symm), (ht.2.1 _ (by omega)).trans (b0), (ht.2.1 _ (by omega)).trans (b1), (fun c h1 h2 => (ht.2.1 c h2).trans (gr c h1 h2)), ⟨fun e7 => absurd ((set_this_get (i := 7) (n := 8) hsz (by decide)).symm.trans e7) (by decide), fun _ => hs⟩⟩
          · intro v W9 hv hs hg
            obtain ⟨u1, u0', yl, yT, yr, ex⟩ := hg
            simp only [putAll, Act.put, List.setIfInBounds_toArray, List.set_cons_succ, List.set_cons_zero]
            generalize v 0 = y0, v 1 = y1, v 2 = y2, v 3 = y3, v 4 = y4, v 5 = y5, v 6 = y6, v 7 = y7 at *
            have HF9 : Hid (FlI lb sb m1 m2 N p B0 it nmf atf cb co w (jj + 1) (.slice va6 (jj + 1) vc6) W9) := ⟨yl, (ex.2 rfl).congr (fun y => by simp), fun c h1 h2 h3 => (yr c (by omega) (by omega)).trans (HM8.out c h1 h2 h3), HB8.out.trans u1, by omega, (yr _ (by omega) (by omega)).trans HR8.out, by rw [clCells_snoc]; exact ownsRow_kept HV8.out (fun b h1 h2 => yr b h2 (by omega))⟩
            clear hv hs u1 yl yT yr ex HV8 HR8 HM8 HS8 HB8 HL8 HT8 HLN HNN HCLJ
            go_wp2
            go_roundw
            case rel => exact ⟨jj + 1, by omega, by go_num, HF9.out⟩
            case measure => simp [intOf]; omega
        · have HCLJ : Hid (∀ W : World, (∀ c, c < w8.heap.size → c ≠ w8.heap.size → W.heap[c]? = w8.heap[c]?) → w8.heap.size ≤ W.heap.size → ClAt W cb (co + jj * 15) (K jj) (NN jj) (AA jj)) := fun W h1 h2 => (HCL.out jj hlt).block ((h1 cb (by omega) (by omega)).trans (HM8.out cb hcb hcbl hcbs))
          have HKA : Hid (¬ K jj = 1) := hidC (by
            obtain rfl | rfl : jj = 1 ∨ jj = 2 := by omega
            · rw [HK1.out]; decide
            · rw [HK2.out]; decide)
          have HKB : Hid (¬ K jj = 2) := hidC (by
            obtain rfl | rfl : jj = 1 ∨ jj = 2 := by omega
            · rw [HK1.out]; decide
            · rw [HK2.out]; decide)
          refine wp_region_slots (by kernel_rfl) (fun j v W => (match j with | 0 => v = (.pointer (some ⟨lb, 0, none⟩)) | 1 => v = (.pointer (some ⟨lb, 0, none⟩)) | 2 => v = (.pointer (some ⟨lb, 2, none⟩)) | 3 => v = (.map (some sb)) | 4 => v = (.pointer (some ⟨T, 0, none⟩)) | 5 => v = (.pointer (some ⟨cb, co + jj * 15, none⟩)) | 6 => v = (.slice none 0 0) | 7 => v = (.tuple #[]) | _ => True)) (fun l a W => Below B0 w8 W ∧ w8.heap.size ≤ W.heap.size ∧ W.heap[lb]? = some (.cells #[m1, m2, .map (some sb), .int .i64 (((p + jj + 1 : Nat) : Int)), .int .i64 0] 49) ∧ W.heap[T]? = some (.cells #[.pointer (some ⟨cb, co + jj * 15, none⟩), .int .i64 1, .int .i64 (it.kind), .int .i64 (it.n), .string it.s, .string ⟨#[]⟩, .string ⟨#[]⟩, .int .i64 0, .int .i64 0, .int .i64 0, .string ⟨#[]⟩, .slice none 0 0] 82) ∧ (∀ c, c < w8.heap.size → c ≠ w8.heap.size → W.heap[c]? = w8.heap[c]?)) (by kernel_rfl) (by kernel_rfl) ⟨(Below.refl _ _).trans ⟨rfl, rfl, rfl, Nat.le_refl _, fun _ _ => rfl⟩, Nat.le_refl _, HL8.out, HT8.out, fun c _ _ => rfl⟩ ?_ ?_
          · intro l a W i o hsz h ho hl haf
            obtain ⟨g1, g0, b0, b1, gr⟩ := h.more
            have gz : B0 ≤ W.heap.size := Nat.le_trans (by first | exact Nat.le_refl _ | omega) g0
            have hi : i < 8 := (Array.getElem?_eq_some_iff.1 ho).1
            obtain rfl | rfl | rfl | rfl | rfl | rfl | rfl | rfl : i = 0 ∨ i = 1 ∨ i = 2 ∨ i = 3 ∨ i = 4 ∨ i = 5 ∨ i = 6 ∨ i = 7 := by omega
            all_goals (obtain rfl := Option.some.inj ho; rw [if_pos (want_none rfl)])
            · have e0 := h.given 0 _ rfl (by kernel_rfl)
              refine wp_val (v := .pointer (some ⟨lb, 0, none⟩)) (w' := W) ?_ ⟨_, rfl, rfl, fun _ _ h => h, g1, g0, b0, b1, (fun c h1 h2 => gr c h1 h2)⟩
              unfold execOp
              simp [e0, go_sem]
            · obtain ⟨u41, e41, x41⟩ := h.new 0 _ 41 rfl rfl (haf ⟨0, .data⟩ (by simp) rfl)
              have y41 : u41 = (.pointer (some ⟨lb, 0, none⟩)) := x41
              subst y41
              refine wp_val (v := .pointer (some ⟨lb, 0, none⟩)) (w' := W) ?_ ⟨_, rfl, rfl, fun _ _ h => h, g1, g0, b0, b1, (fun c h1 h2 => gr c h1 h2)⟩
              unfold execOp
              simp [e41, go_sem]
            · obtain ⟨u42, e42, x42⟩ := h.new 1 _ 42 rfl rfl (haf ⟨1, .data⟩ (by simp) rfl)
              have y42 : u42 = (.pointer (some ⟨lb, 0, none⟩)) := x42
              subst y42
              refine wp_val (v := .pointer (some ⟨lb, 2, none⟩)) (w' := W) ?_ ⟨_, rfl, rfl, fun _ _ h => h, g1, g0, b0, b1, (fun c h1 h2 => gr c h1 h2)⟩
              unfold execOp
              simp [e42, go_sem]
            · obtain ⟨u43, e43, x43⟩ := h.new 2 _ 43 rfl rfl (haf ⟨2, .data⟩ (by simp) rfl)
              have y43 : u43 = (.pointer (some ⟨lb, 2, none⟩)) := x43
              subst y43
              have c_ := b0
              obtain ⟨c0, c1, c2, c3, c4, _, _⟩ := bk5 c_
              refine wp_val (v := .map (some sb)) (w' := W) ?_ ⟨_, rfl, rfl, fun _ _ h => h, g1, g0, b0, b1, (fun c h1 h2 => gr c h1 h2)⟩
              unfold execOp
              simp [e43, c2, go_sem]
            · have e7 := h.given 7 _ rfl (by kernel_rfl)
              refine wp_val (v := .pointer (some ⟨T, 0, none⟩)) (w' := W) ?_ ⟨_, rfl, rfl, fun _ _ h => h, g1, g0, b0, b1, (fun c h1 h2 => gr c h1 h2)⟩
              unfold execOp
              simp [e7, go_sem]
            · obtain ⟨u45, e45, x45⟩ := h.new 4 _ 45 rfl rfl (haf ⟨4, .data⟩ (by simp) rfl)
              have y45 : u45 = (.pointer (some ⟨T, 0, none⟩)) := x45
              subst y45
              have c_ := b1
              obtain ⟨c0, c1, c2, c3, c4, c5, c6, c7, c8, c9, c10, c11⟩ := bk12 c_
              refine wp_val (v := .pointer (some ⟨cb, co + jj * 15, none⟩)) (w' := W) ?_ ⟨_, rfl, rfl, fun _ _ h => h, g1, g0, b0, b1, (fun c h1 h2 => gr c h1 h2)⟩
              unfold execOp
              simp [e45, c0, go_sem]
            · obtain ⟨u46, e46, x46⟩ := h.new 5 _ 46 rfl rfl (haf ⟨5, .data⟩ (by simp) rfl)
              have y46 : u46 = (.pointer (some ⟨cb, co + jj * 15, none⟩)) := x46
              subst y46
              refine wp_enter (f := 41) (args := #[.pointer (some ⟨cb, co + jj * 15, none⟩)]) (w' := W) ?_ ((namesOf_none cb (co + jj * 15) _ _ _ W (HCLJ.out W gr g0) HKA.out HKB.out).mono ?_)
              · unfold execOp
                simp [e46, go_sem]
              · rintro e W' ⟨rfl, rfl⟩
                exact ⟨_, rfl, _, rfl, rfl, fun _ _ h => h, g1, g0, b0, b1, (fun c h1 h2 => gr c h1 h2)⟩
            · obtain ⟨u44, e44, x44⟩ := h.new 3 _ 44 rfl rfl (haf ⟨3, .data⟩ (by simp) rfl)
              have y44 : u44 = (.map (some sb)) := x44
              subst y44
              obtain ⟨u47, e47, x47⟩ := h.new 6 _ 47 rfl rfl (haf ⟨6, .chain⟩ (by simp) rfl)
              have y47 : u47 = (.slice none 0 0) := x47
              subst y47
              refine wp_enter (f := 33) (args := #[.map (some sb), .slice none 0 0]) (w' := W) ?_ ((enter_nil sb W).mono ?_)
              · unfold execOp
                simp [e44, e47, go_sem]
              · rintro e W' ⟨rfl, rfl⟩
                exact ⟨_, rfl, _, rfl, rfl, fun _ _ h => h, g1, g0, b0, b1, (fun c h1 h2 => gr c h1 h2)⟩
          · intro v W9 hv hs hg
            obtain ⟨u1, u0', yl, yT, yr⟩ := hg
            simp only [putAll, Act.put, List.setIfInBounds_toArray, List.set_cons_succ, List.set_cons_zero]
            generalize v 0 = y0, v 1 = y1, v 2 = y2, v 3 = y3, v 4 = y4, v 5 = y5, v 6 = y6, v 7 = y7 at *
            have HF9 : Hid (FlI lb sb m1 m2 N p B0 it nmf atf cb co w (jj + 1) (.slice va6 (jj + 1) vc6) W9) := ⟨yl, (HS8.out.keep (yr sb (by omega) (by omega))).congr (fun y => by simp [hj00]), fun c h1 h2 h3 => (yr c (by omega) (by omega)).trans (HM8.out c h1 h2 h3), HB8.out.trans u1, by omega, (yr _ (by omega) (by omega)).trans HR8.out, by rw [clCells_snoc]; exact ownsRow_kept HV8.out (fun b h1 h2 => yr b h2 (by omega))⟩
            clear hv hs u1 yl yT yr HV8 HR8 HM8 HS8 HB8 HL8 HT8 HLN HNN HCLJ
            go_wp2
            go_roundw
            case rel => exact ⟨jj + 1, by omega, by go_num, HF9.out⟩
            case measure => simp [intOf]; omega
    · obtain rfl : jj = 3 := by omega
      obtain ⟨g1, g2, g3, g4, g5, g6, g7⟩ := HI.out
      have HL1 := hidC g1
      have HS1 := hidC g2
      have HM1 := hidC g3
      have HB1 := hidC g4
      have HR1 := hidC g6
      have HV1 := hidC g7
      have pa : wr.cell? ⟨pb, po + 9, none⟩ = some (.slice (some ⟨ab, ao, none⟩) 1 ac) := (cellq (g3 pb hpb hpl hps)).trans HP.out.c9
      have CB : Hid (Calls Tryd.prog 9 #[.pointer (some ⟨lb, 0, none⟩), .pointer (some ⟨ab, ao, none⟩)] wr fun e w' => e = .returned (.agg #[.int .i64 1, .int .i64 (it.kind), .int .i64 (it.n), .string it.s, .string ⟨#[]⟩, .string ⟨#[]⟩, .int .i64 0, .int .i64 0, .int .i64 0, .string ⟨#[]⟩, .slice none 0 0]) ∧ Kp lb m1 m2 (.map (some sb)) (p + 3 + 1) wr w') := hidC (by
        obtain ⟨nm, n, ax, tk, tn, cv, hq⟩ := HBE.out
        exact expr_lit lb ab ao m1 m2 _ (p + 3) it nm n ax tk tn none 0 cv wr g1 (by omega) (hq.block (g3 ab hab habl habs)) (by omega) habl hits (HTB.out wr g4) HLT.out)
      clear g1 g2 g3 g4 g6 g7 HI
      go_wp2_with (go_at_call 9; refine CB.out.mono ?_; rintro e w1 ⟨rfl, hk⟩; have HKp := hidC hk; have hz1' := hk.2.2.size; have hpb1 : pb < w1.heap.size := (by omega); have pc1 : w1.cell? ⟨pb, po + 10, none⟩ = some (.slice (some ⟨cb, co, none⟩) 3 cc) := (cellq (hk.2.1 pb (by omega) hpl)).trans ((cellq (HM1.out pb hpb hpl hps)).trans HP.out.c10); clear CB hk pa)
      obtain ⟨W2, hW2⟩ : ∃ W, W = w1.alloc (.cells #[.int .i64 1, .int .i64 (it.kind), .int .i64 (it.n), .string it.s, .string ⟨#[]⟩, .string ⟨#[]⟩, .int .i64 0, .int .i64 0, .int .i64 0, .string ⟨#[]⟩, .slice none 0 0] 39) := ⟨_, rfl⟩
      have HL2 : Hid (W2.heap[lb]? = some (.cells #[m1, m2, .map (some sb), .int .i64 ((p + 4 : Nat) : Int), .int .i64 0] 49)) := hidC (by rw [hW2]; exact aOld HKp.out.1)
      have hz2' : W2.heap.size = w1.heap.size + 1 := by rw [hW2]; simp
      have HM2' : Hid (∀ c, c < wr.heap.size → c ≠ lb → W2.heap[c]? = wr.heap[c]?) := hidC (fun c h1 h2 => by rw [hW2]; exact (Below.heap_alloc _ _ c (by omega)).trans (HKp.out.2.1 c h1 h2))
      have HM2 : Hid (∀ c, c < w.heap.size → c ≠ lb → c ≠ sb → W2.heap[c]? = w.heap[c]?) := fun c h1 h2 h3 => (HM2'.out c (by omega) h2).trans (HM1.out c h1 h2 h3)
      have HS2 := hidC (HS1.out.keep (HM2'.out sb (by omega) hsl))
      have HB2 : Hid (Below B0 w W2) := hidC (by rw [hW2]; exact (HB1.out.trans (HKp.out.2.2.mono hB1)).alloc (by omega) _)
      have HR2 := hidC ((HM2'.out _ hzr (by omega)).trans HR1.out)
      have HV2 := hidC (ownsRow_kept HV1.out (fun b h1 h2 => HM2'.out b h2 (by omega)))
      have HY2 : Hid (W2.heap[w1.heap.size]? = some (.cells #[.int .i64 1, .int .i64 (it.kind), .int .i64 (it.n), .string it.s, .string ⟨#[]⟩, .string ⟨#[]⟩, .int .i64 0, .int .i64 0, .int .i64 0, .string ⟨#[]⟩, .slice none 0 0] 39)) := hidC (by rw [hW2]; exact aNew rfl)
      have hpc2 : W2.cell? ⟨pb, po + 10, none⟩ = some (.slice (some ⟨cb, co, none⟩) 3 cc) := (cellq (HM2.out pb hpb hpl hps)).trans HP.out.c10
      obtain ⟨B, cap, rfl, hBb, hB3⟩ : ∃ B cap, va = some ⟨B, 0, none⟩ ∧ w.heap.size + 1 ≤ B ∧ vc = cap ∧ 3 ≤ cap ∧ B < W2.heap.size := by
        obtain ⟨_, ⟨h1, h2⟩ | ⟨B, cap, cur, h1, h2, h3, h4, h5⟩⟩ := HV2.out
        · cases h2
        · cases h1; exact ⟨B, vc, rfl, h2, rfl, h4, (Array.getElem?_eq_some_iff.1 h3).1⟩
      obtain ⟨rfl, hc3, hBz⟩ := hB3
      rw [← hW2]
      clear hW2 HKp HM2' pc1 HL1 HS1 HM1 HB1 HR1 HV1
      go_loopw [62] (fun i wq => ∃ jj : Nat, jj ≤ 3 ∧ i = .int .i64 jj ∧ FlJ sb N B0 nmf atf W2 jj wq) (fun i _ => 3 - (intOf i).toNat)
      case atStart => exact ⟨0, by decide, rfl, HS2.out.congr (fun y => by simp), fun c _ _ => rfl, Below.refl _ _, Nat.le_refl _⟩
      case round =>
       obtain ⟨jj, hj, rfl, hI⟩ := hrel
       have HI := hidC hI
       have hzq := hI.2.2.2
       clear hI
       by_cases hlt : jj < 3
       · have hj0 : ¬ (jj : Int) < 0 := by omega
         have hj3 : (jj : Int) < 3 := by omega
         go_wp2
         obtain ⟨g2, g3, g4, g5⟩ := HI.out
         have HSq := hidC g2
         have HMq := hidC g3
         have HBq := hidC g4
         have HLq := hidC ((g3 lb (by omega) (Ne.symm hsl)).trans HL2.out)
         obtain ⟨obp, hobp⟩ : ∃ o, wr.heap[pb]? = some o := ⟨_, Array.getElem?_eq_getElem (by omega)⟩
         have HOQ := hidC hobp
         have PQ := hidC ((cellq (o := po + 10) (g3 pb (by omega) hps)).trans hpc2)
         clear g2 g3 g4 hobp HI
         by_cases hj00 : jj = 0
         · have HCLJ : Hid (∀ W : World, (∀ c, c < wr.heap.size → c ≠ sb → W.heap[c]? = wr.heap[c]?) → wr.heap.size ≤ W.heap.size → ClAt W cb (co + jj * 15) 1 nmf atf) := fun W h1 h2 => by
             have hq := (HCL.out jj hlt).block ((h1 cb (by omega) hcbs).trans ((HMq.out cb (by omega) hcbs).trans (HM2.out cb hcb hcbl hcbs)))
             rw [hj00] at hq ⊢
             rw [HK0.out, HN0.out, HA0.out] at hq
             exact hq
           have HSMq : Hid (SMap wr sb (fun y => N y + cntE [nmf, atf] y)) := HSq.out.congr (fun y => by simp [hj00])
           refine wp_region_slots (by kernel_rfl) (fun j v W => (match j with | 0 => v = (.pointer (some ⟨lb, 0, none⟩)) | 1 => v = (.pointer (some ⟨lb, 0, none⟩)) | 2 => v = (.pointer (some ⟨lb, 2, none⟩)) | 3 => v = (.map (some sb)) | 4 => v = (.pointer (some ⟨pb, po, none⟩)) | 5 => v = (.pointer (some ⟨pb, po, none⟩)) | 6 => v = (.pointer (some ⟨pb, po + 10, none⟩)) | 7 => v = (.slice (some ⟨cb, co, none⟩) 3 cc) | 8 => v = (.int .i64 (((jj : Nat) : Int))) | 9 => v = (.pointer (some ⟨cb, co + jj * 15, none⟩)) | 11 => v = (.tuple #[]) | _ => True) ∧ (j = 10 → ∃ n10 : Nat, v = (.slice (some ⟨n10, 0, none⟩) 2 2) ∧ wr.heap.size ≤ n10 ∧ W.heap[n10]? = some (.cells #[.string nmf, .string atf] 9))) (fun l a W => Below B0 wr W ∧ wr.heap.size ≤ W.heap.size ∧ W.heap[lb]? = some (.cells #[m1, m2, .map (some sb), .int .i64 (((p + 4 : Nat) : Int)), .int .i64 0] 49) ∧ W.heap[pb]? = some (obp) ∧ (∀ c, c < wr.heap.size → c ≠ sb → W.heap[c]? = wr.heap[c]?) ∧ ((l.getD 11 false = false → SMap W sb (fun y => N y + cntE [nmf, atf] y)) ∧ (l.getD 11 false = true → SMap W sb N))) (by kernel_rfl) (by kernel_rfl) ⟨(Below.refl _ _).trans ⟨rfl, rfl, rfl, Nat.le_refl _, fun _ _ => rfl⟩, Nat.le_refl _, HLq.out, HOQ.out, fun c _ _ => rfl, ⟨fun _ => HSMq.out, fun e7 => by rw [Array.getD_eq_getD_getElem?, Array.getElem?_replicate] at e7; split at e7 <;> cases e7⟩⟩ ?_ ?_
           · intro l a W i o hsz h ho hl haf
             obtain ⟨g1, g0, b0, b1, gr, ex⟩ := h.more
             have gz : B0 ≤ W.heap.size := Nat.le_trans (by first | exact Nat.le_refl _ | omega) g0
             have hi : i < 12 := (Array.getElem?_eq_some_iff.1 ho).1
             obtain rfl | rfl | rfl | rfl | rfl | rfl | rfl | rfl | rfl | rfl | rfl | rfl : i = 0 ∨ i = 1 ∨ i = 2 ∨ i = 3 ∨ i = 4 ∨ i = 5 ∨ i = 6 ∨ i = 7 ∨ i = 8 ∨ i = 9 ∨ i = 10 ∨ i = 11 := by omega
             all_goals (obtain rfl := Option.some.inj ho; rw [if_pos (want_none rfl)])
             · have e0 := h.given 0 _ rfl (by kernel_rfl)
               have m1 := h.later 1 0 _ ⟨0, .data⟩ rfl (by simp) rfl rfl hl
               have m2 := h.later2 2 1 _ ⟨1, .data⟩ rfl (by simp) rfl rfl m1
               have m3 := h.later2 3 2 _ ⟨2, .data⟩ rfl (by simp) rfl rfl m2
               have m11 := h.later2 11 3 _ ⟨3, .data⟩ rfl (by simp) rfl rfl m3
               refine wp_val (v := .pointer (some ⟨lb, 0, none⟩)) (w' := W) ?_ ⟨_, rfl, ⟨rfl, fun e => absurd e (by decide)⟩, fun _ _ h => h, g1, g0, b0, b1, (fun c h1 h2 => gr c h1 h2), ⟨fun _ => (ex.1 m11).keep (rfl), fun e7 => absurd ((set_other_get (show 0 ≠ 11 by decide)).symm.trans e7) (by rw [m11]; decide)⟩⟩
               unfold execOp
               simp [e0, go_sem]
             · obtain ⟨u65, e65, x65⟩ := h.new 0 _ 65 rfl rfl (haf ⟨0, .data⟩ (by simp) rfl)
               have y65 : u65 = (.pointer (some ⟨lb, 0, none⟩)) := x65.1
               subst y65
               have m2 := h.later 2 1 _ ⟨1, .data⟩ rfl (by simp) rfl rfl hl
               have m3 := h.later2 3 2 _ ⟨2, .data⟩ rfl (by simp) rfl rfl m2
               have m11 := h.later2 11 3 _ ⟨3, .data⟩ rfl (by simp) rfl rfl m3
               refine wp_val (v := .pointer (some ⟨lb, 0, none⟩)) (w' := W) ?_ ⟨_, rfl, ⟨rfl, fun e => absurd e (by decide)⟩, fun _ _ h => h, g1, g0, b0, b1, (fun c h1 h2 => gr c h1 h2), ⟨fun _ => (ex.1 m11).keep (rfl), fun e7 => absurd ((set_other_get (show 1 ≠ 11 by decide)).symm.trans e7) (by rw [m11]; decide)⟩⟩
               unfold execOp
               simp [e65, go_sem]
             · obtain ⟨u66, e66, x66⟩ := h.new 1 _ 66 rfl rfl (haf ⟨1, .data⟩ (by simp) rfl)
               have y66 : u66 = (.pointer (some ⟨lb, 0, none⟩)) := x66.1
               subst y66
               have m3 := h.later 3 2 _ ⟨2, .data⟩ rfl (by simp) rfl rfl hl
               have m11 := h.later2 11 3 _ ⟨3, .data⟩ rfl (by simp) rfl rfl m3
               refine wp_val (v := .pointer (some ⟨lb, 2, none⟩)) (w' := W) ?_ ⟨_, rfl, ⟨rfl, fun e => absurd e (by decide)⟩, fun _ _ h => h, g1, g0, b0, b1, (fun c h1 h2 => gr c h1 h2), ⟨fun _ => (ex.1 m11).keep (rfl), fun e7 => absurd ((set_other_get (show 2 ≠ 11 by decide)).symm.trans e7) (by rw [m11]; decide)⟩⟩
               unfold execOp
               simp [e66, go_sem]
             · obtain ⟨u67, e67, x67⟩ := h.new 2 _ 67 rfl rfl (haf ⟨2, .data⟩ (by simp) rfl)
               have y67 : u67 = (.pointer (some ⟨lb, 2, none⟩)) := x67.1
               subst y67
               have m11 := h.later 11 3 _ ⟨3, .data⟩ rfl (by simp) rfl rfl hl
               have c_ := b0
               obtain ⟨c0, c1, c2, c3, c4, _, _⟩ := bk5 c_
               refine wp_val (v := .map (some sb)) (w' := W) ?_ ⟨_, rfl, ⟨rfl, fun e => absurd e (by decide)⟩, fun _ _ h => h, g1, g0, b0, b1, (fun c h1 h2 => gr c h1 h2), ⟨fun _ => (ex.1 m11).keep (rfl), fun e7 => absurd ((set_other_get (show 3 ≠ 11 by decide)).symm.trans e7) (by rw [m11]; decide)⟩⟩
               unfold execOp
               simp [e67, c2, go_sem]
             · have e1 := h.given 1 _ rfl (by kernel_rfl)
               have m5 := h.later 5 4 _ ⟨4, .data⟩ rfl (by simp) rfl rfl hl
               have m6 := h.later2 6 5 _ ⟨5, .data⟩ rfl (by simp) rfl rfl m5
               have m7 := h.later2 7 6 _ ⟨6, .data⟩ rfl (by simp) rfl rfl m6
               have m9 := h.later2 9 7 _ ⟨7, .data⟩ rfl (by simp) rfl rfl m7
               have m10 := h.later2 10 9 _ ⟨9, .data⟩ rfl (by simp) rfl rfl m9
               have m11 := h.later2 11 10 _ ⟨10, .chain⟩ rfl (by simp) rfl rfl m10
               refine wp_val (v := .pointer (some ⟨pb, po, none⟩)) (w' := W) ?_ ⟨_, rfl, ⟨rfl, fun e => absurd e (by decide)⟩, fun _ _ h => h, g1, g0, b0, b1, (fun c h1 h2 => gr c h1 h2), ⟨fun _ => (ex.1 m11).keep (rfl), fun e7 => absurd ((set_other_get (show 4 ≠ 11 by decide)).symm.trans e7) (by rw [m11]; decide)⟩⟩
               unfold execOp
               simp [e1, go_sem]
             · obtain ⟨u69, e69, x69⟩ := h.new 4 _ 69 rfl rfl (haf ⟨4, .data⟩ (by simp) rfl)
               have y69 : u69 = (.pointer (some ⟨pb, po, none⟩)) := x69.1
               subst y69
               have m6 := h.later 6 5 _ ⟨5, .data⟩ rfl (by simp) rfl rfl hl
               have m7 := h.later2 7 6 _ ⟨6, .data⟩ rfl (by simp) rfl rfl m6
               have m9 := h.later2 9 7 _ ⟨7, .data⟩ rfl (by simp) rfl rfl m7
               have m10 := h.later2 10 9 _ ⟨9, .data⟩ rfl (by simp) rfl rfl m9
               have m11 := h.later2 11 10 _ ⟨10, .chain⟩ rfl (by simp) rfl rfl m10
               refine wp_val (v := .pointer (some ⟨pb, po, none⟩)) (w' := W) ?_ ⟨_, rfl, ⟨rfl, fun e => absurd e (by decide)⟩, fun _ _ h => h, g1, g0, b0, b1, (fun c h1 h2 => gr c h1 h2), ⟨fun _ => (ex.1 m11).keep (rfl), fun e7 => absurd ((set_other_get (show 5 ≠ 11 by decide)).symm.trans e7) (by rw [m11]; decide)⟩⟩
               unfold execOp
               simp [e69, go_sem]
             · obtain ⟨u70, e70, x70⟩ := h.new 5 _ 70 rfl rfl (haf ⟨5, .data⟩ (by simp) rfl)
               have y70 : u70 = (.pointer (some ⟨pb, po, none⟩)) := x70.1
               subst y70
               have m7 := h.later 7 6 _ ⟨6, .data⟩ rfl (by simp) rfl rfl hl
               have m9 := h.later2 9 7 _ ⟨7, .data⟩ rfl (by simp) rfl rfl m7
               have m10 := h.later2 10 9 _ ⟨9, .data⟩ rfl (by simp) rfl rfl m9
               have m11 := h.later2 11 10 _ ⟨10, .chain⟩ rfl (by simp) rfl rfl m10
               refine wp_val (v := .pointer (some ⟨pb, po + 10, none⟩)) (w' := W) ?_ ⟨_, rfl, ⟨rfl, fun e => absurd e (by decide)⟩, fun _ _ h => h, g1, g0, b0, b1, (fun c h1 h2 => gr c h1 h2), ⟨fun _ => (ex.1 m11).keep (rfl), fun e7 => absurd ((set_other_get (show 6 ≠ 11 by decide)).symm.trans e7) (by rw [m11]; decide)⟩⟩
               unfold execOp
               simp [e70, go_sem]
             · obtain ⟨u71, e71, x71⟩ := h.new 6 _ 71 rfl rfl (haf ⟨6, .data⟩ (by simp) rfl)
               have y71 : u71 = (.pointer (some ⟨pb, po + 10, none⟩)) := x71.1
               subst y71
               have m9 := h.later 9 7 _ ⟨7, .data⟩ rfl (by simp) rfl rfl hl
               have m10 := h.later2 10 9 _ ⟨9, .data⟩ rfl (by simp) rfl rfl m9
               have m11 := h.later2 11 10 _ ⟨10, .chain⟩ rfl (by simp) rfl rfl m10
               have c_ := b1
               have c_1 := (cellq (o := po + 10) (c_.trans HOQ.out.symm)).trans PQ.out
               refine wp_val (v := .slice (some ⟨cb, co, none⟩) 3 cc) (w' := W) ?_ ⟨_, rfl, ⟨rfl, fun e => absurd e (by decide)⟩, fun _ _ h => h, g1, g0, b0, b1, (fun c h1 h2 => gr c h1 h2), ⟨fun _ => (ex.1 m11).keep (rfl), fun e7 => absurd ((set_other_get (show 7 ≠ 11 by decide)).symm.trans e7) (by rw [m11]; decide)⟩⟩
               unfold execOp
               simp [e71, c_1, go_sem]
             · have e9 := h.given 9 _ rfl (by kernel_rfl)
               have m9 := h.later 9 8 _ ⟨8, .data⟩ rfl (by simp) rfl rfl hl
               have m10 := h.later2 10 9 _ ⟨9, .data⟩ rfl (by simp) rfl rfl m9
               have m11 := h.later2 11 10 _ ⟨10, .chain⟩ rfl (by simp) rfl rfl m10
               refine wp_val (v := .int .i64 (((jj : Nat) : Int))) (w' := W) ?_ ⟨_, rfl, ⟨rfl, fun e => absurd e (by decide)⟩, fun _ _ h => h, g1, g0, b0, b1, (fun c h1 h2 => gr c h1 h2), ⟨fun _ => (ex.1 m11).keep (rfl), fun e7 => absurd ((set_other_get (show 8 ≠ 11 by decide)).symm.trans e7) (by rw [m11]; decide)⟩⟩
               unfold execOp
               simp [e9, go_sem]
             · obtain ⟨u72, e72, x72⟩ := h.new 7 _ 72 rfl rfl (haf ⟨7, .data⟩ (by simp) rfl)
               have y72 : u72 = (.slice (some ⟨cb, co, none⟩) 3 cc) := x72.1
               subst y72
               obtain ⟨u73, e73, x73⟩ := h.new 8 _ 73 rfl rfl (haf ⟨8, .data⟩ (by simp) rfl)
               have y73 : u73 = (.int .i64 (((jj : Nat) : Int))) := x73.1
               subst y73
               have m10 := h.later 10 9 _ ⟨9, .data⟩ rfl (by simp) rfl rfl hl
               have m11 := h.later2 11 10 _ ⟨10, .chain⟩ rfl (by simp) rfl rfl m10
               refine wp_val (v := .pointer (some ⟨cb, co + jj * 15, none⟩)) (w' := W) ?_ ⟨_, rfl, ⟨rfl, fun e => absurd e (by decide)⟩, fun _ _ h => h, g1, g0, b0, b1, (fun c h1 h2 => gr c h1 h2), ⟨fun _ => (ex.1 m11).keep (rfl), fun e7 => absurd ((set_other_get (show 9 ≠ 11 by decide)).symm.trans e7) (by rw [m11]; decide)⟩⟩
               unfold execOp
               simp [e72, e73, go_sem, hj0, hj3]
             · obtain ⟨u74, e74, x74⟩ := h.new 9 _ 74 rfl rfl (haf ⟨9, .data⟩ (by simp) rfl)
               have y74 : u74 = (.pointer (some ⟨cb, co + jj * 15, none⟩)) := x74.1
               subst y74
               have m11 := h.later 11 10 _ ⟨10, .chain⟩ rfl (by simp) rfl rfl hl
               refine wp_enter (f := 41) (args := #[.pointer (some ⟨cb, co + jj * 15, none⟩)]) (w' := W) ?_ ((namesOf_for' cb (co + jj * 15) nmf atf W (HCLJ.out W gr g0)).mono ?_)
               · unfold execOp
                 simp [e74, go_sem]
               · rintro e W' ⟨n10, rfl, hb, q1, hs6⟩
                 exact ⟨_, rfl, _, rfl, ⟨trivial, fun _ => ⟨n10, rfl, by omega, hs6⟩⟩, fun j u hd => ⟨hd.1, fun e => by obtain ⟨n10, ev, p_n10, f_n10⟩ := hd.2 e; exact ⟨n10, ev, p_n10, blC hb (Array.getElem?_eq_some_iff.1 (f_n10)).1 (f_n10)⟩⟩, g1.trans (hb.mono gz), Nat.le_trans g0 hb.size, blC hb (Array.getElem?_eq_some_iff.1 (b0)).1 (b0), blC hb (Array.getElem?_eq_some_iff.1 (b1)).1 (b1), (fun c h1 h2 => (hb.block c (Nat.lt_of_lt_of_le h1 g0)).trans (gr c h1 h2)), ⟨fun _ => (ex.1 m11).keep (hb.block _ (ex.1 m11).lt), fun e7 => absurd ((set_other_get (show 10 ≠ 11 by decide)).symm.trans e7) (by rw [m11]; decide)⟩⟩
             · obtain ⟨u68, e68, x68⟩ := h.new 3 _ 68 rfl rfl (haf ⟨3, .data⟩ (by simp) rfl)
               have y68 : u68 = (.map (some sb)) := x68.1
               subst y68
               obtain ⟨u75, e75, x75⟩ := h.new 10 _ 75 rfl rfl (haf ⟨10, .chain⟩ (by simp) rfl)
               obtain ⟨n10, rfl, p_n10, f_n10⟩ := x75.2 rfl
               have m11 : l.getD 11 false = false := by rw [Array.getD_eq_getD_getElem?] at hl ⊢; cases hx : l[11]? with | none => rfl | some bb => rw [hx] at hl; exact hl
               refine wp_enter (f := 34) (args := #[.map (some sb), .slice (some ⟨n10, 0, none⟩) 2 2]) (w' := W) ?_ ((leave_is sb N [nmf, atf] _ W (ex.1 m11) (txts2 f_n10) HLN.out HNN.out).mono ?_)
               · unfold execOp
                 simp [e68, e75, go_sem]
               · rintro e W' ⟨rfl, hs, ht⟩
                 exact ⟨_, rfl, _, rfl, ⟨rfl, fun e => absurd e (by decide)⟩, fun j u hd => ⟨hd.1, fun e => by obtain ⟨n10, ev, p_n10, f_n10⟩ := hd.2 e; exact ⟨n10, ev, p_n10, (ht.2.1 _ (by omega)).trans (f_n10)⟩⟩, g1.trans (ht.below (by omega)), Nat.le_trans g0 (Nat.le_of_eq ht.1.symm), (ht.2.1 _ (by omega)).trans (b0), (ht.2.1 _ (by omega)).trans (b1), (fun c h1 h2 => (ht.2.1 c h2).trans (gr c h1 h2)), ⟨fun e7 => absurd ((set_this_get (i := 11) (n := 12) hsz (by decide)).symm.trans e7) (by decide), fun _ => hs⟩⟩
           · intro v W9 hv hs hg
             obtain ⟨u1, u0', yl, yP, yr, ex⟩ := hg
             simp only [putAll, Act.put, List.setIfInBounds_toArray, List.set_cons_succ, List.set_cons_zero]
             generalize v 0 = y0, v 1 = y1, v 2 = y2, v 3 = y3, v 4 = y4, v 5 = y5, v 6 = y6, v 7 = y7, v 8 = y8, v 9 = y9, v 10 = y10, v 11 = y11 at *
             have HF9 : Hid (FlJ sb N B0 nmf atf W2 (jj + 1) W9) := ⟨(ex.2 rfl).congr (fun y => by simp), fun c h1 h2 => (yr c (by omega) (by omega)).trans (HMq.out c h1 h2), HBq.out.trans u1, by omega⟩
             clear hv hs u1 yl yP yr ex HMq HSq HBq HLq HLN HNN HCLJ HOQ PQ
             go_wp2
             go_roundw
             case rel => exact ⟨jj + 1, by omega, by go_num, HF9.out⟩
             case measure => simp [intOf]; omega
         · have HCLJ : Hid (∀ W : World, (∀ c, c < wr.heap.size → c ≠ wr.heap.size → W.heap[c]? = wr.heap[c]?) → wr.heap.size ≤ W.heap.size → ClAt W cb (co + jj * 15) (K jj) (NN jj) (AA jj)) := fun W h1 h2 => (HCL.out jj hlt).block ((h1 cb (by omega) (by omega)).trans ((HMq.out cb (by omega) hcbs).trans (HM2.out cb hcb hcbl hcbs)))
           have HKA : Hid (¬ K jj = 1) := hidC (by
            obtain rfl | rfl : jj = 1 ∨ jj = 2 := by omega
            · rw [HK1.out]; decide
            · rw [HK2.out]; decide)
           have HKB : Hid (¬ K jj = 2) := hidC (by
            obtain rfl | rfl : jj = 1 ∨ jj = 2 := by omega
            · rw [HK1.out]; decide
            · rw [HK2.out]; decide)
           refine wp_region_slots (by kernel_rfl) (fun j v W => (match j with | 0 => v = (.pointer (some ⟨lb, 0, none⟩)) | 1 => v = (.pointer (some ⟨lb, 0, none⟩)) | 2 => v = (.pointer (some ⟨lb, 2, none⟩)) | 3 => v = (.map (some sb)) | 4 => v = (.pointer (some ⟨pb, po, none⟩)) | 5 => v = (.pointer (some ⟨pb, po, none⟩)) | 6 => v = (.pointer (some ⟨pb, po + 10, none⟩)) | 7 => v = (.slice (some ⟨cb, co, none⟩) 3 cc) | 8 => v = (.int .i64 (((jj : Nat) : Int))) | 9 => v = (.pointer (some ⟨cb, co + jj * 15, none⟩)) | 10 => v = (.slice none 0 0) | 11 => v = (.tuple #[]) | _ => True)) (fun l a W => Below B0 wr W ∧ wr.heap.size ≤ W.heap.size ∧ W.heap[lb]? = some (.cells #[m1, m2, .map (some sb), .int .i64 (((p + 4 : Nat) : Int)), .int .i64 0] 49) ∧ W.heap[pb]? = some (obp) ∧ (∀ c, c < wr.heap.size → c ≠ wr.heap.size → W.heap[c]? = wr.heap[c]?)) (by kernel_rfl) (by kernel_rfl) ⟨(Below.refl _ _).trans ⟨rfl, rfl, rfl, Nat.le_refl _, fun _ _ => rfl⟩, Nat.le_refl _, HLq.out, HOQ.out, fun c _ _ => rfl⟩ ?_ ?_
           · intro l a W i o hsz h ho hl haf
             obtain ⟨g1, g0, b0, b1, gr⟩ := h.more
             have gz : B0 ≤ W.heap.size := Nat.le_trans (by first | exact Nat.le_refl _ | omega) g0
             have hi : i < 12 := (Array.getElem?_eq_some_iff.1 ho).1
             obtain rfl | rfl | rfl | rfl | rfl | rfl | rfl | rfl | rfl | rfl | rfl | rfl : i = 0 ∨ i = 1 ∨ i = 2 ∨ i = 3 ∨ i = 4 ∨ i = 5 ∨ i = 6 ∨ i = 7 ∨ i = 8 ∨ i = 9 ∨ i = 10 ∨ i = 11 := by omega
             all_goals (obtain rfl := Option.some.inj ho; rw [if_pos (want_none rfl)])
             · have e0 := h.given 0 _ rfl (by kernel_rfl)
               refine wp_val (v := .pointer (some ⟨lb, 0, none⟩)) (w' := W) ?_ ⟨_, rfl, rfl, fun _ _ h => h, g1, g0, b0, b1, (fun c h1 h2 => gr c h1 h2)⟩
               unfold execOp
               simp [e0, go_sem]
             · obtain ⟨u65, e65, x65⟩ := h.new 0 _ 65 rfl rfl (haf ⟨0, .data⟩ (by simp) rfl)
               have y65 : u65 = (.pointer (some ⟨lb, 0, none⟩)) := x65
               subst y65
               refine wp_val (v := .pointer (some ⟨lb, 0, none⟩)) (w' := W) ?_ ⟨_, rfl, rfl, fun _ _ h => h, g1, g0, b0, b1, (fun c h1 h2 => gr c h1 h2)⟩
               unfold execOp
               simp [e65, go_sem]
             · obtain ⟨u66, e66, x66⟩ := h.new 1 _ 66 rfl rfl (haf ⟨1, .data⟩ (by simp) rfl)
               have y66 : u66 = (.pointer (some ⟨lb, 0, none⟩)) := x66
               subst y66
               refine wp_val (v := .pointer (some ⟨lb, 2, none⟩)) (w' := W) ?_ ⟨_, rfl, rfl, fun _ _ h => h, g1, g0, b0, b1, (fun c h1 h2 => gr c h1 h2)⟩
               unfold execOp
               simp [e66, go_sem]
             · obtain ⟨u67, e67, x67⟩ := h.new 2 _ 67 rfl rfl (haf ⟨2, .data⟩ (by simp) rfl)
               have y67 : u67 = (.pointer (some ⟨lb, 2, none⟩)) := x67
               subst y67
               have c_ := b0
               obtain ⟨c0, c1, c2, c3, c4, _, _⟩ := bk5 c_
               refine wp_val (v := .map (some sb)) (w' := W) ?_ ⟨_, rfl, rfl, fun _ _ h => h, g1, g0, b0, b1, (fun c h1 h2 => gr c h1 h2)⟩
               unfold execOp
               simp [e67, c2, go_sem]
             · have e1 := h.given 1 _ rfl (by kernel_rfl)
               refine wp_val (v := .pointer (some ⟨pb, po, none⟩)) (w' := W) ?_ ⟨_, rfl, rfl, fun _ _ h => h, g1, g0, b0, b1, (fun c h1 h2 => gr c h1 h2)⟩
               unfold execOp
               simp [e1, go_sem]
             · obtain ⟨u69, e69, x69⟩ := h.new 4 _ 69 rfl rfl (haf ⟨4, .data⟩ (by simp) rfl)
               have y69 : u69 = (.pointer (some ⟨pb, po, none⟩)) := x69
               subst y69
               refine wp_val (v := .pointer (some ⟨pb, po, none⟩)) (w' := W) ?_ ⟨_, rfl, rfl, fun _ _ h => h, g1, g0, b0, b1, (fun c h1 h2 => gr c h1 h2)⟩
               unfold execOp
               simp [e69, go_sem]
             · obtain ⟨u70, e70, x70⟩ := h.new 5 _ 70 rfl rfl (haf ⟨5, .data⟩ (by simp) rfl)
               have y70 : u70 = (.pointer (some ⟨pb, po, none⟩)) := x70
               subst y70
               refine wp_val (v := .pointer (some ⟨pb, po + 10, none⟩)) (w' := W) ?_ ⟨_, rfl, rfl, fun _ _ h => h, g1, g0, b0, b1, (fun c h1 h2 => gr c h1 h2)⟩
               unfold execOp
               simp [e70, go_sem]
             · obtain ⟨u71, e71, x71⟩ := h.new 6 _ 71 rfl rfl (haf ⟨6, .data⟩ (by simp) rfl)
               have y71 : u71 = (.pointer (some ⟨pb, po + 10, none⟩)) := x71
               subst y71
               have c_ := b1
               have c_1 := (cellq (o := po + 10) (c_.trans HOQ.out.symm)).trans PQ.out
               refine wp_val (v := .slice (some ⟨cb, co, none⟩) 3 cc) (w' := W) ?_ ⟨_, rfl, rfl, fun _ _ h => h, g1, g0, b0, b1, (fun c h1 h2 => gr c h1 h2)⟩
               unfold execOp
               simp [e71, c_1, go_sem]
             · have e9 := h.given 9 _ rfl (by kernel_rfl)
               refine wp_val (v := .int .i64 (((jj : Nat) : Int))) (w' := W) ?_ ⟨_, rfl, rfl, fun _ _ h => h, g1, g0, b0, b1, (fun c h1 h2 => gr c h1 h2)⟩
               unfold execOp
               simp [e9, go_sem]
             · obtain ⟨u72, e72, x72⟩ := h.new 7 _ 72 rfl rfl (haf ⟨7, .data⟩ (by simp) rfl)
               have y72 : u72 = (.slice (some ⟨cb, co, none⟩) 3 cc) := x72
               subst y72
               obtain ⟨u73, e73, x73⟩ := h.new 8 _ 73 rfl rfl (haf ⟨8, .data⟩ (by simp) rfl)
               have y73 : u73 = (.int .i64 (((jj : Nat) : Int))) := x73
               subst y73
               refine wp_val (v := .pointer (some ⟨cb, co + jj * 15, none⟩)) (w' := W) ?_ ⟨_, rfl, rfl, fun _ _ h => h, g1, g0, b0, b1, (fun c h1 h2 => gr c h1 h2)⟩
               unfold execOp
               simp [e72, e73, go_sem, hj0, hj3]
             · obtain ⟨u74, e74, x74⟩ := h.new 9 _ 74 rfl rfl (haf ⟨9, .data⟩ (by simp) rfl)
               have y74 : u74 = (.pointer (some ⟨cb, co + jj * 15, none⟩)) := x74
               subst y74
               refine wp_enter (f := 41) (args := #[.pointer (some ⟨cb, co + jj * 15, none⟩)]) (w' := W) ?_ ((namesOf_none cb (co + jj * 15) _ _ _ W (HCLJ.out W gr g0) HKA.out HKB.out).mono ?_)
               · unfold execOp
                 simp [e74, go_sem]
               · rintro e W' ⟨rfl, rfl⟩
                 exact ⟨_, rfl, _, rfl, rfl, fun _ _ h => h, g1, g0, b0, b1, (fun c h1 h2 => gr c h1 h2)⟩
             · obtain ⟨u68, e68, x68⟩ := h.new 3 _ 68 rfl rfl (haf ⟨3, .data⟩ (by simp) rfl)
               have y68 : u68 = (.map (some sb)) := x68
               subst y68
               obtain ⟨u75, e75, x75⟩ := h.new 10 _ 75 rfl rfl (haf ⟨10, .chain⟩ (by simp) rfl)
               have y75 : u75 = (.slice none 0 0) := x75
               subst y75
               refine wp_enter (f := 34) (args := #[.map (some sb), .slice none 0 0]) (w' := W) ?_ ((leave_nil sb W).mono ?_)
               · unfold execOp
                 simp [e68, e75, go_sem]
               · rintro e W' ⟨rfl, rfl⟩
                 exact ⟨_, rfl, _, rfl, rfl, fun _ _ h => h, g1, g0, b0, b1, (fun c h1 h2 => gr c h1 h2)⟩
           · intro v W9 hv hs hg
             obtain ⟨u1, u0', yl, yP, yr⟩ := hg
             simp only [putAll, Act.put, List.setIfInBounds_toArray, List.set_cons_succ, List.set_cons_zero]
             generalize v 0 = y0, v 1 = y1, v 2 = y2, v 3 = y3, v 4 = y4, v 5 = y5, v 6 = y6, v 7 = y7, v 8 = y8, v 9 = y9, v 10 = y10, v 11 = y11 at *
             have HF9 : Hid (FlJ sb N B0 nmf atf W2 (jj + 1) W9) := ⟨(HSq.out.keep (yr sb (by omega) (by omega))).congr (fun y => by simp [hj00]), fun c h1 h2 => (yr c (by omega) (by omega)).trans (HMq.out c h1 h2), HBq.out.trans u1, by omega⟩
             clear hv hs u1 yl yP yr HMq HSq HBq HLq HLN HNN HCLJ HOQ PQ
             go_wp2
             go_roundw
             case rel => exact ⟨jj + 1, by omega, by go_num, HF9.out⟩
             case measure => simp [intOf]; omega
       · obtain rfl : jj = 3 := by omega
         obtain ⟨g2, g3, g4, g5⟩ := HI.out
         have HL4 := hidC ((g3 lb (by omega) (Ne.symm hsl)).trans HL2.out)
         have HY4 := hidC ((g3 w1.heap.size (by omega) (by omega)).trans HY2.out)
         have HR4 := hidC ((g3 w.heap.size (by omega) (by omega)).trans HR2.out)
         have HB4 := hidC (HB2.out.trans g4)
         have HM4 : Hid (∀ c, c < w.heap.size → c ≠ lb → c ≠ sb → wr.heap[c]? = w.heap[c]?) := fun c h1 h2 h3 => (g3 c (by omega) h3).trans (HM2.out c h1 h2 h3)
         obtain ⟨k0, k1, k2⟩ := cv_row HV2.out
         have HCF := hidC (k0.block (g3 B hBz (by omega)))
         have HCW := hidC (k1.block (g3 B hBz (by omega)))
         have HCO := hidC (k2.block (g3 B hBz (by omega)))
         obtain ⟨obB, hobB⟩ : ∃ o, wr.heap[B]? = some o := ⟨_, Array.getElem?_eq_getElem (by omega)⟩
         have HOB := hidC hobB
         have hcell : ∀ o, wr.cell? ⟨cb, o, none⟩ = w.cell? ⟨cb, o, none⟩ := fun o => cellq (HM4.out cb hcb hcbl hcbs)
         have q0 := (hcell co).trans ((HCL.out 0 (by decide)).c0.trans (by rw [HK0.out]))
         have q1 := (hcell (co + 1)).trans ((HCL.out 0 (by decide)).c1.trans (by rw [HN0.out]))
         have q2 := (hcell (co + 2)).trans ((HCL.out 0 (by decide)).c2.trans (by rw [HA0.out]))
         have q15 := (hcell (co + 15)).trans ((HCL.out 1 (by decide)).c0.trans (by rw [HK1.out]))
         have q30 := (hcell (co + 30)).trans ((HCL.out 2 (by decide)).c0.trans (by rw [HK2.out]))
         have q33 := (hcell (co + 33)).trans HDN.out
         have HQ0 := hidC q0
         have HQ1 := hidC q1
         have HQ2 := hidC q2
         have HQ15 := hidC q15
         have HQ33 := hidC q33
         have d24 : wr.cell? ⟨B, 24, none⟩ = some (.pointer (some ⟨cb, co + 30, none⟩)) := HCO.out.c0
         have CSo : Hid (∀ (W : World) (c : Nat), W.heap[lb]? = some (.cells #[m1, m2, .map (some sb), .int .i64 ((c : Nat) : Int), .int .i64 0] 49) → c + 4 ≤ 700 → (∀ x, x < wr.heap.size → x ≠ lb → x ≠ w.heap.size → W.heap[x]? = wr.heap[x]?) → wr.heap.size ≤ W.heap.size → Calls Tryd.prog 42 #[.pointer (some ⟨lb, 0, none⟩), .slice (some ⟨B, 0, none⟩) 2 vc, .agg #[.pointer (some ⟨cb, co + 30, none⟩), .int .i64 1, .int .i64 (it.kind), .int .i64 (it.n), .string it.s, .string ⟨#[]⟩, .string ⟨#[]⟩, .int .i64 0, .int .i64 0, .int .i64 0, .string ⟨#[]⟩, .slice none 0 0], .agg #[.int .i64 1, .int .i64 (it.kind), .int .i64 (it.n), .string it.s, .string ⟨#[]⟩, .string ⟨#[]⟩, .int .i64 0, .int .i64 0, .int .i64 0, .string ⟨#[]⟩, .slice none 0 0]] W fun e w' => ∃ n9 n100 n101 : Nat, e = .returned (.agg #[.int .i64 6, .int .i64 0, .int .i64 0, .string ⟨#[]⟩, .string nmf, .string atf, .int .i64 0, .int .i64 0, .int .i64 0, .string ⟨#[]⟩, .slice (some ⟨n9, 0, none⟩) 3 3]) ∧ Kp lb m1 m2 (.map (some sb)) (c + 4) W w' ∧ W.heap.size ≤ n9 ∧ w'.heap[n9]? = some (.cells #[.int .i64 1, .int .i64 (it.kind), .int .i64 (it.n), .string it.s, .string ⟨#[]⟩, .string ⟨#[]⟩, .int .i64 0, .int .i64 0, .int .i64 0, .string ⟨#[]⟩, .slice none 0 0, .int .i64 1, .int .i64 (it.kind), .int .i64 (it.n), .string it.s, .string ⟨#[]⟩, .string ⟨#[]⟩, .int .i64 0, .int .i64 0, .int .i64 0, .string ⟨#[]⟩, .slice none 0 0, .int .i64 7, .int .i64 0, .int .i64 0, .string ⟨#[]⟩, .string ⟨#[]⟩, .string ⟨#[]⟩, .int .i64 0, .int .i64 0, .int .i64 0, .string ⟨#[]⟩, .slice (some ⟨n100, 0, none⟩) 3 3] 39) ∧ W.heap.size ≤ n100 ∧ w'.heap[n100]? = some (.cells #[.int .i64 8, .int .i64 0, .int .i64 0, .string ⟨#[]⟩, .string ⟨#[98, 111, 111, 108, 101, 97, 110]⟩, .string ⟨#[]⟩, .int .i64 0, .int .i64 0, .int .i64 0, .string ⟨#[]⟩, .slice (some ⟨n101, 0, none⟩) 1 1, .int .i64 1, .int .i64 (it.kind), .int .i64 (it.n), .string it.s, .string ⟨#[]⟩, .string ⟨#[]⟩, .int .i64 0, .int .i64 0, .int .i64 0, .string ⟨#[]⟩, .slice none 0 0, .int .i64 3, .int .i64 0, .int .i64 0, .string ⟨#[]⟩, .string ⟨#[]⟩, .string ⟨#[]⟩, .int .i64 0, .int .i64 0, .int .i64 0, .string ⟨#[]⟩, .slice none 0 0] 39) ∧ W.heap.size ≤ n101 ∧ w'.heap[n101]? = some (.cells #[.int .i64 1, .int .i64 (it.kind), .int .i64 (it.n), .string it.s, .string ⟨#[]⟩, .string ⟨#[]⟩, .int .i64 0, .int .i64 0, .int .i64 0, .string ⟨#[]⟩, .slice none 0 0] 39)) := fun W c h1 h2 h3 h4 =>
           have ec := fun o => cellq (o := o) (h3 cb (by omega) hcbl (by omega))
           have eB := h3 B (by omega) (by omega) (by omega)
           sorted_three lb m1 m2 (.map (some sb)) c ⟨cb, co, 1, it, ⟨#[]⟩, ⟨#[]⟩, 0, 0, 0, ⟨#[]⟩, none, 0, 0⟩ ⟨cb, co + 15, 1, it, ⟨#[]⟩, ⟨#[]⟩, 0, 0, 0, ⟨#[]⟩, none, 0, 0⟩ ⟨cb, co + 30, 1, it, ⟨#[]⟩, ⟨#[]⟩, 0, 0, 0, ⟨#[]⟩, none, 0, 0⟩ B vc 1 it ⟨#[]⟩ ⟨#[]⟩ 0 0 0 ⟨#[]⟩ none 0 0 W h1 h2 (by omega) (HCF.out.block eB) (HCW.out.block eB) (by omega) (by omega) ((ec co).trans HQ0.out) (by simp only []; omega) hcbl ((ec (co + 15)).trans HQ15.out) (by simp only []; omega) hcbl nmf atf ((ec (co + 1)).trans HQ1.out) ((ec (co + 2)).trans HQ2.out) hnf haf ((ec (co + 33)).trans HQ33.out) (by simp only []; omega)
         clear g2 g3 g4 HI k0 k1 k2 hobB hcell q0 q1 q2 q15 q33
         go_wp2_with (go_at_call 40; refine (keeps_is lb m1 m2 _ (p + 4) _ wr HL4.out (by omega)).mono ?_; rintro e w2 ⟨rfl, hw2⟩; obtain rfl := hw2.symm)
         have HLc : wr.heap[lb]? = some (.cells #[m1, m2, .map (some sb), .int .i64 ((p + 4 + 4 * one ((Array.replicate 11 false).getD 9 false) : Nat) : Int), .int .i64 0] 49) := HL4.out
         clear d24 q30
         have hvc2 : ¬ (vc : Int) < 2 := by omega
         refine wp_region_slots (by kernel_rfl) (fun j v W => (match j with | 0 => v = (.pointer (some ⟨lb, 0, none⟩)) | 1 => v = (.slice (some ⟨B, 0, none⟩) 3 vc) | 2 => v = (.int .i64 2) | 3 => v = (.slice (some ⟨B, 0, none⟩) 2 vc) | 4 => v = (.slice (some ⟨B, 0, none⟩) 3 vc) | 5 => v = (.int .i64 2) | 6 => v = (.pointer (some ⟨B, 24, none⟩)) | 7 => v = (.agg #[.pointer (some ⟨cb, co + 30, none⟩), .int .i64 1, .int .i64 (it.kind), .int .i64 (it.n), .string it.s, .string ⟨#[]⟩, .string ⟨#[]⟩, .int .i64 0, .int .i64 0, .int .i64 0, .string ⟨#[]⟩, .slice none 0 0]) | 8 => v = (.agg #[.int .i64 1, .int .i64 (it.kind), .int .i64 (it.n), .string it.s, .string ⟨#[]⟩, .string ⟨#[]⟩, .int .i64 0, .int .i64 0, .int .i64 0, .string ⟨#[]⟩, .slice none 0 0]) | _ => True) ∧ (j = 9 → ∃ n9 n100 n101 : Nat, v = (.agg #[.int .i64 6, .int .i64 0, .int .i64 0, .string ⟨#[]⟩, .string nmf, .string atf, .int .i64 0, .int .i64 0, .int .i64 0, .string ⟨#[]⟩, .slice (some ⟨n9, 0, none⟩) 3 3]) ∧ wr.heap.size ≤ n9 ∧ W.heap[n9]? = some (.cells #[.int .i64 1, .int .i64 (it.kind), .int .i64 (it.n), .string it.s, .string ⟨#[]⟩, .string ⟨#[]⟩, .int .i64 0, .int .i64 0, .int .i64 0, .string ⟨#[]⟩, .slice none 0 0, .int .i64 1, .int .i64 (it.kind), .int .i64 (it.n), .string it.s, .string ⟨#[]⟩, .string ⟨#[]⟩, .int .i64 0, .int .i64 0, .int .i64 0, .string ⟨#[]⟩, .slice none 0 0, .int .i64 7, .int .i64 0, .int .i64 0, .string ⟨#[]⟩, .string ⟨#[]⟩, .string ⟨#[]⟩, .int .i64 0, .int .i64 0, .int .i64 0, .string ⟨#[]⟩, .slice (some ⟨n100, 0, none⟩) 3 3] 39) ∧ wr.heap.size ≤ n100 ∧ W.heap[n100]? = some (.cells #[.int .i64 8, .int .i64 0, .int .i64 0, .string ⟨#[]⟩, .string ⟨#[98, 111, 111, 108, 101, 97, 110]⟩, .string ⟨#[]⟩, .int .i64 0, .int .i64 0, .int .i64 0, .string ⟨#[]⟩, .slice (some ⟨n101, 0, none⟩) 1 1, .int .i64 1, .int .i64 (it.kind), .int .i64 (it.n), .string it.s, .string ⟨#[]⟩, .string ⟨#[]⟩, .int .i64 0, .int .i64 0, .int .i64 0, .string ⟨#[]⟩, .slice none 0 0, .int .i64 3, .int .i64 0, .int .i64 0, .string ⟨#[]⟩, .string ⟨#[]⟩, .string ⟨#[]⟩, .int .i64 0, .int .i64 0, .int .i64 0, .string ⟨#[]⟩, .slice none 0 0] 39) ∧ wr.heap.size ≤ n101 ∧ W.heap[n101]? = some (.cells #[.int .i64 1, .int .i64 (it.kind), .int .i64 (it.n), .string it.s, .string ⟨#[]⟩, .string ⟨#[]⟩, .int .i64 0, .int .i64 0, .int .i64 0, .string ⟨#[]⟩, .slice none 0 0] 39))) (fun l a W => Below lb wr W ∧ wr.heap.size ≤ W.heap.size ∧ W.heap[B]? = some (obB) ∧ W.heap[w1.heap.size]? = some (.cells #[.int .i64 1, .int .i64 (it.kind), .int .i64 (it.n), .string it.s, .string ⟨#[]⟩, .string ⟨#[]⟩, .int .i64 0, .int .i64 0, .int .i64 0, .string ⟨#[]⟩, .slice none 0 0] 39) ∧ ((l.getD 10 false = false → W.heap[w.heap.size]? = some (.cells #[.int .i64 0, .int .i64 0, .int .i64 0, .string ⟨#[]⟩, .string ⟨#[]⟩, .string ⟨#[]⟩, .int .i64 0, .int .i64 0, .int .i64 0, .string ⟨#[]⟩, .slice none 0 0] 39)) ∧ (l.getD 10 false = true → ∃ n9 n100 n101 : Nat, W.heap[w.heap.size]? = some (.cells #[.int .i64 6, .int .i64 0, .int .i64 0, .string ⟨#[]⟩, .string nmf, .string atf, .int .i64 0, .int .i64 0, .int .i64 0, .string ⟨#[]⟩, .slice (some ⟨n9, 0, none⟩) 3 3] 39) ∧ wr.heap.size ≤ n9 ∧ W.heap[n9]? = some (.cells #[.int .i64 1, .int .i64 (it.kind), .int .i64 (it.n), .string it.s, .string ⟨#[]⟩, .string ⟨#[]⟩, .int .i64 0, .int .i64 0, .int .i64 0, .string ⟨#[]⟩, .slice none 0 0, .int .i64 1, .int .i64 (it.kind), .int .i64 (it.n), .string it.s, .string ⟨#[]⟩, .string ⟨#[]⟩, .int .i64 0, .int .i64 0, .int .i64 0, .string ⟨#[]⟩, .slice none 0 0, .int .i64 7, .int .i64 0, .int .i64 0, .string ⟨#[]⟩, .string ⟨#[]⟩, .string ⟨#[]⟩, .int .i64 0, .int .i64 0, .int .i64 0, .string ⟨#[]⟩, .slice (some ⟨n100, 0, none⟩) 3 3] 39) ∧ wr.heap.size ≤ n100 ∧ W.heap[n100]? = some (.cells #[.int .i64 8, .int .i64 0, .int .i64 0, .string ⟨#[]⟩, .string ⟨#[98, 111, 111, 108, 101, 97, 110]⟩, .string ⟨#[]⟩, .int .i64 0, .int .i64 0, .int .i64 0, .string ⟨#[]⟩, .slice (some ⟨n101, 0, none⟩) 1 1, .int .i64 1, .int .i64 (it.kind), .int .i64 (it.n), .string it.s, .string ⟨#[]⟩, .string ⟨#[]⟩, .int .i64 0, .int .i64 0, .int .i64 0, .string ⟨#[]⟩, .slice none 0 0, .int .i64 3, .int .i64 0, .int .i64 0, .string ⟨#[]⟩, .string ⟨#[]⟩, .string ⟨#[]⟩, .int .i64 0, .int .i64 0, .int .i64 0, .string ⟨#[]⟩, .slice none 0 0] 39) ∧ wr.heap.size ≤ n101 ∧ W.heap[n101]? = some (.cells #[.int .i64 1, .int .i64 (it.kind), .int .i64 (it.n), .string it.s, .string ⟨#[]⟩, .string ⟨#[]⟩, .int .i64 0, .int .i64 0, .int .i64 0, .string ⟨#[]⟩, .slice none 0 0] 39))) ∧ W.heap[lb]? = some (.cells #[m1, m2, .map (some sb), .int .i64 (((p + 4 + 4 * one (l.getD 9 false)) : Nat) : Int), .int .i64 0] 49) ∧ (∀ c, c < wr.heap.size → c ≠ lb → c ≠ w.heap.size → W.heap[c]? = wr.heap[c]?)) (by kernel_rfl) (by kernel_rfl) ⟨(Below.refl _ _).trans ⟨rfl, rfl, rfl, Nat.le_refl _, fun _ _ => rfl⟩, Nat.le_refl _, HOB.out, HY4.out, ⟨fun _ => HR4.out, fun e7 => by rw [Array.getD_eq_getD_getElem?, Array.getElem?_replicate] at e7; split at e7 <;> cases e7⟩, HLc, fun c _ _ _ => rfl⟩ ?_ ?_
         · intro l a W i o hsz h ho hl haf
           obtain ⟨g1, g0, b0, b1, b2, bc, gr⟩ := h.more
           have gz : lb ≤ W.heap.size := Nat.le_trans (by first | exact Nat.le_refl _ | omega) g0
           have hi : i < 11 := (Array.getElem?_eq_some_iff.1 ho).1
           obtain rfl | rfl | rfl | rfl | rfl | rfl | rfl | rfl | rfl | rfl | rfl : i = 0 ∨ i = 1 ∨ i = 2 ∨ i = 3 ∨ i = 4 ∨ i = 5 ∨ i = 6 ∨ i = 7 ∨ i = 8 ∨ i = 9 ∨ i = 10 := by omega
           all_goals (obtain rfl := Option.some.inj ho; rw [if_pos (want_none rfl)])
           · have e0 := h.given 0 _ rfl (by kernel_rfl)
             have m10 := h.later 10 0 _ ⟨0, .phase⟩ rfl (by simp) rfl rfl hl
             refine wp_val (v := .pointer (some ⟨lb, 0, none⟩)) (w' := W) ?_ ⟨_, rfl, ⟨rfl, fun e => absurd e (by decide)⟩, fun _ _ h => h, g1, g0, b0, b1, ⟨fun _ => (b2.1 m10), fun e7 => absurd ((set_other_get (show 0 ≠ 10 by decide)).symm.trans e7) (by rw [m10]; decide)⟩, (by simp only [set_other_get (show 0 ≠ 9 by decide)]; exact bc), (fun c h1 h2 h3 => gr c h1 h2 h3)⟩
             unfold execOp
             simp [e0, go_sem]
           · have e5 := h.given 5 _ rfl (by kernel_rfl)
             have m10 := h.later 10 1 _ ⟨1, .phase⟩ rfl (by simp) rfl rfl hl
             refine wp_val (v := .slice (some ⟨B, 0, none⟩) 3 vc) (w' := W) ?_ ⟨_, rfl, ⟨rfl, fun e => absurd e (by decide)⟩, fun _ _ h => h, g1, g0, b0, b1, ⟨fun _ => (b2.1 m10), fun e7 => absurd ((set_other_get (show 1 ≠ 10 by decide)).symm.trans e7) (by rw [m10]; decide)⟩, (by simp only [set_other_get (show 1 ≠ 9 by decide)]; exact bc), (fun c h1 h2 h3 => gr c h1 h2 h3)⟩
             unfold execOp
             simp [e5, go_sem]
           · have e10 := h.given 10 _ rfl (by kernel_rfl)
             have m10 := h.later 10 2 _ ⟨2, .phase⟩ rfl (by simp) rfl rfl hl
             refine wp_val (v := .int .i64 2) (w' := W) ?_ ⟨_, rfl, ⟨rfl, fun e => absurd e (by decide)⟩, fun _ _ h => h, g1, g0, b0, b1, ⟨fun _ => (b2.1 m10), fun e7 => absurd ((set_other_get (show 2 ≠ 10 by decide)).symm.trans e7) (by rw [m10]; decide)⟩, (by simp only [set_other_get (show 2 ≠ 9 by decide)]; exact bc), (fun c h1 h2 h3 => gr c h1 h2 h3)⟩
             unfold execOp
             simp [e10, go_sem]
           · obtain ⟨u99, e99, x99⟩ := h.new 1 _ 99 rfl rfl (haf ⟨1, .data⟩ (by simp) rfl)
             have y99 : u99 = (.slice (some ⟨B, 0, none⟩) 3 vc) := x99.1
             subst y99
             obtain ⟨u100, e100, x100⟩ := h.new 2 _ 100 rfl rfl (haf ⟨2, .data⟩ (by simp) rfl)
             have y100 : u100 = (.int .i64 2) := x100.1
             subst y100
             have m10 := h.later 10 3 _ ⟨3, .phase⟩ rfl (by simp) rfl rfl hl
             refine wp_val (v := .slice (some ⟨B, 0, none⟩) 2 vc) (w' := W) ?_ ⟨_, rfl, ⟨rfl, fun e => absurd e (by decide)⟩, fun _ _ h => h, g1, g0, b0, b1, ⟨fun _ => (b2.1 m10), fun e7 => absurd ((set_other_get (show 3 ≠ 10 by decide)).symm.trans e7) (by rw [m10]; decide)⟩, (by simp only [set_other_get (show 3 ≠ 9 by decide)]; exact bc), (fun c h1 h2 h3 => gr c h1 h2 h3)⟩
             unfold execOp
             simp [e99, e100, go_sem, hvc2]
           · have e5 := h.given 5 _ rfl (by kernel_rfl)
             have m10 := h.later 10 4 _ ⟨4, .phase⟩ rfl (by simp) rfl rfl hl
             refine wp_val (v := .slice (some ⟨B, 0, none⟩) 3 vc) (w' := W) ?_ ⟨_, rfl, ⟨rfl, fun e => absurd e (by decide)⟩, fun _ _ h => h, g1, g0, b0, b1, ⟨fun _ => (b2.1 m10), fun e7 => absurd ((set_other_get (show 4 ≠ 10 by decide)).symm.trans e7) (by rw [m10]; decide)⟩, (by simp only [set_other_get (show 4 ≠ 9 by decide)]; exact bc), (fun c h1 h2 h3 => gr c h1 h2 h3)⟩
             unfold execOp
             simp [e5, go_sem]
           · have e10 := h.given 10 _ rfl (by kernel_rfl)
             have m10 := h.later 10 5 _ ⟨5, .phase⟩ rfl (by simp) rfl rfl hl
             refine wp_val (v := .int .i64 2) (w' := W) ?_ ⟨_, rfl, ⟨rfl, fun e => absurd e (by decide)⟩, fun _ _ h => h, g1, g0, b0, b1, ⟨fun _ => (b2.1 m10), fun e7 => absurd ((set_other_get (show 5 ≠ 10 by decide)).symm.trans e7) (by rw [m10]; decide)⟩, (by simp only [set_other_get (show 5 ≠ 9 by decide)]; exact bc), (fun c h1 h2 h3 => gr c h1 h2 h3)⟩
             unfold execOp
             simp [e10, go_sem]
           · obtain ⟨u102, e102, x102⟩ := h.new 4 _ 102 rfl rfl (haf ⟨4, .data⟩ (by simp) rfl)
             have y102 : u102 = (.slice (some ⟨B, 0, none⟩) 3 vc) := x102.1
             subst y102
             obtain ⟨u103, e103, x103⟩ := h.new 5 _ 103 rfl rfl (haf ⟨5, .data⟩ (by simp) rfl)
             have y103 : u103 = (.int .i64 2) := x103.1
             subst y103
             have m10 := h.later 10 6 _ ⟨6, .phase⟩ rfl (by simp) rfl rfl hl
             refine wp_val (v := .pointer (some ⟨B, 24, none⟩)) (w' := W) ?_ ⟨_, rfl, ⟨rfl, fun e => absurd e (by decide)⟩, fun _ _ h => h, g1, g0, b0, b1, ⟨fun _ => (b2.1 m10), fun e7 => absurd ((set_other_get (show 6 ≠ 10 by decide)).symm.trans e7) (by rw [m10]; decide)⟩, (by simp only [set_other_get (show 6 ≠ 9 by decide)]; exact bc), (fun c h1 h2 h3 => gr c h1 h2 h3)⟩
             unfold execOp
             simp [e102, e103, go_sem]
           · obtain ⟨u104, e104, x104⟩ := h.new 6 _ 104 rfl rfl (haf ⟨6, .data⟩ (by simp) rfl)
             have y104 : u104 = (.pointer (some ⟨B, 24, none⟩)) := x104.1
             subst y104
             have m10 := h.later 10 7 _ ⟨7, .phase⟩ rfl (by simp) rfl rfl hl
             have c_ := b0
             obtain ⟨d24, d25, d26, d27, d28, d29, d30, d31, d32, d33, d34, d35⟩ := HCO.out.block (c_.trans HOB.out.symm)
             refine wp_val (v := .agg #[.pointer (some ⟨cb, co + 30, none⟩), .int .i64 1, .int .i64 (it.kind), .int .i64 (it.n), .string it.s, .string ⟨#[]⟩, .string ⟨#[]⟩, .int .i64 0, .int .i64 0, .int .i64 0, .string ⟨#[]⟩, .slice none 0 0]) (w' := W) ?_ ⟨_, rfl, ⟨rfl, fun e => absurd e (by decide)⟩, fun _ _ h => h, g1, g0, b0, b1, ⟨fun _ => (b2.1 m10), fun e7 => absurd ((set_other_get (show 7 ≠ 10 by decide)).symm.trans e7) (by rw [m10]; decide)⟩, (by simp only [set_other_get (show 7 ≠ 9 by decide)]; exact bc), (fun c h1 h2 h3 => gr c h1 h2 h3)⟩
             unfold execOp
             simp [e104, d24, d25, d26, d27, d28, d29, d30, d31, d32, d33, d34, d35, go_sem]
           · have e8 := h.given 8 _ rfl (by kernel_rfl)
             have m10 := h.later 10 8 _ ⟨8, .phase⟩ rfl (by simp) rfl rfl hl
             have c_ := b1
             obtain ⟨c0, c1, c2, c3, c4, c5, c6, c7, c8, c9, c10, cf_, _⟩ := bk11 c_
             refine wp_val (v := .agg #[.int .i64 1, .int .i64 (it.kind), .int .i64 (it.n), .string it.s, .string ⟨#[]⟩, .string ⟨#[]⟩, .int .i64 0, .int .i64 0, .int .i64 0, .string ⟨#[]⟩, .slice none 0 0]) (w' := W) ?_ ⟨_, rfl, ⟨rfl, fun e => absurd e (by decide)⟩, fun _ _ h => h, g1, g0, b0, b1, ⟨fun _ => (b2.1 m10), fun e7 => absurd ((set_other_get (show 8 ≠ 10 by decide)).symm.trans e7) (by rw [m10]; decide)⟩, (by simp only [set_other_get (show 8 ≠ 9 by decide)]; exact bc), (fun c h1 h2 h3 => gr c h1 h2 h3)⟩
             unfold execOp
             simp [e8, c0, c1, c2, c3, c4, c5, c6, c7, c8, c9, c10, go_sem]
           · obtain ⟨u98, e98, x98⟩ := h.new 0 _ 98 rfl rfl (haf ⟨0, .data⟩ (by simp) rfl)
             have y98 : u98 = (.pointer (some ⟨lb, 0, none⟩)) := x98.1
             subst y98
             obtain ⟨u101, e101, x101⟩ := h.new 3 _ 101 rfl rfl (haf ⟨3, .data⟩ (by simp) rfl)
             have y101 : u101 = (.slice (some ⟨B, 0, none⟩) 2 vc) := x101.1
             subst y101
             obtain ⟨u105, e105, x105⟩ := h.new 7 _ 105 rfl rfl (haf ⟨7, .data⟩ (by simp) rfl)
             have y105 : u105 = (.agg #[.pointer (some ⟨cb, co + 30, none⟩), .int .i64 1, .int .i64 (it.kind), .int .i64 (it.n), .string it.s, .string ⟨#[]⟩, .string ⟨#[]⟩, .int .i64 0, .int .i64 0, .int .i64 0, .string ⟨#[]⟩, .slice none 0 0]) := x105.1
             subst y105
             obtain ⟨u106, e106, x106⟩ := h.new 8 _ 106 rfl rfl (haf ⟨8, .data⟩ (by simp) rfl)
             have y106 : u106 = (.agg #[.int .i64 1, .int .i64 (it.kind), .int .i64 (it.n), .string it.s, .string ⟨#[]⟩, .string ⟨#[]⟩, .int .i64 0, .int .i64 0, .int .i64 0, .string ⟨#[]⟩, .slice none 0 0]) := x106.1
             subst y106
             have m10 := h.later 10 9 _ ⟨9, .phase⟩ rfl (by simp) rfl rfl hl
             have m9 : l.getD 9 false = false := by rw [Array.getD_eq_getD_getElem?] at hl ⊢; cases hx : l[9]? with | none => rfl | some bb => rw [hx] at hl; exact hl
             have o1 : one true = 1 := rfl
             have o0 : one false = 0 := rfl
             have o_9 := one_le (l.getD 9 false)
             have ob : (p + 4 + 4 * one (l.getD 9 false)) + 4 ≤ 700 := by rw [m9, o0]; omega
             have oc : p + 4 + 4 * one ((l.setIfInBounds 9 true).getD 9 false) = (p + 4 + 4 * one (l.getD 9 false)) + 4 := by rw [set_this_get (i := 9) (n := 11) hsz (by decide), m9, o0, o1] <;> omega
             refine wp_enter (f := 42) (args := #[.pointer (some ⟨lb, 0, none⟩), .slice (some ⟨B, 0, none⟩) 2 vc, .agg #[.pointer (some ⟨cb, co + 30, none⟩), .int .i64 1, .int .i64 (it.kind), .int .i64 (it.n), .string it.s, .string ⟨#[]⟩, .string ⟨#[]⟩, .int .i64 0, .int .i64 0, .int .i64 0, .string ⟨#[]⟩, .slice none 0 0], .agg #[.int .i64 1, .int .i64 (it.kind), .int .i64 (it.n), .string it.s, .string ⟨#[]⟩, .string ⟨#[]⟩, .int .i64 0, .int .i64 0, .int .i64 0, .string ⟨#[]⟩, .slice none 0 0]]) (w' := W) ?_ ((CSo.out W (p + 4 + 4 * one (l.getD 9 false)) bc ob gr g0).mono ?_)
             · unfold execOp
               simp [e98, e101, e105, e106, go_sem]
             · rintro e W' ⟨n9, n100, n101, rfl, hk, q1, hs9, q2, hs100, q3, hs101⟩
               exact ⟨_, rfl, _, rfl, ⟨trivial, fun _ => ⟨n9, n100, n101, rfl, by omega, hs9, by omega, hs100, by omega, hs101⟩⟩, fun j u hd => ⟨hd.1, fun e => by obtain ⟨n9, n100, n101, ev, p_n9, f_n9, p_n100, f_n100, p_n101, f_n101⟩ := hd.2 e; exact ⟨n9, n100, n101, ev, p_n9, (hk.2.1 _ (Array.getElem?_eq_some_iff.1 (f_n9)).1 (by omega)).trans (f_n9), p_n100, (hk.2.1 _ (Array.getElem?_eq_some_iff.1 (f_n100)).1 (by omega)).trans (f_n100), p_n101, (hk.2.1 _ (Array.getElem?_eq_some_iff.1 (f_n101)).1 (by omega)).trans (f_n101)⟩⟩, g1.trans hk.2.2, Nat.le_trans g0 hk.2.2.size, (hk.2.1 _ (Array.getElem?_eq_some_iff.1 (b0)).1 (by omega)).trans (b0), (hk.2.1 _ (Array.getElem?_eq_some_iff.1 (b1)).1 (by omega)).trans (b1), ⟨fun _ => (hk.2.1 _ (Array.getElem?_eq_some_iff.1 ((b2.1 m10))).1 (by omega)).trans ((b2.1 m10)), fun e7 => absurd ((set_other_get (show 9 ≠ 10 by decide)).symm.trans e7) (by rw [m10]; decide)⟩, (by rw [oc]; exact hk.1), (fun c h1 h2 h3 => (hk.2.1 c (Nat.lt_of_lt_of_le h1 g0) h2).trans (gr c h1 h2 h3))⟩
           · have e4 := h.given 4 _ rfl (by kernel_rfl)
             obtain ⟨u107, e107, x107⟩ := h.new 9 _ 107 rfl rfl (haf ⟨9, .phase⟩ (by simp) rfl)
             obtain ⟨n9, n100, n101, rfl, p_n9, f_n9, p_n100, f_n100, p_n101, f_n101⟩ := x107.2 rfl
             have m10 : l.getD 10 false = false := by rw [Array.getD_eq_getD_getElem?] at hl ⊢; cases hx : l[10]? with | none => rfl | some bb => rw [hx] at hl; exact hl
             have c_ := b2.1 m10
             obtain ⟨c0, c1, c2, c3, c4, c5, c6, c7, c8, c9, c10, cf_, _⟩ := bk11 c_
             obtain ⟨W', hW'⟩ : ∃ V, V = (((((((((((W).setCell ⟨w.heap.size, 0, none⟩ (.int .i64 6)).setCell ⟨w.heap.size, 1, none⟩ (.int .i64 0)).setCell ⟨w.heap.size, 2, none⟩ (.int .i64 0)).setCell ⟨w.heap.size, 3, none⟩ (.string ⟨#[]⟩)).setCell ⟨w.heap.size, 4, none⟩ (.string nmf)).setCell ⟨w.heap.size, 5, none⟩ (.string atf)).setCell ⟨w.heap.size, 6, none⟩ (.int .i64 0)).setCell ⟨w.heap.size, 7, none⟩ (.int .i64 0)).setCell ⟨w.heap.size, 8, none⟩ (.int .i64 0)).setCell ⟨w.heap.size, 9, none⟩ (.string ⟨#[]⟩)).setCell ⟨w.heap.size, 10, none⟩ (.slice (some ⟨n9, 0, none⟩) 3 3) := ⟨_, rfl⟩
             have hP : W' = putL W (w.heap.size) 0 [.int .i64 6, .int .i64 0, .int .i64 0, .string ⟨#[]⟩, .string nmf, .string atf, .int .i64 0, .int .i64 0, .int .i64 0, .string ⟨#[]⟩, .slice (some ⟨n9, 0, none⟩) 3 3] := hW'
             refine wp_skip (w' := W') ?_ ⟨undef, rfl, ⟨trivial, fun e => absurd e (by decide)⟩, fun j u hd => ⟨hd.1, fun e => by obtain ⟨n9, n100, n101, ev, p_n9, f_n9, p_n100, f_n100, p_n101, f_n101⟩ := hd.2 e; exact ⟨n9, n100, n101, ev, p_n9, (by rw [hP]; exact (putL_other (by omega) _ _ _).trans (f_n9)), p_n100, (by rw [hP]; exact (putL_other (by omega) _ _ _).trans (f_n100)), p_n101, (by rw [hP]; exact (putL_other (by omega) _ _ _).trans (f_n101))⟩⟩, (by rw [hP]; exact putL_below (by omega) _ _ _ g1), Nat.le_trans g0 (by rw [hP]; exact (putL_below (B := 0) (w0 := W) (Nat.zero_le _) _ _ _ (Below.refl _ _)).size), (by rw [hP]; exact (putL_other (by omega) _ _ _).trans (b0)), (by rw [hP]; exact (putL_other (by omega) _ _ _).trans (b1)), ⟨fun e7 => absurd ((set_this_get (i := 10) (n := 11) hsz (by decide)).symm.trans e7) (by decide), fun _ => ⟨n9, n100, n101, (by rw [hP]; exact putL_same c_ _ rfl), p_n9, (by rw [hP]; exact (putL_other (by omega) _ _ _).trans (f_n9)), p_n100, (by rw [hP]; exact (putL_other (by omega) _ _ _).trans (f_n100)), p_n101, (by rw [hP]; exact (putL_other (by omega) _ _ _).trans (f_n101))⟩⟩, (by simp only [set_other_get (show 10 ≠ 9 by decide)]; exact (by rw [hP]; exact (putL_other (by omega) _ _ _).trans (bc))), (fun c h1 h2 h3 => (by rw [hP]; exact (putL_other h3 _ _ _).trans (gr c h1 h2 h3)))⟩
             rw [hW']
             clear hP hW'
             unfold execOp
             simp [e4, e107, c0, c1, c2, c3, c4, c5, c6, c7, c8, c9, c10, cf_, go_sem]
         · intro v W7 hv hs hg
           obtain ⟨u1, u0', yB, yY, yR, yc, yr⟩ := hg
           obtain ⟨n13, n12, n100, z1, z2, z3, z4, z5, z6, z7⟩ := yR.2 rfl
           have HL7 : Hid (W7.heap[lb]? = some (.cells #[m1, m2, .map (some sb), .int .i64 ((p + 8 : Nat) : Int), .int .i64 0] 49)) := yc
           obtain ⟨y0, y1, y2, y3, y4, y5, y6, y7, y8, y9, y10, _, _⟩ := bk11 z1
           have HM7 : Hid (∀ c, c < w.heap.size → c ≠ lb → c ≠ sb → W7.heap[c]? = w.heap[c]?) := fun c h1 h2 h3 => (yr c (by omega) h2 (by omega)).trans (HM4.out c h1 h2 h3)
           have HB7 : Hid (Below B0 w W7) := HB4.out.trans (u1.mono hB1)
           have HZ3 := hidC z3
           have HZ5 := hidC z5
           have HZ7 := hidC z7
           clear hv hs yc yr yR yB yY u1 z1 z3 z5 z7 CSo HLc
           simp only [putAll, Act.put]
           go_wp2
           refine bodyPost_ret (v := .agg #[.int .i64 6, .int .i64 0, .int .i64 0, .string ⟨#[]⟩, .string nmf, .string atf, .int .i64 0, .int .i64 0, .int .i64 0, .string ⟨#[]⟩, .slice (some ⟨n13, 0, none⟩) 3 3]) (by simp [results, Tryd.results17, go_sem, y0, y1, y2, y3, y4, y5, y6, y7, y8, y9, y10]) rfl ?_
           refine (show FlT lb sb m1 m2 p B0 it nmf atf w _ _ from ?_)
           unfold FlT
           exact ⟨n13, n12, n100, rfl, HL7.out, HM7.out, HB7.out, by omega, HZ3.out, by omega, HZ5.out, by omega, HZ7.out⟩
end Go.Proofs.YtkhlfdnlpimojaaDoor
