/-
  THE LAW RankCounts of package pleacherkeep.
-/
import Derived.Test.YtkfpjlcflbghoaaDoorKpUn
import Derived.Test.YtkfpjlcflbghoaaDoorKpSame
import Derived.Test.YtkfpjlcflbghoaaDoorRlRank2
import Derived.Deep.QuietTactic
import Derived.BigQuiet
import Derived.Sort.AtCall
import Derived.Shelf.SlSortCmp.QuietGrown
set_option linter.unusedVariables false
namespace Go.Proofs.YtkfpjlcflbghoaaDoor
set_option maxRecDepth 100000
open Go.RowKit Go.WideShapes

def nN : ByteArray := ⟨#[110]⟩
theorem col_at0 (a b : ByteArray) : colI (twoC a b) 2 a = (0 : Nat) := colI_hit (by decide) (by simp [twoC]) (fun j hj => by omega)
theorem col_at1 {a b : ByteArray} (h : (a.toList == b.toList) = false) : colI (twoC a b) 2 b = (1 : Nat) := by
  refine colI_hit (by decide) (by simp [twoC]) (fun j hj => ?_)
  obtain rfl : j = 0 := by omega
  exact h
theorem nn {k : Nat} : ¬ ((k : Int) = -1) := by omega
theorem found_oneB : foundB (twoC nA nB) 2 (fun _ => nB) 1 = true := found_all fun i hi => by
  rw [col_at1 ab_ne]; exact nn
theorem one_fine (a : ByteArray) (ha : a.size ≤ 1) : StrsFine 1 (fun _ => a) := ⟨by decide, fun i hi => by show a.size ≤ _; unfold maxLen; omega⟩
theorem pr_oneB (t : Nat) : prP (twoC nA nB) 2 (fun _ => nB) t = 1 := by unfold prP; rw [col_at1 ab_ne]; rfl
theorem one_ne {p q : UInt8} (h : (p == q) = false) : ((⟨#[p]⟩ : ByteArray).toList == (⟨#[q]⟩ : ByteArray).toList) = false := by
  rw [ByteArray.toList_eq, ByteArray.toList_eq]
  show ([p] == [q]) = false
  simp only [List.cons_beq_cons, h, Bool.false_and]
theorem cols_abn : colsF (colsR (twoC nA nB) 2 nN).at_ (2 + 1) = 0 := by
  refine colsF_ok (by decide) fun j hj => ?_
  have : j = 0 ∨ j = 1 ∨ j = 2 := by omega
  rcases this with rfl | rfl | rfl
  · exact colE_ok (by show ¬ (nA.size < 1 ∨ 20 < nA.size); decide) (among_no fun j hj => by omega)
  · refine colE_ok (by show ¬ (nB.size < 1 ∨ 20 < nB.size); decide) (among_no fun j hj => ?_)
    obtain rfl : j = 0 := by omega
    exact ab_ne
  · refine colE_ok (by show ¬ (nN.size < 1 ∨ 20 < nN.size); decide) (among_no fun j hj => ?_)
    have : j = 0 ∨ j = 1 := by omega
    rcases this with rfl | rfl
    · exact one_ne (by decide)
    · exact one_ne (by decide)
/-- the order by b -/
def zB (X : Nat → Rw) : Nat → Nat → It := fun i t => (rawR X i).at_ (prP (twoC nA nB) 2 (fun _ => nB) t)
/-- the part -/
def pzX (part : Bool) (X : Nat → Rw) : Nat → It := if part then fun i => (rawR X i).at_ 0 else fun _ => itZ
def rkX (part : Bool) (X : Nat → Rw) (M i : Nat) : Nat := rkF (zB X) 1 (pzX part X) M i
/-- how many of the first j stand ahead of i -/
def ahN (part : Bool) (X : Nat → Rw) (i j : Nat) : Nat := ((List.range j).filter fun t => itB (pzX part X t) (pzX part X i) && decide (ordI (zB X) 1 t i < 0)).length
theorem ahN_all (part : Bool) (X : Nat → Rw) (M i : Nat) : rkX part X M i = ahN part X i M + 1 := rfl
theorem ahN_le (part : Bool) (X : Nat → Rw) (i j : Nat) : ahN part X i j ≤ j := by
  have := List.length_filter_le (fun t => itB (pzX part X t) (pzX part X i) && decide (ordI (zB X) 1 t i < 0)) (List.range j)
  simpa [ahN] using this
theorem ahN_succ (part : Bool) (X : Nat → Rw) (i j : Nat) : ahN part X i (j + 1) = if (itB (pzX part X j) (pzX part X i) && decide (ordI (zB X) 1 j i < 0)) = true then ahN part X i j + 1 else ahN part X i j := by
  unfold ahN
  rw [List.range_succ, List.filter_append, List.length_append]
  by_cases h : (itB (pzX part X j) (pzX part X i) && decide (ordI (zB X) 1 j i < 0)) = true
  · rw [if_pos h]; simp [h]
  · rw [if_neg h]; simp [h]
/-- .. by what Compare tells -/
theorem ord_cmp (X : Nat → Rw) (i j : Nat) : (ordI (zB X) 1 j i < 0) ↔ (cmpT ((rawR X j).at_ 1) ((rawR X i).at_ 1) = -1 ∨ (cmpT ((rawR X j).at_ 1) ((rawR X i).at_ 1) = 0 ∧ j < i)) := by
  rw [ordI_iff]
  have hz : ∀ k t, zB X k t = (rawR X k).at_ 1 := fun k t => by unfold zB; rw [pr_oneB]
  constructor
  · rintro (⟨t, _, _, h⟩ | ⟨h, hji⟩)
    · rw [hz, hz] at h
      exact .inl (cmpT_lt h)
    · have := h 0 (by omega)
      rw [hz, hz] at this
      rw [this]
      exact .inr ⟨cmpT_eq _, hji⟩
  · rintro (h | ⟨h, hji⟩)
    · rcases ahead_tri ((rawR X j).at_ 1) ((rawR X i).at_ 1) with a | a | a
      · exact .inl ⟨0, by omega, fun t ht => by omega, by rw [hz, hz]; exact a⟩
      · rw [a, cmpT_eq] at h; exact absurd h (by decide)
      · rw [cmpT_gt a] at h; exact absurd h (by decide)
    · exact .inr ⟨fun t _ => by rw [hz, hz]; exact cmpT_zero h, hji⟩
theorem relation_ex (v : Value) (n : Nat) (X : Nat → Rw) (a b : ByteArray) (w : World) (hv : RawsIs w v n X) (hf : RawsFine n X) :
    Calls Tryd.prog 4 #[v, .string a, .string b] w fun e w' => ∃ ca cc ra rc, e = .returned (.agg #[.slice ca 2 cc, .slice ra (rawN n) rc]) ∧ CopyIs w' (.slice ca 2 cc) (.slice ra (rawN n) rc) 2 (rawN n) (twoC a b) (rawR X) ∧ Chain w w' := by
  refine (relation_is v n X a b w hv hf).mono ?_
  rintro e w' ⟨c, q, rfl, h1, h2, h3, h4⟩
  have h1' := h1
  obtain ⟨ca, cc, rfl, _⟩ := h1
  have h2' := h2.is
  obtain ⟨ra, rc, rfl⟩ := h2.shape
  exact ⟨ca, cc, ra, rc, rfl, ⟨h1', h2'⟩, h3⟩
theorem carry2 {w wr : World} {b : Nat} {x y : Value} (h : Chain w wr) (h0 : w.cell? ⟨b, 0, none⟩ = some x) (h1 : w.cell? ⟨b, 1, none⟩ = some y) (hb : b < w.heap.size) : wr.cell? ⟨b, 0, none⟩ = some x ∧ wr.cell? ⟨b, 1, none⟩ = some y ∧ b < wr.heap.size :=
  ⟨(Below.cell h (p := ⟨b, 0, none⟩) hb).trans h0, (Below.cell h (p := ⟨b, 1, none⟩) hb).trans h1, Nat.lt_of_lt_of_le hb (Below.size h)⟩
theorem fresh_rows {e : Ending} {w' W : World} {n m : Nat} {C : Nat → ByteArray} {R : Nat → Row} (h : ∃ c1 q1, e = .returned (.tuple #[.agg #[c1, q1], .int .i64 0]) ∧ FreshRel W w' c1 q1 n m C R ∧ Below W.heap.size W w') : ∃ a3 k3 b3 l3, e = .returned (.tuple #[.agg #[.slice a3 n k3, .slice b3 m l3], .int .i64 0]) ∧ RowsIs w' (.slice b3 m l3) m R ∧ Chain W w' := by
  obtain ⟨c1, q1, h3, h4, h5⟩ := h
  obtain ⟨h7, h8⟩ := h4 w' (Nat.le_refl _) (fun _ _ _ => rfl)
  have h9 := h8
  obtain ⟨a3, k3, rfl, _⟩ := h7
  obtain ⟨b3, l3, rfl, _⟩ := h8
  exact ⟨a3, k3, b3, l3, h3, h9, h5⟩
theorem rk_at {w : World} {u : Value} {X : Nat → Rw} {rk : Nat → Nat} {i : Nat} (h : ItsIs w u (rkR (rawR X) rk i).len (rkR (rawR X) rk i).at_) : ∃ b off c, u = .slice (some ⟨b, off, none⟩) 3 c ∧ 3 ≤ c ∧ c ≤ maxLen ∧ b < w.heap.size ∧ (w.cell? ⟨b, off, none⟩ = some (.int .i64 ((rawR X i).at_ 0).kind) ∧ w.cell? ⟨b, off + 1, none⟩ = some (.int .i64 ((rawR X i).at_ 0).n) ∧ w.cell? ⟨b, off + 2, none⟩ = some (.string ((rawR X i).at_ 0).s)) ∧ (w.cell? ⟨b, off + 3, none⟩ = some (.int .i64 ((rawR X i).at_ 1).kind) ∧ w.cell? ⟨b, off + 3 + 1, none⟩ = some (.int .i64 ((rawR X i).at_ 1).n) ∧ w.cell? ⟨b, off + 3 + 2, none⟩ = some (.string ((rawR X i).at_ 1).s)) ∧ (w.cell? ⟨b, off + 6, none⟩ = some (.int .i64 2) ∧ w.cell? ⟨b, off + 6 + 1, none⟩ = some (.int .i64 (rk i : Int)) ∧ w.cell? ⟨b, off + 6 + 2, none⟩ = some (.string ⟨#[]⟩)) ∧ ItsIs w (.slice (some ⟨b, off, none⟩) 2 c) 2 (rawR X i).at_ := by
  have h' : ItsIs w u 3 (rkR (rawR X) rk i).at_ := h
  obtain ⟨a, c, rfl, h1, h2, _, h3⟩ := h'
  obtain ⟨b, off, rfl, hb, h4⟩ := h3 (by omega)
  obtain ⟨p0, p1, p2⟩ := h4 0 (by omega)
  obtain ⟨p3, p4, p5⟩ := h4 1 (by omega)
  obtain ⟨p6, p7, p8⟩ := h4 2 (by omega)
  simp only [Nat.zero_mul, Nat.add_zero, Nat.one_mul, Nat.reduceMul] at p0 p1 p2 p3 p4 p5 p6 p7 p8
  exact ⟨b, off, c, rfl, h1, h2, hb, ⟨p0, p1, p2⟩, ⟨p3, p4, p5⟩, ⟨p6, p7, p8⟩, _, c, rfl, by omega, h2, (fun h => nomatch h), fun _ => ⟨b, off, rfl, hb, fun t ht => by
    have : t = 0 ∨ t = 1 := by omega
    rcases this with rfl | rfl
    · exact h4 0 (by omega)
    · exact h4 1 (by omega)⟩⟩
set_option maxHeartbeats 12800000 in
theorem lawRankNo (v : Value) (n : Nat) (X : Nat → Rw) (w : World) (hv : RawsIs w v n X) (hf : RawsFine n X) (hT : Tabs w) :
    Calls Tryd.prog 3 #[v, .bool false] w fun e w' => e = .returned (.bool true) ∧ Below w.heap.size w w' := by
  have hm := rawN_le n
  have CA : Hid (∀ W, Chain w W → Calls Tryd.prog 4 #[v, .string ⟨#[97]⟩, .string ⟨#[98]⟩] W fun e w' => ∃ ca cc ra rc, e = .returned (.agg #[.slice ca 2 cc, .slice ra (rawN n) rc]) ∧ CopyIs w' (.slice ca 2 cc) (.slice ra (rawN n) rc) 2 (rawN n) (twoC nA nB) (rawR X) ∧ Chain W w') := fun W hW => relation_ex v n X nA nB W (hv.below hW) hf
  obtain ⟨M, hM⟩ : ∃ M, M = rawN n := ⟨_, rfl⟩
  rw [← hM] at CA hm
  have hfs : StrsFine 2 (twoC nA nB) := cols_fine _ _ (by decide) (by decide)
  have CR : Hid (∀ W c q l, Chain w W → CopyIs W c q 2 M (twoC nA nB) (rawR X) → StrsIs W l 1 (fun _ => nB) → Calls Tryd.prog 5 #[.agg #[c, q], .string ⟨#[110]⟩, l, .string ⟨#[]⟩] W fun e w' => ∃ a3 k3 b3 l3, e = .returned (.tuple #[.agg #[.slice a3 3 k3, .slice b3 M l3], .int .i64 0]) ∧ RowsIs w' (.slice b3 M l3) M (rkR (rawR X) (rkX false X M)) ∧ Chain W w') := fun W c q l hW h1 hl =>
    (rank_none c q l nN 2 M 1 (twoC nA nB) (fun _ => nB) (rawR X) W h1.1 h1.2 hfs (raw_fine X M hm) hl (one_fine _ (by decide)) (Utf8Tabs_below hT hW) (rel_ab X M hm) found_oneB (by decide) (made_0 cols_abn (by omega))).mono fun e w' h => fresh_rows h
  obtain ⟨va, vc, rfl, _⟩ := hv
  clear hf hT hM hfs
  have mixed : Tryd.prog.follows .mixedOrders = true := by kernel_rfl
  go_enter Tryd.func3, Tryd.ntmps3
  go_wp2_with (first
    | (go_at_call 4; refine (CA.out _ (Chain.refl _)).mono ?_; rintro e w1 ⟨ca, cc, ra, rc, rfl, hc1, hb1⟩; have HC1 : Hid (CopyIs w1 (.slice ca 2 cc) (.slice ra M rc) 2 M (twoC nA nB) (rawR X)) := hc1; have HB1 : Hid (Chain w w1) := hb1; clear hc1 hb1 CA)
    | (go_at_call 5; refine (CR.out _ _ _ _ ?_ ?_ ?_).mono ?_; (focus (repeat (first | exact HB1.out | refine Chain.alloc ?_ _))); (focus (repeat (first | exact HC1.out | refine CopyIs.alloc ?_ _))); (focus (exact one_litb _ _ _ _ (by simp))); rintro e w2 ⟨a3, k3, b3, l3, rfl, hr2, hb2⟩; have HR2 : Hid (RowsIs w2 (.slice b3 M l3) M (rkR (rawR X) (rkX false X M))) := hr2; have hb2' : Chain (w1.alloc (.cells #[.slice ca 2 cc, .slice ra M rc] 26)) w2 := Chain.trans (by (repeat (first | exact Chain.refl _ | refine Chain.alloc ?_ _))) hb2; obtain ⟨x0, x1, x2, _, _⟩ := kept_new hb2'; have HB12 : Hid (Chain w1 w2) := ((Chain.refl _).alloc _).trans hb2'; clear hr2 hb2 hb2' CR))
  obtain ⟨W3, hW3⟩ : ∃ W, W = w2.alloc (.cells #[.slice a3 3 k3, .slice b3 M l3] 26) := ⟨_, rfl⟩
  have h23 : Chain w2 W3 := by rw [hW3]; exact (Chain.refl _).alloc _
  have y0 : W3.cell? ⟨w2.heap.size, 0, none⟩ = some (.slice a3 3 k3) := by rw [hW3]; simp
  have y1 : W3.cell? ⟨w2.heap.size, 1, none⟩ = some (.slice b3 M l3) := by rw [hW3]; simp
  have y2 : w2.heap.size < W3.heap.size := by rw [hW3]; simp
  have HS : Hid (∀ W, Chain W3 W → (W.cell? ⟨w1.heap.size, 0, none⟩ = some (.slice ca 2 cc) ∧ W.cell? ⟨w1.heap.size, 1, none⟩ = some (.slice ra M rc) ∧ w1.heap.size < W.heap.size) ∧ (W.cell? ⟨w2.heap.size, 0, none⟩ = some (.slice a3 3 k3) ∧ W.cell? ⟨w2.heap.size, 1, none⟩ = some (.slice b3 M l3) ∧ w2.heap.size < W.heap.size)) := fun W h => ⟨carry2 (h23.trans h) x0 x1 x2, carry2 h y0 y1 y2⟩
  have HWW : Hid (∀ W, Chain W3 W → Chain w W) := fun W h => ((HB1.out.trans HB12.out).trans h23).trans h
  have HRR : Hid (∀ W, Chain W3 W → RowsIs W (.slice b3 M l3) M (rkR (rawR X) (rkX false X M))) := fun W h => HR2.out.below (h23.trans h)
  have HRA : Hid (∀ W, Chain W3 W → RowsIs W (.slice ra M rc) M (rawR X)) := fun W h => HC1.out.2.below ((HB12.out.trans h23).trans h)
  rw [← hW3]
  clear hW3 h23 y0 y1 y2 HB1 HB12 HR2 HC1 x0 x1 x2
  go_loopw [39] (fun v wr => ∃ i : Nat, i ≤ M ∧ v = .int .i64 i ∧ Chain W3 wr) (fun v _ => M - (intOf v).toNat)
  case atStart => exact ⟨0, Nat.zero_le _, rfl, Chain.refl _⟩
  case round =>
    obtain ⟨i, hi, rfl, hch⟩ := hrel
    have HCH : Hid (Chain W3 wr) := hch
    obtain ⟨⟨x0, x1, x2⟩, ⟨y0, y1, y2⟩⟩ := HS.out wr hch
    by_cases hiM : i < M
    · have hii : (i : Int) < (M : Int) := by omega
      obtain ⟨_, _, e', _, _, _, h4⟩ := HRR.out wr hch
      cases e'
      obtain ⟨rb, ro, rfl, hrb, h5⟩ := h4 (by omega)
      obtain ⟨u, e1, hu⟩ := h5 i hiM
      have HX : Hid (∀ W, Chain wr W → _) := fun W h => rk_at (hu.below h)
      obtain ⟨ub, uo, uc, rfl, huc, huc2, hub, ⟨p0, p1, p2⟩, ⟨p3, p4, p5⟩, ⟨p6, p7, p8⟩, hx2⟩ := rk_at hu
      obtain ⟨_, _, e', _, _, _, g4⟩ := HRA.out wr hch
      cases e'
      obtain ⟨ab, ao, rfl, hab, g5⟩ := g4 (by omega)
      obtain ⟨av, e2, ha⟩ := g5 i hiM
      have ha' : ItsIs wr av 2 (rawR X i).at_ := ha
      have CEQ : Hid (∀ q, Calls Tryd.prog 6 #[.slice (some ⟨ub, uo, none⟩) 2 uc, av] (wr.drewN q) fun e w' => e = .returned (.bool true) ∧ ∃ q', w' = (wr.drewN q).drewN q') := fun q => equalI_is _ _ 2 (rawR X i).at_ _ (its_drawn hx2 q) (its_drawn ha' q)
      obtain ⟨aa, ac, rfl, _⟩ := ha'
      have HXC : Hid (∀ W, Chain wr W → ub < W.heap.size ∧ (W.cell? ⟨ub, uo, none⟩ = some (.int .i64 ((rawR X i).at_ 0).kind) ∧ W.cell? ⟨ub, uo + 1, none⟩ = some (.int .i64 ((rawR X i).at_ 0).n) ∧ W.cell? ⟨ub, uo + 2, none⟩ = some (.string ((rawR X i).at_ 0).s)) ∧ (W.cell? ⟨ub, uo + 3, none⟩ = some (.int .i64 ((rawR X i).at_ 1).kind) ∧ W.cell? ⟨ub, uo + 3 + 1, none⟩ = some (.int .i64 ((rawR X i).at_ 1).n) ∧ W.cell? ⟨ub, uo + 3 + 2, none⟩ = some (.string ((rawR X i).at_ 1).s)) ∧ (W.cell? ⟨ub, uo + 6, none⟩ = some (.int .i64 2) ∧ W.cell? ⟨ub, uo + 6 + 1, none⟩ = some (.int .i64 (rkX false X M i : Int)) ∧ W.cell? ⟨ub, uo + 6 + 2, none⟩ = some (.string ⟨#[]⟩))) := fun W h => ⟨Nat.lt_of_lt_of_le hub (Below.size h), ⟨(Below.cell h (p := ⟨ub, uo, none⟩) hub).trans p0, (Below.cell h (p := ⟨ub, uo + 1, none⟩) hub).trans p1, (Below.cell h (p := ⟨ub, uo + 2, none⟩) hub).trans p2⟩, ⟨(Below.cell h (p := ⟨ub, uo + 3, none⟩) hub).trans p3, (Below.cell h (p := ⟨ub, uo + 3 + 1, none⟩) hub).trans p4, (Below.cell h (p := ⟨ub, uo + 3 + 2, none⟩) hub).trans p5⟩, ⟨(Below.cell h (p := ⟨ub, uo + 6, none⟩) hub).trans p6, (Below.cell h (p := ⟨ub, uo + 6 + 1, none⟩) hub).trans p7, (Below.cell h (p := ⟨ub, uo + 6 + 2, none⟩) hub).trans p8⟩⟩
      clear h4 h5 g4 g5 hx2 ha hu p0 p1 p2 p3 p4 p5 p6 p7 p8 HX
      have hc2 : (2 : Int) ≤ (uc : Int) := by omega
      go_upto_region 11 with fail
      go_quiet ((go_at_call 6; refine Calls.quiet_of (CEQ.out _)))
      obtain ⟨W4, hW4⟩ : ∃ W, W = wr.drewN nq := ⟨_, rfl⟩
      have hc4 : Chain wr W4 := by rw [hW4]; exact below_drawn (Below.refl _ _) nq
      rw [← hW4]
      clear hW4 x0 x1 x2 y0 y1 y2
      have HC4 : Hid (Chain W3 W4) := HCH.out.trans hc4
      obtain ⟨⟨x0, x1, x2⟩, ⟨y0, y1, y2⟩⟩ := HS.out W4 HC4.out
      go_wp2_with fail
      go_loopw [11, 56] (fun ah v W5 => ∃ jj : Nat, jj ≤ M ∧ v = .int .i64 jj ∧ ah = .int .i64 (ahN false X i jj : Int) ∧ Chain W4 W5) (fun _ v _ => M - (intOf v).toNat)
      case atStart => exact ⟨0, Nat.zero_le _, rfl, rfl, Chain.refl _⟩
      case round =>
        clear x0 x1 x2 y0 y1 y2
        obtain ⟨jj, hjj, rfl, rfl, hch5⟩ := hrel
        obtain ⟨W5, hW5⟩ : ∃ W, W = wr := ⟨_, rfl⟩
        subst hW5
        have hc45 := hc4.trans hch5
        have HC5 : Hid (Chain W3 W5) := HC4.out.trans hch5
        have HCH5 : Hid (Chain W4 W5) := hch5
        obtain ⟨⟨x0, x1, x2⟩, ⟨y0, y1, y2⟩⟩ := HS.out W5 HC5.out
        have hal := ahN_le false X i jj
        by_cases hjM : jj < M
        · have hji : (jj : Int) < (M : Int) := by omega
          obtain ⟨_, _, e', _, _, _, h4⟩ := HRR.out W5 HC5.out
          cases e'
          obtain ⟨rb2, ro2, e3, hrb2, h5⟩ := h4 (by omega)
          simp only [Option.some.injEq, Addr.mk.injEq, and_true] at e3
          obtain ⟨rfl, rfl⟩ := e3
          obtain ⟨yv, e1y, hy⟩ := h5 jj hjM
          obtain ⟨vb, vo, vcc, rfl, hvc, hvc2, hvb, ⟨p0, p1, p2⟩, ⟨p3, p4, p5⟩, _, _⟩ := rk_at hy
          have HYC : Hid (∀ W, Chain W5 W → vb < W.heap.size ∧ (W.cell? ⟨vb, vo, none⟩ = some (.int .i64 ((rawR X jj).at_ 0).kind) ∧ W.cell? ⟨vb, vo + 1, none⟩ = some (.int .i64 ((rawR X jj).at_ 0).n) ∧ W.cell? ⟨vb, vo + 2, none⟩ = some (.string ((rawR X jj).at_ 0).s)) ∧ (W.cell? ⟨vb, vo + 3, none⟩ = some (.int .i64 ((rawR X jj).at_ 1).kind) ∧ W.cell? ⟨vb, vo + 3 + 1, none⟩ = some (.int .i64 ((rawR X jj).at_ 1).n) ∧ W.cell? ⟨vb, vo + 3 + 2, none⟩ = some (.string ((rawR X jj).at_ 1).s)) ∧ True) := fun W h => ⟨Nat.lt_of_lt_of_le hvb (Below.size h), ⟨(Below.cell h (p := ⟨vb, vo, none⟩) hvb).trans p0, (Below.cell h (p := ⟨vb, vo + 1, none⟩) hvb).trans p1, (Below.cell h (p := ⟨vb, vo + 2, none⟩) hvb).trans p2⟩, ⟨(Below.cell h (p := ⟨vb, vo + 3, none⟩) hvb).trans p3, (Below.cell h (p := ⟨vb, vo + 3 + 1, none⟩) hvb).trans p4, (Below.cell h (p := ⟨vb, vo + 3 + 2, none⟩) hvb).trans p5⟩, trivial⟩
          have CJ : Hid (∀ W, Calls Tryd.prog 7 #[.agg #[.int .i64 ((rawR X jj).at_ 1).kind, .int .i64 ((rawR X jj).at_ 1).n, .string ((rawR X jj).at_ 1).s], .agg #[.int .i64 ((rawR X i).at_ 1).kind, .int .i64 ((rawR X i).at_ 1).n, .string ((rawR X i).at_ 1).s]] W fun e w' => e = .returned (.int .i64 (cmpT ((rawR X jj).at_ 1) ((rawR X i).at_ 1))) ∧ ∃ q os', w' = Go.Sort.grow (W.drewN q) os') := fun W => (compare_grow _ _ _ _ _ _ W).mono fun e w' ⟨he, os', hw⟩ => ⟨he, 0, os', hw⟩
          have HYES : Hid (itB (pzX false X jj) (pzX false X i) = true → ordI (zB X) 1 jj i < 0 → ahN false X i (jj + 1) = ahN false X i jj + 1) := fun h1 h2 => by rw [ahN_succ, if_pos (by rw [h1, decide_eq_true h2]; rfl)]
          have HNO : Hid (itB (pzX false X jj) (pzX false X i) = true → ¬ ordI (zB X) 1 jj i < 0 → ahN false X i (jj + 1) = ahN false X i jj) := fun h1 h2 => by rw [ahN_succ, if_neg (by rw [h1, decide_eq_false h2]; decide)]
          have HNOP : Hid (itB (pzX false X jj) (pzX false X i) = false → ahN false X i (jj + 1) = ahN false X i jj) := fun h1 => by rw [ahN_succ, if_neg (by rw [h1]; simp)]
          have HORD := ord_cmp X i jj
          have hcase : cmpT ((rawR X jj).at_ 1) ((rawR X i).at_ 1) = -1 ∨ (cmpT ((rawR X jj).at_ 1) ((rawR X i).at_ 1) = 0 ∧ jj < i) ∨ (cmpT ((rawR X jj).at_ 1) ((rawR X i).at_ 1) = 0 ∧ ¬ jj < i) ∨ cmpT ((rawR X jj).at_ 1) ((rawR X i).at_ 1) = 1 := by
            rcases ahead_tri ((rawR X jj).at_ 1) ((rawR X i).at_ 1) with a | a | a
            · exact .inl (cmpT_lt a)
            · rw [a]
              by_cases h : jj < i
              · exact .inr (.inl ⟨cmpT_eq _, h⟩)
              · exact .inr (.inr (.inl ⟨cmpT_eq _, h⟩))
            · exact .inr (.inr (.inr (cmpT_gt a)))
          have hwa : IntKind.i64.wrap ((ahN false X i jj : Int) + 1) = (ahN false X i jj : Int) + 1 := IntWalk.i64_in _ (by omega)
          clear h4 h5 hy hch5 hrb2
          have HPE : Hid (itB (pzX false X jj) (pzX false X i) = true) := by
            have h : itB (pzX false X jj) (pzX false X i) = true := itB_iff.2 rfl
            exact h
          clear p0 p1 p2 p3 p4 p5
          go_upto_region 17 with fail
          go_quiet (fail)
          obtain ⟨Wq, hWq⟩ : ∃ W, W = W5.drewN nq := ⟨_, rfl⟩
          have hcq : Chain W5 Wq := by rw [hWq]; exact below_drawn (Below.refl _ _) nq
          rw [← hWq]
          clear hWq
          have g0 := fun nn oo => (HYC.out _ (hcq.trans (grown_chain Wq nn oo))).2.2.1.1
          have g1 := fun nn oo => (HYC.out _ (hcq.trans (grown_chain Wq nn oo))).2.2.1.2.1
          have g2 := fun nn oo => (HYC.out _ (hcq.trans (grown_chain Wq nn oo))).2.2.1.2.2
          have g3 := fun nn oo => (HXC.out _ ((hc45.trans hcq).trans (grown_chain Wq nn oo))).2.2.1.1
          have g4 := fun nn oo => (HXC.out _ ((hc45.trans hcq).trans (grown_chain Wq nn oo))).2.2.1.2.1
          have g5 := fun nn oo => (HXC.out _ ((hc45.trans hcq).trans (grown_chain Wq nn oo))).2.2.1.2.2
          go_upto_region 18 with fail
          go_quiet_grown ((go_at_call 7; refine Calls.grown_of (CJ.out _)))
          clear g0 g1 g2 g3 g4 g5
          obtain ⟨W6, hW6⟩ : ∃ W, W = Go.Sort.grow (Wq.drewN nq) osq := ⟨_, rfl⟩
          have HC6 : Hid (Chain W3 W6) := by
            have h : Chain W3 W6 := by rw [hW6]; exact HC5.out.trans (hcq.trans (grown_chain Wq nq osq))
            exact h
          have HC46 : Hid (Chain W4 W6) := by
            have h : Chain W4 W6 := by rw [hW6]; exact HCH5.out.trans (hcq.trans (grown_chain Wq nq osq))
            exact h
          show Exit.then _ _ _ _ (Go.Sort.grow (Wq.drewN nq) osq)
          rw [← hW6]
          clear hW6
          rcases hcase with hc | ⟨hc, hlt⟩ | ⟨hc, hlt⟩ | hc
          · have HSUC : Hid (ahN false X i (jj + 1) = ahN false X i jj + 1) := HYES.out HPE.out (HORD.2 (.inl hc))
            rw [hc]
            clear hc HORD
            go_wp2_with fail
            go_roundw
            case rel => exact ⟨jj + 1, by omega, by go_num, by rw [HSUC.out]; go_num, HC46.out⟩
            case measure => simp [intOf]; omega
          · have HSUC : Hid (ahN false X i (jj + 1) = ahN false X i jj + 1) := HYES.out HPE.out (HORD.2 (.inr ⟨hc, hlt⟩))
            have hlt' : (jj : Int) < (i : Int) := by omega
            rw [hc]
            clear hc HORD
            go_wp2_with fail
            go_roundw
            case rel => exact ⟨jj + 1, by omega, by go_num, by rw [HSUC.out]; go_num, HC46.out⟩
            case measure => simp [intOf]; omega
          · have HSUC : Hid (ahN false X i (jj + 1) = ahN false X i jj) := HNO.out HPE.out (fun h => by rcases HORD.1 h with k | ⟨_, k⟩; (rw [hc] at k; exact absurd k (by decide)); exact hlt k)
            have hlt' : ¬ ((jj : Int) < (i : Int)) := by omega
            rw [hc]
            clear hc HORD
            go_wp2_with fail
            go_roundw
            case rel => exact ⟨jj + 1, by omega, by go_num, by rw [HSUC.out], HC46.out⟩
            case measure => simp [intOf]; omega
          · have HSUC : Hid (ahN false X i (jj + 1) = ahN false X i jj) := HNO.out HPE.out (fun h => by rcases HORD.1 h with k | ⟨k, _⟩ <;> (rw [hc] at k; exact absurd k (by decide)))
            rw [hc]
            clear hc HORD
            go_wp2_with fail
            go_roundw
            case rel => exact ⟨jj + 1, by omega, by go_num, by rw [HSUC.out], HC46.out⟩
            case measure => simp [intOf]; omega
        · have e : jj = M := by omega
          subst e
          obtain ⟨_, _, _, ⟨p6, p7, p8⟩⟩ := HXC.out W5 hc45
          have HRE : Hid (rkX false X jj i = ahN false X i jj + 1) := ahN_all false X jj i
          rw [show ((rkX false X jj i : Nat) : Int) = (ahN false X i jj : Int) + 1 by rw [HRE.out]; simp] at p7
          have hwa : IntKind.i64.wrap ((ahN false X i jj : Int) + 1) = (ahN false X i jj : Int) + 1 := IntWalk.i64_in _ (by omega)
          go_wp2_with fail
          go_roundw
          case rel => exact ⟨i + 1, by omega, by go_num, HC5.out⟩
          case measure => simp [intOf]; omega
    · go_wp2_with fail
      go_ret
      exact ⟨ret_bool (by simp), HWW.out _ HCH.out⟩
set_option maxHeartbeats 12800000 in
theorem lawRankYes (v : Value) (n : Nat) (X : Nat → Rw) (w : World) (hv : RawsIs w v n X) (hf : RawsFine n X) (hT : Tabs w) :
    Calls Tryd.prog 3 #[v, .bool true] w fun e w' => e = .returned (.bool true) ∧ Below w.heap.size w w' := by
  have hm := rawN_le n
  have CA : Hid (∀ W, Chain w W → Calls Tryd.prog 4 #[v, .string ⟨#[97]⟩, .string ⟨#[98]⟩] W fun e w' => ∃ ca cc ra rc, e = .returned (.agg #[.slice ca 2 cc, .slice ra (rawN n) rc]) ∧ CopyIs w' (.slice ca 2 cc) (.slice ra (rawN n) rc) 2 (rawN n) (twoC nA nB) (rawR X) ∧ Chain W w') := fun W hW => relation_ex v n X nA nB W (hv.below hW) hf
  obtain ⟨M, hM⟩ : ∃ M, M = rawN n := ⟨_, rfl⟩
  rw [← hM] at CA hm
  have hfs : StrsFine 2 (twoC nA nB) := cols_fine _ _ (by decide) (by decide)
  have CR : Hid (∀ W c q l, Chain w W → CopyIs W c q 2 M (twoC nA nB) (rawR X) → StrsIs W l 1 (fun _ => nB) → Calls Tryd.prog 5 #[.agg #[c, q], .string ⟨#[110]⟩, l, .string ⟨#[97]⟩] W fun e w' => ∃ a3 k3 b3 l3, e = .returned (.tuple #[.agg #[.slice a3 3 k3, .slice b3 M l3], .int .i64 0]) ∧ RowsIs w' (.slice b3 M l3) M (rkR (rawR X) (rkX true X M)) ∧ Chain W w') := fun W c q l hW h1 hl =>
    (rank_part c q l nN 2 M 1 0 (twoC nA nB) (fun _ => nB) (rawR X) W h1.1 h1.2 hfs (raw_fine X M hm) hl (one_fine _ (by decide)) (Utf8Tabs_below hT hW) (rel_ab X M hm) found_oneB (by decide) (made_0 cols_abn (by omega)) (col_at0 nA nB) (by decide)).mono fun e w' h => fresh_rows h
  obtain ⟨va, vc, rfl, _⟩ := hv
  clear hf hT hM hfs
  have mixed : Tryd.prog.follows .mixedOrders = true := by kernel_rfl
  go_enter Tryd.func3, Tryd.ntmps3
  go_wp2_with (first
    | (go_at_call 4; refine (CA.out _ (Chain.refl _)).mono ?_; rintro e w1 ⟨ca, cc, ra, rc, rfl, hc1, hb1⟩; have HC1 : Hid (CopyIs w1 (.slice ca 2 cc) (.slice ra M rc) 2 M (twoC nA nB) (rawR X)) := hc1; have HB1 : Hid (Chain w w1) := hb1; clear hc1 hb1 CA)
    | (go_at_call 5; refine (CR.out _ _ _ _ ?_ ?_ ?_).mono ?_; (focus (repeat (first | exact HB1.out | refine Chain.alloc ?_ _))); (focus (repeat (first | exact HC1.out | refine CopyIs.alloc ?_ _))); (focus (exact one_litb _ _ _ _ (by simp))); rintro e w2 ⟨a3, k3, b3, l3, rfl, hr2, hb2⟩; have HR2 : Hid (RowsIs w2 (.slice b3 M l3) M (rkR (rawR X) (rkX true X M))) := hr2; have hb2' : Chain (w1.alloc (.cells #[.slice ca 2 cc, .slice ra M rc] 26)) w2 := Chain.trans (by (repeat (first | exact Chain.refl _ | refine Chain.alloc ?_ _))) hb2; obtain ⟨x0, x1, x2, _, _⟩ := kept_new hb2'; have HB12 : Hid (Chain w1 w2) := ((Chain.refl _).alloc _).trans hb2'; clear hr2 hb2 hb2' CR))
  obtain ⟨W3, hW3⟩ : ∃ W, W = w2.alloc (.cells #[.slice a3 3 k3, .slice b3 M l3] 26) := ⟨_, rfl⟩
  have h23 : Chain w2 W3 := by rw [hW3]; exact (Chain.refl _).alloc _
  have y0 : W3.cell? ⟨w2.heap.size, 0, none⟩ = some (.slice a3 3 k3) := by rw [hW3]; simp
  have y1 : W3.cell? ⟨w2.heap.size, 1, none⟩ = some (.slice b3 M l3) := by rw [hW3]; simp
  have y2 : w2.heap.size < W3.heap.size := by rw [hW3]; simp
  have HS : Hid (∀ W, Chain W3 W → (W.cell? ⟨w1.heap.size, 0, none⟩ = some (.slice ca 2 cc) ∧ W.cell? ⟨w1.heap.size, 1, none⟩ = some (.slice ra M rc) ∧ w1.heap.size < W.heap.size) ∧ (W.cell? ⟨w2.heap.size, 0, none⟩ = some (.slice a3 3 k3) ∧ W.cell? ⟨w2.heap.size, 1, none⟩ = some (.slice b3 M l3) ∧ w2.heap.size < W.heap.size)) := fun W h => ⟨carry2 (h23.trans h) x0 x1 x2, carry2 h y0 y1 y2⟩
  have HWW : Hid (∀ W, Chain W3 W → Chain w W) := fun W h => ((HB1.out.trans HB12.out).trans h23).trans h
  have HRR : Hid (∀ W, Chain W3 W → RowsIs W (.slice b3 M l3) M (rkR (rawR X) (rkX true X M))) := fun W h => HR2.out.below (h23.trans h)
  have HRA : Hid (∀ W, Chain W3 W → RowsIs W (.slice ra M rc) M (rawR X)) := fun W h => HC1.out.2.below ((HB12.out.trans h23).trans h)
  rw [← hW3]
  clear hW3 h23 y0 y1 y2 HB1 HB12 HR2 HC1 x0 x1 x2
  go_loopw [39] (fun v wr => ∃ i : Nat, i ≤ M ∧ v = .int .i64 i ∧ Chain W3 wr) (fun v _ => M - (intOf v).toNat)
  case atStart => exact ⟨0, Nat.zero_le _, rfl, Chain.refl _⟩
  case round =>
    obtain ⟨i, hi, rfl, hch⟩ := hrel
    have HCH : Hid (Chain W3 wr) := hch
    obtain ⟨⟨x0, x1, x2⟩, ⟨y0, y1, y2⟩⟩ := HS.out wr hch
    by_cases hiM : i < M
    · have hii : (i : Int) < (M : Int) := by omega
      obtain ⟨_, _, e', _, _, _, h4⟩ := HRR.out wr hch
      cases e'
      obtain ⟨rb, ro, rfl, hrb, h5⟩ := h4 (by omega)
      obtain ⟨u, e1, hu⟩ := h5 i hiM
      have HX : Hid (∀ W, Chain wr W → _) := fun W h => rk_at (hu.below h)
      obtain ⟨ub, uo, uc, rfl, huc, huc2, hub, ⟨p0, p1, p2⟩, ⟨p3, p4, p5⟩, ⟨p6, p7, p8⟩, hx2⟩ := rk_at hu
      obtain ⟨_, _, e', _, _, _, g4⟩ := HRA.out wr hch
      cases e'
      obtain ⟨ab, ao, rfl, hab, g5⟩ := g4 (by omega)
      obtain ⟨av, e2, ha⟩ := g5 i hiM
      have ha' : ItsIs wr av 2 (rawR X i).at_ := ha
      have CEQ : Hid (∀ q, Calls Tryd.prog 6 #[.slice (some ⟨ub, uo, none⟩) 2 uc, av] (wr.drewN q) fun e w' => e = .returned (.bool true) ∧ ∃ q', w' = (wr.drewN q).drewN q') := fun q => equalI_is _ _ 2 (rawR X i).at_ _ (its_drawn hx2 q) (its_drawn ha' q)
      obtain ⟨aa, ac, rfl, _⟩ := ha'
      have HXC : Hid (∀ W, Chain wr W → ub < W.heap.size ∧ (W.cell? ⟨ub, uo, none⟩ = some (.int .i64 ((rawR X i).at_ 0).kind) ∧ W.cell? ⟨ub, uo + 1, none⟩ = some (.int .i64 ((rawR X i).at_ 0).n) ∧ W.cell? ⟨ub, uo + 2, none⟩ = some (.string ((rawR X i).at_ 0).s)) ∧ (W.cell? ⟨ub, uo + 3, none⟩ = some (.int .i64 ((rawR X i).at_ 1).kind) ∧ W.cell? ⟨ub, uo + 3 + 1, none⟩ = some (.int .i64 ((rawR X i).at_ 1).n) ∧ W.cell? ⟨ub, uo + 3 + 2, none⟩ = some (.string ((rawR X i).at_ 1).s)) ∧ (W.cell? ⟨ub, uo + 6, none⟩ = some (.int .i64 2) ∧ W.cell? ⟨ub, uo + 6 + 1, none⟩ = some (.int .i64 (rkX true X M i : Int)) ∧ W.cell? ⟨ub, uo + 6 + 2, none⟩ = some (.string ⟨#[]⟩))) := fun W h => ⟨Nat.lt_of_lt_of_le hub (Below.size h), ⟨(Below.cell h (p := ⟨ub, uo, none⟩) hub).trans p0, (Below.cell h (p := ⟨ub, uo + 1, none⟩) hub).trans p1, (Below.cell h (p := ⟨ub, uo + 2, none⟩) hub).trans p2⟩, ⟨(Below.cell h (p := ⟨ub, uo + 3, none⟩) hub).trans p3, (Below.cell h (p := ⟨ub, uo + 3 + 1, none⟩) hub).trans p4, (Below.cell h (p := ⟨ub, uo + 3 + 2, none⟩) hub).trans p5⟩, ⟨(Below.cell h (p := ⟨ub, uo + 6, none⟩) hub).trans p6, (Below.cell h (p := ⟨ub, uo + 6 + 1, none⟩) hub).trans p7, (Below.cell h (p := ⟨ub, uo + 6 + 2, none⟩) hub).trans p8⟩⟩
      clear h4 h5 g4 g5 hx2 ha hu p0 p1 p2 p3 p4 p5 p6 p7 p8 HX
      have hc2 : (2 : Int) ≤ (uc : Int) := by omega
      go_upto_region 11 with fail
      go_quiet ((go_at_call 6; refine Calls.quiet_of (CEQ.out _)))
      obtain ⟨W4, hW4⟩ : ∃ W, W = wr.drewN nq := ⟨_, rfl⟩
      have hc4 : Chain wr W4 := by rw [hW4]; exact below_drawn (Below.refl _ _) nq
      rw [← hW4]
      clear hW4 x0 x1 x2 y0 y1 y2
      have HC4 : Hid (Chain W3 W4) := HCH.out.trans hc4
      obtain ⟨⟨x0, x1, x2⟩, ⟨y0, y1, y2⟩⟩ := HS.out W4 HC4.out
      go_wp2_with fail
      go_loopw [11, 56] (fun ah v W5 => ∃ jj : Nat, jj ≤ M ∧ v = .int .i64 jj ∧ ah = .int .i64 (ahN true X i jj : Int) ∧ Chain W4 W5) (fun _ v _ => M - (intOf v).toNat)
      case atStart => exact ⟨0, Nat.zero_le _, rfl, rfl, Chain.refl _⟩
      case round =>
        clear x0 x1 x2 y0 y1 y2
        obtain ⟨jj, hjj, rfl, rfl, hch5⟩ := hrel
        obtain ⟨W5, hW5⟩ : ∃ W, W = wr := ⟨_, rfl⟩
        subst hW5
        have hc45 := hc4.trans hch5
        have HC5 : Hid (Chain W3 W5) := HC4.out.trans hch5
        have HCH5 : Hid (Chain W4 W5) := hch5
        obtain ⟨⟨x0, x1, x2⟩, ⟨y0, y1, y2⟩⟩ := HS.out W5 HC5.out
        have hal := ahN_le true X i jj
        by_cases hjM : jj < M
        · have hji : (jj : Int) < (M : Int) := by omega
          obtain ⟨_, _, e', _, _, _, h4⟩ := HRR.out W5 HC5.out
          cases e'
          obtain ⟨rb2, ro2, e3, hrb2, h5⟩ := h4 (by omega)
          simp only [Option.some.injEq, Addr.mk.injEq, and_true] at e3
          obtain ⟨rfl, rfl⟩ := e3
          obtain ⟨yv, e1y, hy⟩ := h5 jj hjM
          obtain ⟨vb, vo, vcc, rfl, hvc, hvc2, hvb, ⟨p0, p1, p2⟩, ⟨p3, p4, p5⟩, _, _⟩ := rk_at hy
          have HYC : Hid (∀ W, Chain W5 W → vb < W.heap.size ∧ (W.cell? ⟨vb, vo, none⟩ = some (.int .i64 ((rawR X jj).at_ 0).kind) ∧ W.cell? ⟨vb, vo + 1, none⟩ = some (.int .i64 ((rawR X jj).at_ 0).n) ∧ W.cell? ⟨vb, vo + 2, none⟩ = some (.string ((rawR X jj).at_ 0).s)) ∧ (W.cell? ⟨vb, vo + 3, none⟩ = some (.int .i64 ((rawR X jj).at_ 1).kind) ∧ W.cell? ⟨vb, vo + 3 + 1, none⟩ = some (.int .i64 ((rawR X jj).at_ 1).n) ∧ W.cell? ⟨vb, vo + 3 + 2, none⟩ = some (.string ((rawR X jj).at_ 1).s)) ∧ True) := fun W h => ⟨Nat.lt_of_lt_of_le hvb (Below.size h), ⟨(Below.cell h (p := ⟨vb, vo, none⟩) hvb).trans p0, (Below.cell h (p := ⟨vb, vo + 1, none⟩) hvb).trans p1, (Below.cell h (p := ⟨vb, vo + 2, none⟩) hvb).trans p2⟩, ⟨(Below.cell h (p := ⟨vb, vo + 3, none⟩) hvb).trans p3, (Below.cell h (p := ⟨vb, vo + 3 + 1, none⟩) hvb).trans p4, (Below.cell h (p := ⟨vb, vo + 3 + 2, none⟩) hvb).trans p5⟩, trivial⟩
          have CJ : Hid (∀ W, Calls Tryd.prog 7 #[.agg #[.int .i64 ((rawR X jj).at_ 1).kind, .int .i64 ((rawR X jj).at_ 1).n, .string ((rawR X jj).at_ 1).s], .agg #[.int .i64 ((rawR X i).at_ 1).kind, .int .i64 ((rawR X i).at_ 1).n, .string ((rawR X i).at_ 1).s]] W fun e w' => e = .returned (.int .i64 (cmpT ((rawR X jj).at_ 1) ((rawR X i).at_ 1))) ∧ ∃ q os', w' = Go.Sort.grow (W.drewN q) os') := fun W => (compare_grow _ _ _ _ _ _ W).mono fun e w' ⟨he, os', hw⟩ => ⟨he, 0, os', hw⟩
          have HYES : Hid (itB (pzX true X jj) (pzX true X i) = true → ordI (zB X) 1 jj i < 0 → ahN true X i (jj + 1) = ahN true X i jj + 1) := fun h1 h2 => by rw [ahN_succ, if_pos (by rw [h1, decide_eq_true h2]; rfl)]
          have HNO : Hid (itB (pzX true X jj) (pzX true X i) = true → ¬ ordI (zB X) 1 jj i < 0 → ahN true X i (jj + 1) = ahN true X i jj) := fun h1 h2 => by rw [ahN_succ, if_neg (by rw [h1, decide_eq_false h2]; decide)]
          have HNOP : Hid (itB (pzX true X jj) (pzX true X i) = false → ahN true X i (jj + 1) = ahN true X i jj) := fun h1 => by rw [ahN_succ, if_neg (by rw [h1]; simp)]
          have HORD := ord_cmp X i jj
          have hcase : cmpT ((rawR X jj).at_ 1) ((rawR X i).at_ 1) = -1 ∨ (cmpT ((rawR X jj).at_ 1) ((rawR X i).at_ 1) = 0 ∧ jj < i) ∨ (cmpT ((rawR X jj).at_ 1) ((rawR X i).at_ 1) = 0 ∧ ¬ jj < i) ∨ cmpT ((rawR X jj).at_ 1) ((rawR X i).at_ 1) = 1 := by
            rcases ahead_tri ((rawR X jj).at_ 1) ((rawR X i).at_ 1) with a | a | a
            · exact .inl (cmpT_lt a)
            · rw [a]
              by_cases h : jj < i
              · exact .inr (.inl ⟨cmpT_eq _, h⟩)
              · exact .inr (.inr (.inl ⟨cmpT_eq _, h⟩))
            · exact .inr (.inr (.inr (cmpT_gt a)))
          have hwa : IntKind.i64.wrap ((ahN true X i jj : Int) + 1) = (ahN true X i jj : Int) + 1 := IntWalk.i64_in _ (by omega)
          clear h4 h5 hy hch5 hrb2
          obtain ⟨_, ⟨q0, q1, q2⟩, _, _⟩ := HXC.out W5 hc45
          cases hs : itB ((rawR X jj).at_ 0) ((rawR X i).at_ 0)
          · have HSUC : Hid (ahN true X i (jj + 1) = ahN true X i jj) := HNOP.out hs
            have hx := itB_no hs
            clear hs CJ HYES HNO HNOP HORD hcase p3 p4 p5 HYC HXC
            generalize ((rawR X jj).at_ 0).kind = yk at *
            generalize ((rawR X jj).at_ 0).n = yn at *
            generalize ((rawR X jj).at_ 0).s = ys at *
            generalize ((rawR X i).at_ 0).kind = xk at *
            generalize ((rawR X i).at_ 0).n = xn at *
            generalize ((rawR X i).at_ 0).s = xs at *
            rcases hx with h1 | ⟨h1, h2⟩ | ⟨h1, h2, h3⟩
            · have h1' : (xk == yk) = false := by simpa using fun h : xk = yk => h1 h.symm
              clear h1
              go_upto_region 17 with fail
              go_quiet (fail)
              go_wp2_with fail
              go_roundw
              case rel => exact ⟨jj + 1, by omega, by go_num, by rw [HSUC.out], below_drawn HCH5.out _⟩
              case measure => simp [intOf]; omega
            · subst h1
              have h2' : (xn == yn) = false := by simpa using fun h : xn = yn => h2 h.symm
              clear h2
              go_upto_region 17 with fail
              go_quiet (fail)
              go_wp2_with fail
              go_roundw
              case rel => exact ⟨jj + 1, by omega, by go_num, by rw [HSUC.out], below_drawn HCH5.out _⟩
              case measure => simp [intOf]; omega
            · subst h1
              subst h2
              have h3' : (xs.toList == ys.toList) = false := by
                cases e : (xs.toList == ys.toList)
                · rfl
                · have : ys.toList = xs.toList := (beq_iff_eq.1 e).symm
                  rw [this] at h3
                  simp at h3
              clear h3
              go_upto_region 17 with fail
              go_quiet (fail)
              go_wp2_with fail
              go_roundw
              case rel => exact ⟨jj + 1, by omega, by go_num, by rw [HSUC.out], below_drawn HCH5.out _⟩
              case measure => simp [intOf]; omega
          · have hx := itB_iff.1 hs
            have HPE : Hid (itB (pzX true X jj) (pzX true X i) = true) := hs
            rw [hx] at p0 p1 p2
            clear hs p3 p4 p5
            go_upto_region 17 with fail
            go_quiet (fail)
            obtain ⟨Wq, hWq⟩ : ∃ W, W = W5.drewN nq := ⟨_, rfl⟩
            have hcq : Chain W5 Wq := by rw [hWq]; exact below_drawn (Below.refl _ _) nq
            rw [← hWq]
            clear hWq p0 p1 p2 q0 q1 q2
            have g0 := fun nn oo => (HYC.out _ (hcq.trans (grown_chain Wq nn oo))).2.2.1.1
            have g1 := fun nn oo => (HYC.out _ (hcq.trans (grown_chain Wq nn oo))).2.2.1.2.1
            have g2 := fun nn oo => (HYC.out _ (hcq.trans (grown_chain Wq nn oo))).2.2.1.2.2
            have g3 := fun nn oo => (HXC.out _ ((hc45.trans hcq).trans (grown_chain Wq nn oo))).2.2.1.1
            have g4 := fun nn oo => (HXC.out _ ((hc45.trans hcq).trans (grown_chain Wq nn oo))).2.2.1.2.1
            have g5 := fun nn oo => (HXC.out _ ((hc45.trans hcq).trans (grown_chain Wq nn oo))).2.2.1.2.2
            go_upto_region 18 with fail
            go_quiet_grown ((go_at_call 7; refine Calls.grown_of (CJ.out _)))
            clear g0 g1 g2 g3 g4 g5
            obtain ⟨W6, hW6⟩ : ∃ W, W = Go.Sort.grow (Wq.drewN nq) osq := ⟨_, rfl⟩
            have HC6 : Hid (Chain W3 W6) := by
              have h : Chain W3 W6 := by rw [hW6]; exact HC5.out.trans (hcq.trans (grown_chain Wq nq osq))
              exact h
            have HC46 : Hid (Chain W4 W6) := by
              have h : Chain W4 W6 := by rw [hW6]; exact HCH5.out.trans (hcq.trans (grown_chain Wq nq osq))
              exact h
            show Exit.then _ _ _ _ (Go.Sort.grow (Wq.drewN nq) osq)
            rw [← hW6]
            clear hW6
            rcases hcase with hc | ⟨hc, hlt⟩ | ⟨hc, hlt⟩ | hc
            · have HSUC : Hid (ahN true X i (jj + 1) = ahN true X i jj + 1) := HYES.out HPE.out (HORD.2 (.inl hc))
              rw [hc]
              clear hc HORD
              go_wp2_with fail
              go_roundw
              case rel => exact ⟨jj + 1, by omega, by go_num, by rw [HSUC.out]; go_num, HC46.out⟩
              case measure => simp [intOf]; omega
            · have HSUC : Hid (ahN true X i (jj + 1) = ahN true X i jj + 1) := HYES.out HPE.out (HORD.2 (.inr ⟨hc, hlt⟩))
              have hlt' : (jj : Int) < (i : Int) := by omega
              rw [hc]
              clear hc HORD
              go_wp2_with fail
              go_roundw
              case rel => exact ⟨jj + 1, by omega, by go_num, by rw [HSUC.out]; go_num, HC46.out⟩
              case measure => simp [intOf]; omega
            · have HSUC : Hid (ahN true X i (jj + 1) = ahN true X i jj) := HNO.out HPE.out (fun h => by rcases HORD.1 h with k | ⟨_, k⟩; (rw [hc] at k; exact absurd k (by decide)); exact hlt k)
              have hlt' : ¬ ((jj : Int) < (i : Int)) := by omega
              rw [hc]
              clear hc HORD
              go_wp2_with fail
              go_roundw
              case rel => exact ⟨jj + 1, by omega, by go_num, by rw [HSUC.out], HC46.out⟩
              case measure => simp [intOf]; omega
            · have HSUC : Hid (ahN true X i (jj + 1) = ahN true X i jj) := HNO.out HPE.out (fun h => by rcases HORD.1 h with k | ⟨k, _⟩ <;> (rw [hc] at k; exact absurd k (by decide)))
              rw [hc]
              clear hc HORD
              go_wp2_with fail
              go_roundw
              case rel => exact ⟨jj + 1, by omega, by go_num, by rw [HSUC.out], HC46.out⟩
              case measure => simp [intOf]; omega
        · have e : jj = M := by omega
          subst e
          obtain ⟨_, _, _, ⟨p6, p7, p8⟩⟩ := HXC.out W5 hc45
          have HRE : Hid (rkX true X jj i = ahN true X i jj + 1) := ahN_all true X jj i
          rw [show ((rkX true X jj i : Nat) : Int) = (ahN true X i jj : Int) + 1 by rw [HRE.out]; simp] at p7
          have hwa : IntKind.i64.wrap ((ahN true X i jj : Int) + 1) = (ahN true X i jj : Int) + 1 := IntWalk.i64_in _ (by omega)
          go_wp2_with fail
          go_roundw
          case rel => exact ⟨i + 1, by omega, by go_num, HC5.out⟩
          case measure => simp [intOf]; omega
    · go_wp2_with fail
      go_ret
      exact ⟨ret_bool (by simp), HWW.out _ HCH.out⟩
end Go.Proofs.YtkfpjlcflbghoaaDoor
