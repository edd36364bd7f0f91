/-
  THE LAW GroupCounts of package pleacherkeep.
-/
import Derived.Test.YtfgiocpgeainjaaDoorKpGr
import Derived.Test.YtfgiocpgeainjaaDoorGrBad
import Derived.Deep.QuietTactic
import Derived.BigQuiet
import Derived.Sort.AtCall
set_option linter.unusedVariables false
namespace Go.Proofs.YtfgiocpgeainjaaDoor
set_option maxRecDepth 100000
open Go.RowKit Go.WideShapes

def nN : ByteArray := ⟨#[110]⟩
theorem col_at0 (a b : ByteArray) : colI (twoC a b) 2 a = (0 : Nat) := colI_hit (by decide) (by simp [twoC]) (fun j hj => by omega)
theorem col_at1 {a b : ByteArray} (h : (a.toList == b.toList) = false) : colI (twoC a b) 2 b = (1 : Nat) := by
  refine colI_hit (by decide) (by simp [twoC]) (fun j hj => ?_)
  obtain rfl : j = 0 := by omega
  exact h
theorem one_ne {p q : UInt8} (h : (p == q) = false) : ((⟨#[p]⟩ : ByteArray).toList == (⟨#[q]⟩ : ByteArray).toList) = false := by
  rw [ByteArray.toList_eq, ByteArray.toList_eq]
  show ([p] == [q]) = false
  simp only [List.cons_beq_cons, h, Bool.false_and]
theorem relation_ex (v : Value) (n : Nat) (X : Nat → Rw) (a b : ByteArray) (w : World) (hv : RawsIs w v n X) (hf : RawsFine n X) :
    Calls Tryd.prog 4 #[v, .string a, .string b] w fun e w' => ∃ ca cc ra rc, e = .returned (.agg #[.slice ca 2 cc, .slice ra (rawN n) rc]) ∧ CopyIs w' (.slice ca 2 cc) (.slice ra (rawN n) rc) 2 (rawN n) (twoC a b) (rawR X) ∧ Chain w w' := by
  refine (relation_is v n X a b w hv hf).mono ?_
  rintro e w' ⟨c, q, rfl, h1, h2, h3, h4⟩
  have h1' := h1
  obtain ⟨ca, cc, rfl, _⟩ := h1
  have h2' := h2.is
  obtain ⟨ra, rc, rfl⟩ := h2.shape
  exact ⟨ca, cc, ra, rc, rfl, ⟨h1', h2'⟩, h3⟩
theorem carry2 {w wr : World} {b : Nat} {x y : Value} (h : Chain w wr) (h0 : w.cell? ⟨b, 0, none⟩ = some x) (h1 : w.cell? ⟨b, 1, none⟩ = some y) (hb : b < w.heap.size) : wr.cell? ⟨b, 0, none⟩ = some x ∧ wr.cell? ⟨b, 1, none⟩ = some y ∧ b < wr.heap.size :=
  ⟨(Below.cell h (p := ⟨b, 0, none⟩) hb).trans h0, (Below.cell h (p := ⟨b, 1, none⟩) hb).trans h1, Nat.lt_of_lt_of_le hb (Below.size h)⟩
theorem fresh_rows {e : Ending} {w' W : World} {n m : Nat} {C : Nat → ByteArray} {R : Nat → Row} (h : ∃ c1 q1, e = .returned (.tuple #[.agg #[c1, q1], .int .i64 0]) ∧ FreshRel W w' c1 q1 n m C R ∧ Below W.heap.size W w') : ∃ a3 k3 b3 l3, e = .returned (.tuple #[.agg #[.slice a3 n k3, .slice b3 m l3], .int .i64 0]) ∧ RowsIs w' (.slice b3 m l3) m R ∧ Chain W w' := by
  obtain ⟨c1, q1, h3, h4, h5⟩ := h
  obtain ⟨h7, h8⟩ := h4 w' (Nat.le_refl _) (fun _ _ _ => rfl)
  have h9 := h8
  obtain ⟨a3, k3, rfl, _⟩ := h7
  obtain ⟨b3, l3, rfl, _⟩ := h8
  exact ⟨a3, k3, b3, l3, h3, h9, h5⟩

/-- a row of two items -/
theorem two_at {w : World} {u : Value} {x y : It} {Y : Nat → It} (h : ItsIs w u 2 Y) (h0 : Y 0 = x) (h1 : Y 1 = y) : ∃ b off c, u = .slice (some ⟨b, off, none⟩) 2 c ∧ 2 ≤ c ∧ c ≤ maxLen ∧ b < w.heap.size ∧ (w.cell? ⟨b, off, none⟩ = some (.int .i64 x.kind) ∧ w.cell? ⟨b, off + 1, none⟩ = some (.int .i64 x.n) ∧ w.cell? ⟨b, off + 2, none⟩ = some (.string x.s)) ∧ (w.cell? ⟨b, off + 3, none⟩ = some (.int .i64 y.kind) ∧ w.cell? ⟨b, off + 3 + 1, none⟩ = some (.int .i64 y.n) ∧ w.cell? ⟨b, off + 3 + 2, none⟩ = some (.string y.s)) := by
  obtain ⟨a, c, rfl, k1, k2, _, k3⟩ := h
  obtain ⟨b, off, rfl, hb, k4⟩ := k3 (by omega)
  obtain ⟨p0, p1, p2⟩ := k4 0 (by omega)
  obtain ⟨p3, p4, p5⟩ := k4 1 (by omega)
  rw [h0] at p0 p1 p2
  rw [h1] at p3 p4 p5
  simp only [Nat.zero_mul, Nat.add_zero, Nat.one_mul] at p0 p1 p2 p3 p4 p5
  exact ⟨b, off, c, rfl, k1, k2, hb, ⟨p0, p1, p2⟩, ⟨p3, p4, p5⟩⟩
def pX (X : Nat → Rw) : Nat → It := prtG (rawR X) 0
theorem pX_n (X : Nat → Rw) (i : Nat) : 0 ≤ (pX X i).n ∧ (pX X i).n < 4 := pk_range (n := (X i).a) (many := 4) (by omega)
theorem op_count (a b : Int) : opG tCount a b = a + b := by unfold opG tCount tMin tMax; rw [if_neg (by decide), if_neg (by decide)]
theorem op_sum (a b : Int) : opG tSum a b = a + b := by unfold opG tSum tMin tMax; rw [if_neg (by decide), if_neg (by decide)]
theorem agV_count (X : Nat → Rw) (x : It) (k : Nat) : agV (numG true (rawR X) 1) (opG tCount) (pX X) x k = (cntX (pX X) x k : Int) := by
  have h := agV_cnt (num := numG true (rawR X) 1) (op := opG tCount) (p := pX X) (x := x) (c := 1) op_count (fun _ _ => rfl) k
  rw [h, Int.one_mul]
theorem agV_sum (X : Nat → Rw) (x : It) (k : Nat) : agV (numG false (rawR X) 0) (opG tSum) (pX X) x k = x.n * (cntX (pX X) x k : Int) :=
  agV_cnt (c := x.n) op_sum (fun k h => by rw [← h]; rfl) k
theorem cols_an : colsF (grC nA nN) 2 = 0 := cols_two (a := nA) (b := nN) rfl rfl (one_ne (by decide))
theorem grF_ok {cnt : Bool} {knd num : Nat → Int} {op : Int → Int → Int} {p : Nat → It} {m : Nat} (hm : m ≤ 12) (h : ∀ k, k < m → refB cnt knd num op p k = false) : grF cnt knd num op p m nA nN = 0 := by
  have h1 : grF cnt knd num op p m nA nN = madeF (grC nA nN) 2 (prtN p m) := if_neg (fun e => by
    obtain ⟨i, h1, h2⟩ := List.any_eq_true.1 e
    rw [h i (List.mem_range.1 h1)] at h2
    cases h2)
  rw [h1]
  exact made_0 cols_an (by have := prtN_le p m; omega)
theorem count_ok (X : Nat → Rw) (M : Nat) (hM : M ≤ 12) : grF true (kndG (rawR X) 1) (numG true (rawR X) 1) (opG tCount) (prtG (rawR X) 0) M nA nN = 0 := grF_ok hM fun k hk => refB_mk (.inl rfl) (.inr (by
  show _ ≤ opG tCount (agV (numG true (rawR X) 1) (opG tCount) (pX X) (pX X k) k) 1 ∧ opG tCount (agV (numG true (rawR X) 1) (opG tCount) (pX X) (pX X k) k) 1 ≤ _
  rw [op_count, agV_count]
  have := cntX_le (pX X) (pX X k) k
  omega))
theorem sum_ok (X : Nat → Rw) (M : Nat) (hM : M ≤ 12) : grF false (kndG (rawR X) 0) (numG false (rawR X) 0) (opG tSum) (prtG (rawR X) 0) M nA nN = 0 := grF_ok hM fun k hk => refB_mk (.inr rfl) (.inr (by
  show _ ≤ opG tSum (agV (numG false (rawR X) 0) (opG tSum) (pX X) (pX X k) k) (pX X k).n ∧ opG tSum (agV (numG false (rawR X) 0) (opG tSum) (pX X) (pX X k) k) (pX X k).n ≤ _
  rw [op_sum, agV_sum]
  have h1 := cntX_le (pX X) (pX X k) k
  have h2 := pX_n X k
  have h3 : 0 ≤ (pX X k).n * (cntX (pX X) (pX X k) k : Int) := Int.mul_nonneg h2.1 (by omega)
  have h4 : (pX X k).n * (cntX (pX X) (pX X k) k : Int) ≤ 4 * 12 := Int.mul_le_mul (by omega) (by omega) (by omega) (by decide)
  omega))
def fG (X : Nat → Rw) (M j : Nat) : Nat := cntX (pX X) (prtK (pX X) M j) M
theorem fG_le (X : Nat → Rw) (M j : Nat) : fG X M j ≤ M := cntX_le _ _ _
theorem row_c1 (X : Nat → Rw) (M j : Nat) : (grR (numG true (rawR X) 1) (opG tCount) (prtG (rawR X) 0) M M j).at_ 1 = ⟨2, (fG X M j : Int), ⟨#[]⟩⟩ := by
  show (⟨2, agV (numG true (rawR X) 1) (opG tCount) (pX X) (prtK (pX X) M j) M, ⟨#[]⟩⟩ : It) = _
  rw [agV_count]; rfl
theorem row_s1 (X : Nat → Rw) (M j : Nat) : (grR (numG false (rawR X) 0) (opG tSum) (prtG (rawR X) 0) M M j).at_ 1 = ⟨2, (prtK (pX X) M j).n * (fG X M j : Int), ⟨#[]⟩⟩ := by
  show (⟨2, agV (numG false (rawR X) 0) (opG tSum) (pX X) (prtK (pX X) M j) M, ⟨#[]⟩⟩ : It) = _
  rw [agV_sum]; rfl
theorem fresh_bad {e : Ending} {w' W : World} (h : e = .returned (.tuple #[.agg #[.slice none 0 0, .slice none 0 0], .int .i64 6]) ∧ Below W.heap.size W w') : e = .returned (.tuple #[.agg #[.slice none 0 0, .slice none 0 0], .int .i64 6]) ∧ Chain W w' := h
theorem mean_no : ¬ isG ⟨#[109, 101, 97, 110]⟩ := by
  unfold isG tCount tSum tMin tMax
  rintro (h | h | h | h) <;> exact absurd h (by decide)
set_option maxHeartbeats 3200000 in
theorem lawGroup (v : Value) (n : Nat) (X : Nat → Rw) (w : World) (hv : RawsIs w v n X) (hf : RawsFine n X) (hT : Tabs w) :
    Calls Tryd.prog 3 #[v] w fun e w' => e = .returned (.bool true) ∧ Below w.heap.size w w' := by
  have hm := rawN_le n
  have CA : Hid (∀ W, Chain w W → Calls Tryd.prog 4 #[v, .string ⟨#[97]⟩, .string ⟨#[98]⟩] W fun e w' => ∃ ca cc ra rc, e = .returned (.agg #[.slice ca 2 cc, .slice ra (rawN n) rc]) ∧ CopyIs w' (.slice ca 2 cc) (.slice ra (rawN n) rc) 2 (rawN n) (twoC nA nB) (rawR X) ∧ Chain W w') := fun W hW => relation_ex v n X nA nB W (hv.below hW) hf
  obtain ⟨M, hM⟩ : ∃ M, M = rawN n := ⟨_, rfl⟩
  rw [← hM] at CA hm
  have hfs : StrsFine 2 (twoC nA nB) := cols_fine _ _ (by decide) (by decide)
  obtain ⟨N, hN⟩ : ∃ N, N = prtN (pX X) M := ⟨_, rfl⟩
  have hNM : N ≤ 12 := by rw [hN]; have := prtN_le (pX X) M; omega
  have CG : Hid (∀ W c q, Chain w W → CopyIs W c q 2 M (twoC nA nB) (rawR X) → Calls Tryd.prog 5 #[.agg #[c, q], .string ⟨#[110]⟩, .string ⟨#[97]⟩, .string ⟨#[99, 111, 117, 110, 116]⟩, .string ⟨#[98]⟩] W fun e w' => ∃ a3 k3 b3 l3, e = .returned (.tuple #[.agg #[.slice a3 2 k3, .slice b3 N l3], .int .i64 0]) ∧ RowsIs w' (.slice b3 N l3) N (grR (numG true (rawR X) 1) (opG tCount) (prtG (rawR X) 0) M M) ∧ Chain W w') := fun W c q hW h1 => by
    have h := group_yes c q nN nA tCount nB true 2 M 0 1 (twoC nA nB) (rawR X) W h1.1 h1.2 hfs (raw_fine X M hm) (Utf8Tabs_below hT hW) (rel_ab X M hm) (.inl rfl) ⟨fun _ => rfl, fun _ => rfl⟩ (col_at0 _ _) (col_at1 ab_ne) (by decide) (by decide) (by decide) (by decide)
    rw [count_ok X M hm, show prtN (prtG (rawR X) 0) M = N from hN.symm] at h
    exact h.mono fun e w' h => fresh_rows h
  have CS : Hid (∀ W c q, Chain w W → CopyIs W c q 2 M (twoC nA nB) (rawR X) → Calls Tryd.prog 5 #[.agg #[c, q], .string ⟨#[110]⟩, .string ⟨#[97]⟩, .string ⟨#[115, 117, 109]⟩, .string ⟨#[97]⟩] W fun e w' => ∃ a3 k3 b3 l3, e = .returned (.tuple #[.agg #[.slice a3 2 k3, .slice b3 N l3], .int .i64 0]) ∧ RowsIs w' (.slice b3 N l3) N (grR (numG false (rawR X) 0) (opG tSum) (prtG (rawR X) 0) M M) ∧ Chain W w') := fun W c q hW h1 => by
    have h := group_yes c q nN nA tSum nA false 2 M 0 0 (twoC nA nB) (rawR X) W h1.1 h1.2 hfs (raw_fine X M hm) (Utf8Tabs_below hT hW) (rel_ab X M hm) (.inr (.inl rfl)) ⟨fun h => (nomatch h), fun h => absurd h (by unfold tSum tCount; decide)⟩ (col_at0 _ _) (col_at0 _ _) (by decide) (by decide) (by decide) (by decide)
    rw [sum_ok X M hm, show prtN (prtG (rawR X) 0) M = N from hN.symm] at h
    exact h.mono fun e w' h => fresh_rows h
  have CM : Hid (∀ W c q, Chain w W → CopyIs W c q 2 M (twoC nA nB) (rawR X) → Calls Tryd.prog 5 #[.agg #[c, q], .string ⟨#[110]⟩, .string ⟨#[97]⟩, .string ⟨#[109, 101, 97, 110]⟩, .string ⟨#[98]⟩] W fun e w' => e = .returned (.tuple #[.agg #[.slice none 0 0, .slice none 0 0], .int .i64 6]) ∧ Chain W w') := fun W c q hW h1 =>
    (group_none c q nN nA ⟨#[109, 101, 97, 110]⟩ nB 2 M (twoC nA nB) (rawR X) W h1.1 h1.2 hfs (raw_fine X M hm) (Utf8Tabs_below hT hW) (rel_ab X M hm) mean_no).mono fun e w' h => fresh_bad h
  have HSUM : Hid (sumN (fG X M) N = M) := by
    have h : sumN (fG X M) N = M := by rw [hN]; exact sum_parts (pX X) M M (Nat.le_refl _)
    exact h
  obtain ⟨va, vc, rfl, _⟩ := hv
  clear hf hT hM hfs hN
  go_enter Tryd.func3, Tryd.ntmps3
  go_wp2_with (first
    | (go_at_call 4; refine (CA.out _ (Chain.refl _)).mono ?_; rintro e w1 ⟨ca, cc, ra, rc, rfl, hc1, hb1⟩; have HC1 : Hid (CopyIs w1 (.slice ca 2 cc) (.slice ra M rc) 2 M (twoC nA nB) (rawR X)) := hc1; have HB1 : Hid (Chain w w1) := hb1; clear hc1 hb1 CA)
    | (go_at_call 5; refine (CG.out _ _ _ ?_ ?_).mono ?_; (focus (repeat (first | exact HB1.out | refine Chain.alloc ?_ _))); (focus (repeat (first | exact HC1.out | refine CopyIs.alloc ?_ _))); rintro e w2 ⟨a3, k3, b3, l3, rfl, hr2, hb2⟩; have HR2 : Hid (RowsIs w2 (.slice b3 N l3) N (grR (numG true (rawR X) 1) (opG tCount) (prtG (rawR X) 0) M M)) := hr2; have hb2' : Chain (w1.alloc (.cells #[.slice ca 2 cc, .slice ra M rc] 26)) w2 := Chain.trans (by (repeat (first | exact Chain.refl _ | refine Chain.alloc ?_ _))) hb2; obtain ⟨x0, x1, x2, _, _⟩ := kept_new hb2'; have HB12 : Hid (Chain w1 w2) := ((Chain.refl _).alloc _).trans hb2'; clear hr2 hb2 hb2' CG)
    | (go_at_call 5; refine (CS.out _ _ _ ((HB1.out.trans HB12.out).alloc _) (HC1.out.chain (HB12.out.alloc _))).mono ?_; rintro e w3 ⟨a4, k4, b4, l4, rfl, hr3, hb3⟩; have HR3 : Hid (RowsIs w3 (.slice b4 N l4) N (grR (numG false (rawR X) 0) (opG tSum) (prtG (rawR X) 0) M M)) := hr3; obtain ⟨y0, y1, y2, _, _⟩ := kept_new hb3; have HB23 : Hid (Chain w2 w3) := ((Chain.refl _).alloc _).trans hb3; obtain ⟨xa, xb, xc⟩ := carry2 HB23.out x0 x1 x2; clear x0 x1 x2 hr3 hb3 CS)
    | (go_at_call 5; refine (CM.out _ _ _ (((HB1.out.trans HB12.out).trans HB23.out).alloc _) (HC1.out.chain ((HB12.out.trans HB23.out).alloc _))).mono ?_; rintro e w4 ⟨rfl, hb4⟩; obtain ⟨z0, z1, z2, _, _⟩ := kept_new hb4; have HB34 : Hid (Chain w3 w4) := ((Chain.refl _).alloc _).trans hb4; obtain ⟨x0, x1, x2⟩ := carry2 HB34.out xa xb xc; obtain ⟨ya, yb, yc⟩ := carry2 HB34.out y0 y1 y2; clear xa xb xc y0 y1 y2 hb4 CM))
  have HRG : Hid (RowsIs w4 (.slice b3 N l3) N (grR (numG true (rawR X) 1) (opG tCount) (prtG (rawR X) 0) M M)) := HR2.out.below (HB23.out.trans HB34.out)
  have HRS : Hid (RowsIs w4 (.slice b4 N l4) N (grR (numG false (rawR X) 0) (opG tSum) (prtG (rawR X) 0) M M)) := HR3.out.below HB34.out
  have HWW : Hid (Chain w w4) := ((HB1.out.trans HB12.out).trans HB23.out).trans HB34.out
  clear HB1 HB12 HB23 HB34 HR2 HR3 HC1
  obtain ⟨W5, hW5⟩ : ∃ W, W = w4.alloc (.cells #[.slice none 0 0, .slice none 0 0] 26) := ⟨_, rfl⟩
  have h45 : Chain w4 W5 := by rw [hW5]; exact (Chain.refl _).alloc _
  obtain ⟨x3, x4, x5⟩ := carry2 h45 x0 x1 x2
  obtain ⟨y3, y4, y5⟩ := carry2 h45 ya yb yc
  obtain ⟨z3, z4, z5⟩ := carry2 h45 z0 z1 z2
  have HG5 : Hid (RowsIs W5 (.slice b3 N l3) N (grR (numG true (rawR X) 1) (opG tCount) (prtG (rawR X) 0) M M)) := HRG.out.below h45
  have HS5 : Hid (RowsIs W5 (.slice b4 N l4) N (grR (numG false (rawR X) 0) (opG tSum) (prtG (rawR X) 0) M M)) := HRS.out.below h45
  have HW5 : Hid (Chain w W5) := HWW.out.trans h45
  rw [← hW5]
  clear hW5 h45 HRG HRS HWW x0 x1 x2 ya yb yc z0 z1 z2
  go_loopw [10, 35] (fun s v wr => ∃ i : Nat, i ≤ N ∧ v = .int .i64 i ∧ s = .int .i64 (sumN (fG X M) i : Int) ∧ wr = W5) (fun _ v _ => N - (intOf v).toNat)
  case atStart => exact ⟨0, Nat.zero_le _, rfl, rfl, rfl⟩
  case round =>
    obtain ⟨i, hi, rfl, rfl, rfl⟩ := hrel
    by_cases hiN : i < N
    · have hii : (i : Int) < (N : Int) := by omega
      obtain ⟨_, _, e', _, _, _, h4⟩ := HG5.out
      cases e'
      obtain ⟨rb, ro, rfl, hrb, h5⟩ := h4 (by omega)
      obtain ⟨u, e1, hu⟩ := h5 i hiN
      obtain ⟨ub, uo, uc, rfl, huc, huc2, hub, ⟨p0, p1, p2⟩, ⟨p3, p4, p5⟩⟩ := two_at hu (x := prtK (pX X) M i) rfl (row_c1 X M i)
      have HSU : Hid (sumN (fG X M) (i + 1) = sumN (fG X M) i + fG X M i) := rfl
      have hfl := fG_le X M i
      have hsl : sumN (fG X M) i ≤ M := by
        have h := sum_le (f := fG X M) hi
        rw [HSUM.out] at h
        exact h
      have hwa : IntKind.i64.wrap ((sumN (fG X M) i : Int) + (fG X M i : Int)) = (sumN (fG X M) i : Int) + (fG X M i : Int) := IntWalk.i64_in _ (by omega)
      clear h4 h5 hu
      go_wp2_with fail
      go_roundw
      case rel => exact ⟨i + 1, by omega, by go_num, by rw [HSU.out]; simp, trivial⟩
      case measure => simp [intOf]; omega
    · have e : i = N := by omega
      subst e
      have hsm : sumN (fG X M) i = M := HSUM.out
      rw [hsm]
      clear hsm
      go_wp2_with fail
      clear hi
      obtain ⟨W6, hW6⟩ : ∃ W, W = wr := ⟨_, rfl⟩
      subst hW6
      have HSS : Hid (∀ W, Chain W6 W → (W.cell? ⟨w1.heap.size, 0, none⟩ = some (.slice ca 2 cc) ∧ W.cell? ⟨w1.heap.size, 1, none⟩ = some (.slice ra M rc) ∧ w1.heap.size < W.heap.size) ∧ (W.cell? ⟨w2.heap.size, 0, none⟩ = some (.slice a3 2 k3) ∧ W.cell? ⟨w2.heap.size, 1, none⟩ = some (.slice b3 i l3) ∧ w2.heap.size < W.heap.size) ∧ (W.cell? ⟨w3.heap.size, 0, none⟩ = some (.slice a4 2 k4) ∧ W.cell? ⟨w3.heap.size, 1, none⟩ = some (.slice b4 i l4) ∧ w3.heap.size < W.heap.size)) := fun W h => ⟨carry2 h x3 x4 x5, carry2 h y3 y4 y5, carry2 h z3 z4 z5⟩
      clear x3 x4 x5 y3 y4 y5 z3 z4 z5
      go_loopw [49] (fun v wr => ∃ j : Nat, j ≤ i ∧ v = .int .i64 j ∧ Chain W6 wr) (fun v _ => i - (intOf v).toNat)
      case atStart => exact ⟨0, Nat.zero_le _, rfl, Chain.refl _⟩
      case round =>
        obtain ⟨j, hj, rfl, hch⟩ := hrel
        have HCH : Hid (Chain W6 wr) := hch
        obtain ⟨⟨x0, x1, x2⟩, ⟨y0, y1, y2⟩, ⟨z0, z1, z2⟩⟩ := HSS.out wr hch
        by_cases hjN : j < i
        · have hji : (j : Int) < (i : Int) := by omega
          obtain ⟨_, _, e', _, _, _, h4⟩ := HG5.out.below hch
          cases e'
          obtain ⟨rb, ro, rfl, hrb, h5⟩ := h4 (by omega)
          obtain ⟨u, e1, hu⟩ := h5 j hjN
          obtain ⟨ub, uo, uc, rfl, huc, huc2, hub, ⟨p0, p1, p2⟩, ⟨p3, p4, p5⟩⟩ := two_at hu (x := prtK (pX X) M j) rfl (row_c1 X M j)
          obtain ⟨_, _, e', _, _, _, g4⟩ := HS5.out.below hch
          cases e'
          obtain ⟨sb, so, rfl, hsb, g5⟩ := g4 (by omega)
          obtain ⟨s, e2, hs⟩ := g5 j hjN
          obtain ⟨tb, tof, tc, rfl, htc, htc2, htb, ⟨q0, q1, q2⟩, ⟨q3, q4, q5⟩⟩ := two_at hs (x := prtK (pX X) M j) rfl (row_s1 X M j)
          have hfl := fG_le X M j
          obtain ⟨xn, hxn⟩ : ∃ xn, xn = (prtK (pX X) M j).n := ⟨_, rfl⟩
          have hx4 : 0 ≤ xn ∧ xn < 4 := by rw [hxn]; exact pX_n X _
          obtain ⟨hx5, hx6⟩ := hx4
          simp only at p3 p4 p5 q3 q4 q5
          rw [← hxn] at q1 q4 p1
          have h3 : 0 ≤ xn * (fG X M j : Int) := Int.mul_nonneg hx5 (by omega)
          have h7 : xn * (fG X M j : Int) ≤ 4 * 12 := Int.mul_le_mul (by omega) (by omega) (by omega) (by decide)
          have hwm : IntKind.i64.wrap (xn * (fG X M j : Int)) = xn * (fG X M j : Int) := IntWalk.i64_in _ (by omega)
          clear h4 h5 hu g4 g5 hs hxn h3 h7 hch
          go_upto_region 14 with fail
          go_quiet (fail)
          obtain ⟨W7, hW7⟩ : ∃ W, W = wr.drewN nq := ⟨_, rfl⟩
          have hc7 : Chain wr W7 := by rw [hW7]; exact below_drawn (Below.refl _ _) nq
          rw [← hW7]
          clear hW7
          go_wp2_with fail
          go_roundw
          case rel => exact ⟨j + 1, by omega, by go_num, HCH.out.trans hc7⟩
          case measure => simp [intOf]; omega
        · have e : j = i := by omega
          subst e
          go_wp2_with fail
          go_ret
          exact ⟨rfl, HW5.out.trans HCH.out⟩
end Go.Proofs.YtfgiocpgeainjaaDoor
