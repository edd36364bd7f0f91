/-
  PROVED HERE: for every list of raw things l, the Go law SortStays of package pleacherkeep returns true: of the relation with columns a and b that is made of it, Sort by b, then a, holds as many rows, none of the relation's rows is missing in it (Except leaves none), each stands not behind the next one by b, then a, and Sort of what it tells tells the same rows; and the argument reads behind the call as it read before. Conditions: the two tables of unicode/utf8 hold what the program's text lays (the card ties them); none of my own.
-/
import Derived.Test.YtdedenggbbppeaaDoorKpEx
import Derived.Test.YtdedenggbbppeaaDoorRlSortI
import Derived.Test.YtdedenggbbppeaaDoorKpSame
import Derived.Deep.QuietTactic
import Derived.BigQuiet
import Derived.Sort.AtCall
import Derived.Shelf.SlSortCmp.QuietGrown
import Derived.Test.YtdedenggbbppeaaDoorCards
import Derived.Test.YtdedenggbbppeaaDoorLaidS
import Derived.WalkKit
import Derived.ProofKit
import Derived.OpenShut
import Derived.Carry
import Derived.Deep.DeepHandedRow
import Derived.Deep.DeepWitnessRowRef
import Derived.SizedLaws
set_option linter.unusedVariables false
namespace Go.Proofs.YtdedenggbbppeaaDoor
set_option maxRecDepth 100000
open Go.RowKit

theorem found_ba : foundB (twoC nA nB) 2 (twoC nB nA) 2 = true := found_all fun i hi => by
  have : i = 0 ∨ i = 1 := by omega
  rcases this with rfl | rfl
  · rw [show twoC nB nA 0 = nB from rfl, col_at1 ab_ne]; exact nn
  · rw [show twoC nB nA 1 = nA from rfl, col_at0]; exact nn
theorem pr_ba0 : prP (twoC nA nB) 2 (twoC nB nA) 0 = 1 := by unfold prP; rw [show twoC nB nA 0 = nB from rfl, col_at1 ab_ne]; rfl
theorem pr_ba1 : prP (twoC nA nB) 2 (twoC nB nA) 1 = 0 := by unfold prP; rw [show twoC nB nA 1 = nA from rfl, col_at0]; rfl
/-- sorted rows -/
def soX (X : Nat → Rw) (M : Nat) : Nat → Row := soR (rawR X) (prP (twoC nA nB) 2 (twoC nB nA)) 2 M
theorem so_len (X : Nat → Rw) (M i : Nat) : (soX X M i).len = 2 := rfl
theorem so_fine (X : Nat → Rw) (M : Nat) (hM : M ≤ 12) : RowsFine M (soX X M) := by
  have h := raw_fine (fun i => X (ordA (fun i t => (rawR X i).at_ (prP (twoC nA nB) 2 (twoC nB nA) t)) 2 M i)) M hM
  exact h
theorem so_rel (X : Nat → Rw) (M : Nat) (hM : M ≤ 12) : relF (twoC nA nB) 2 (soX X M) M = 0 := by
  have h := rel_ab (fun i => X (ordA (fun i t => (rawR X i).at_ (prP (twoC nA nB) 2 (twoC nB nA) t)) 2 M i)) M hM
  exact h
theorem so_ok (X : Nat → Rw) (M : Nat) (hM : M ≤ 12) : soF (twoC nA nB) 2 (rawR X) M (twoC nB nA) 2 = 0 := by
  unfold soF; rw [if_pos (rel_ab X M hM), if_pos found_ba]
theorem so_ok2 (X : Nat → Rw) (M : Nat) (hM : M ≤ 12) : soF (twoC nA nB) 2 (soX X M) M (twoC nB nA) 2 = 0 := by
  unfold soF; rw [if_pos (so_rel X M hM), if_pos found_ba]
/-- of two sorted rows the one that stands ahead is not more -/
theorem so_lt (R : Nat → Row) (P : Nat → Nat) (ko M : Nat) {i j : Nat} (hij : i < j) (hj : j < M) : LtR (fun i t => (R i).at_ (P t)) ko (ordA (fun i t => (R i).at_ (P t)) ko M i) (ordA (fun i t => (R i).at_ (P t)) ko M j) := by
  have h := List.pairwise_iff_getElem.1 (ordL_sorted (fun i t => (R i).at_ (P t)) ko M) i j (by rw [ordL_len]; omega) (by rw [ordL_len]; exact hj) hij
  unfold ordA
  rw [List.getD_eq_getElem?_getD, List.getD_eq_getElem?_getD, List.getElem?_eq_getElem (by rw [ordL_len]; omega), List.getElem?_eq_getElem (by rw [ordL_len]; exact hj)]
  exact h
theorem so_lt2 (R : Nat → Row) (P : Nat → Nat) (ko M : Nat) {i j : Nat} (hij : i < j) (hj : j < M) : LtR (fun i t => (soR R P ko M i).at_ (P t)) ko i j := by
  rcases so_lt R P ko M hij hj with h | ⟨h, _⟩
  · exact .inl h
  · exact .inr ⟨h, hij⟩
theorem so_again (R : Nat → Row) (P : Nat → Nat) (ko M : Nat) {i : Nat} (hi : i < M) : soR (soR R P ko M) P ko M i = soR R P ko M i := by
  have h : List.range M = ordL (fun i t => (soR R P ko M i).at_ (P t)) ko M := by
    refine ord_unique (List.Perm.refl _) ?_
    rw [List.pairwise_iff_getElem]
    intro a b ha hb hab
    rw [List.getElem_range, List.getElem_range]
    exact so_lt2 R P ko M hab (by simpa using hb)
  show soR R P ko M (ordA (fun i t => (soR R P ko M i).at_ (P t)) ko M i) = _
  unfold ordA
  rw [← h]
  simp [hi]
/-- each row is there -/
theorem so_has (R : Nat → Row) (P : Nat → Nat) (ko M : Nat) {i : Nat} (hi : i < M) : ∃ j, j < M ∧ soR R P ko M j = R i := by
  have h : i ∈ ordL (fun i t => (R i).at_ (P t)) ko M := ordL_mem.2 hi
  obtain ⟨j, hj, e⟩ := List.mem_iff_getElem.1 h
  rw [ordL_len] at hj
  refine ⟨j, hj, ?_⟩
  unfold soR ordA
  rw [List.getD_eq_getElem?_getD, List.getElem?_eq_getElem (by rw [ordL_len]; exact hj), Option.getD_some, e]
theorem so_none (R : Nat → Row) (P Q : Nat → Nat) (ko kq M : Nat) : keptN (excK R Q (soR R P ko M) Q M kq) M = 0 := by
  have h : keptL (excK R Q (soR R P ko M) Q M kq) M = [] := by
    unfold keptL
    rw [List.filter_eq_nil_iff]
    intro i hi hK
    obtain ⟨j, hj, e⟩ := so_has R P ko M (List.mem_range.1 hi)
    have h4 := excK_iff.1 hK j hj
    have h5 : pickX (soR R P ko M) Q j = pickX R Q i := by unfold pickX; rw [e]
    rw [h5, sameB_iff.2 (fun _ _ => rfl)] at h4
    exact absurd h4 (by decide)
  unfold keptN
  rw [h]; rfl
theorem so_exc (X : Nat → Rw) (M : Nat) (hM : M ≤ 12) : excF (twoC nA nB) 2 (rawR X) M (twoC nA nB) 2 (soX X M) M (twoC nA nB) 2 = 0 := by
  unfold excF twoF
  rw [rel_ab X M hM, so_rel X M hM, if_pos rfl, if_pos rfl, if_pos ⟨found_two, found_two⟩]
/-- how two rows that stand side by side compare -/
theorem so_cmp (X : Nat → Rw) (M : Nat) {i : Nat} (h1 : 1 ≤ i) (hi : i < M) : cmpT ((soX X M (i - 1)).at_ 1) ((soX X M i).at_ 1) = -1 ∨ (cmpT ((soX X M (i - 1)).at_ 1) ((soX X M i).at_ 1) = 0 ∧ (cmpT ((soX X M (i - 1)).at_ 0) ((soX X M i).at_ 0) = -1 ∨ cmpT ((soX X M (i - 1)).at_ 0) ((soX X M i).at_ 0) = 0)) := by
  have h := so_lt2 (rawR X) (prP (twoC nA nB) 2 (twoC nB nA)) 2 M (show i - 1 < i by omega) hi
  rcases h with ⟨k, k1, k2, k3⟩ | ⟨h, _⟩
  · have : k = 0 ∨ k = 1 := by omega
    rcases this with rfl | rfl
    · simp only [pr_ba0] at k3
      exact .inl (cmpT_lt k3)
    · have e := k2 0 (by omega)
      simp only [pr_ba0] at e
      simp only [pr_ba1] at k3
      refine .inr ⟨?_, .inl (cmpT_lt k3)⟩
      show cmpT ((soR (rawR X) (prP (twoC nA nB) 2 (twoC nB nA)) 2 M (i - 1)).at_ 1) _ = 0
      rw [e]
      exact cmpT_eq _
  · have e0 := h 0 (by omega)
    have e1 := h 1 (by omega)
    simp only [pr_ba0] at e0
    simp only [pr_ba1] at e1
    refine .inr ⟨?_, .inr ?_⟩
    · show cmpT ((soR (rawR X) (prP (twoC nA nB) 2 (twoC nB nA)) 2 M (i - 1)).at_ 1) _ = 0
      rw [e0]
      exact cmpT_eq _
    · show cmpT ((soR (rawR X) (prP (twoC nA nB) 2 (twoC nB nA)) 2 M (i - 1)).at_ 0) _ = 0
      rw [e1]
      exact cmpT_eq _
end Go.Proofs.YtdedenggbbppeaaDoor
set_option linter.unusedVariables false
namespace Go.Proofs.YtdedenggbbppeaaDoor
set_option maxRecDepth 100000
open Go.RowKit Go.WideShapes

theorem relation_ex (v : Value) (n : Nat) (X : Nat → Rw) (a b : ByteArray) (w : World) (hv : RawsIs w v n X) (hf : RawsFine n X) :
    Calls Tryd.prog 4 #[v, .string a, .string b] w fun e w' => ∃ ca cc ra rc, e = .returned (.agg #[.slice ca 2 cc, .slice ra (rawN n) rc]) ∧ CopyIs w' (.slice ca 2 cc) (.slice ra (rawN n) rc) 2 (rawN n) (twoC a b) (rawR X) ∧ Chain w w' := by
  refine (relation_is v n X a b w hv hf).mono ?_
  rintro e w' ⟨c, q, rfl, h1, h2, h3, h4⟩
  have h1' := h1
  obtain ⟨ca, cc, rfl, _⟩ := h1
  have h2' := h2.is
  obtain ⟨ra, rc, rfl⟩ := h2.shape
  exact ⟨ca, cc, ra, rc, rfl, ⟨h1', h2'⟩, h3⟩
theorem two_litb (w : World) (a b : ByteArray) (T : TypeId) (g : Nat) (h : w.heap.size = g) : StrsIs (w.alloc (.cells #[.string a, .string b] T)) (.slice (some ⟨g, 0, none⟩) 2 2) 2 (twoC a b) := by
  subst h
  exact ⟨_, _, rfl, Nat.le_refl _, by unfold maxLen; omega, (fun h => nomatch h), fun _ => ⟨_, _, rfl, by simp, fun i hi => by
    have : i = 0 ∨ i = 1 := by omega
    rcases this with rfl | rfl <;> simp [twoC]⟩⟩
theorem carry2 {w wr : World} {b : Nat} {x y : Value} (h : Chain w wr) (h0 : w.cell? ⟨b, 0, none⟩ = some x) (h1 : w.cell? ⟨b, 1, none⟩ = some y) (hb : b < w.heap.size) : wr.cell? ⟨b, 0, none⟩ = some x ∧ wr.cell? ⟨b, 1, none⟩ = some y ∧ b < wr.heap.size :=
  ⟨(Below.cell h (p := ⟨b, 0, none⟩) hb).trans h0, (Below.cell h (p := ⟨b, 1, none⟩) hb).trans h1, Nat.lt_of_lt_of_le hb (Below.size h)⟩
theorem fresh_copy {e : Ending} {w' W : World} {F : Int} {n m : Nat} {C : Nat → ByteArray} {R : Nat → Row} (hF : F = 0) (h : ∃ c1 q1, e = .returned (.tuple #[.agg #[c1, q1], .int .i64 F]) ∧ FreshRel W w' c1 q1 (okN F n) (okN F m) C R ∧ Below W.heap.size W w') : ∃ a3 k3 b3 l3, e = .returned (.tuple #[.agg #[.slice a3 n k3, .slice b3 m l3], .int .i64 0]) ∧ CopyIs w' (.slice a3 n k3) (.slice b3 m l3) n m C R ∧ Chain W w' := by
  subst hF
  obtain ⟨c1, q1, h3, h4, h5⟩ := h
  obtain ⟨h7, h8⟩ := h4 w' (Nat.le_refl _) (fun _ _ _ => rfl)
  have h9 := h8
  have h10 := h7
  obtain ⟨a3, k3, rfl, _⟩ := h7
  obtain ⟨b3, l3, rfl, _⟩ := h8
  exact ⟨a3, k3, b3, l3, h3, ⟨h10, h9⟩, h5⟩
set_option maxHeartbeats 12800000 in
theorem lawSortStays (v : Value) (n : Nat) (X : Nat → Rw) (w : World) (hv : RawsIs w v n X) (hf : RawsFine n X) (hT : Tabs w) :
    Calls Tryd.prog 3 #[v] w fun e w' => e = .returned (.bool true) ∧ Below w.heap.size w w' := by
  have hm := rawN_le n
  have CA : Hid (∀ W, Chain w W → Calls Tryd.prog 4 #[v, .string ⟨#[97]⟩, .string ⟨#[98]⟩] W fun e w' => ∃ ca cc ra rc, e = .returned (.agg #[.slice ca 2 cc, .slice ra (rawN n) rc]) ∧ CopyIs w' (.slice ca 2 cc) (.slice ra (rawN n) rc) 2 (rawN n) (twoC nA nB) (rawR X) ∧ Chain W w') := fun W hW => relation_ex v n X nA nB W (hv.below hW) hf
  obtain ⟨M, hM⟩ : ∃ M, M = rawN n := ⟨_, rfl⟩
  rw [← hM] at CA hm
  have hfs : StrsFine 2 (twoC nA nB) := cols_fine _ _ (by decide) (by decide)
  have hfb : StrsFine 2 (twoC nB nA) := cols_fine _ _ (by decide) (by decide)
  have CS1 : Hid (∀ W c q l, Chain w W → CopyIs W c q 2 M (twoC nA nB) (rawR X) → StrsIs W l 2 (twoC nB nA) → Calls Tryd.prog 5 #[.agg #[c, q], l] W fun e w' => ∃ a3 k3 b3 l3, e = .returned (.tuple #[.agg #[.slice a3 2 k3, .slice b3 M l3], .int .i64 0]) ∧ CopyIs w' (.slice a3 2 k3) (.slice b3 M l3) 2 M (twoC nA nB) (soX X M) ∧ Chain W w') := fun W c q l hW h1 hl =>
    (sort_is c q l 2 M 2 (twoC nA nB) (twoC nB nA) (rawR X) W h1.1 h1.2 hfs (raw_fine X M hm) hl hfb (Utf8Tabs_below hT hW)).mono fun e w' h => fresh_copy (so_ok X M hm) h
  have CS2 : Hid (∀ W c q l, Chain w W → CopyIs W c q 2 M (twoC nA nB) (soX X M) → StrsIs W l 2 (twoC nB nA) → Calls Tryd.prog 5 #[.agg #[c, q], l] W fun e w' => ∃ a3 k3 b3 l3, e = .returned (.tuple #[.agg #[.slice a3 2 k3, .slice b3 M l3], .int .i64 0]) ∧ CopyIs w' (.slice a3 2 k3) (.slice b3 M l3) 2 M (twoC nA nB) (soR (soX X M) (prP (twoC nA nB) 2 (twoC nB nA)) 2 M) ∧ Chain W w') := fun W c q l hW h1 hl =>
    (sort_is c q l 2 M 2 (twoC nA nB) (twoC nB nA) (soX X M) W h1.1 h1.2 hfs (so_fine X M hm) hl hfb (Utf8Tabs_below hT hW)).mono fun e w' h => fresh_copy (so_ok2 X M hm) h
  have CE : Hid (∀ W c q c' q' l, Chain w W → CopyIs W c q 2 M (twoC nA nB) (rawR X) → CopyIs W c' q' 2 M (twoC nA nB) (soX X M) → StrsIs W l 2 (twoC nA nB) → Calls Tryd.prog 6 #[.agg #[c, q], .agg #[c', q'], l] W fun e w' => ∃ a3 k3 b3 l3, e = .returned (.tuple #[.agg #[.slice a3 2 k3, .slice b3 0 l3], .int .i64 0]) ∧ Chain W w') := fun W c q c' q' l hW h1 h2 hl => by
    have h := except_is c q c' q' l 2 M 2 M 2 (twoC nA nB) (twoC nA nB) (twoC nA nB) (rawR X) (soX X M) W h1.1 h1.2 hfs (raw_fine X M hm) h2.1 h2.2 hfs (so_fine X M hm) hl hfs (Utf8Tabs_below hT hW)
    rw [show keptN (excK (rawR X) (prP (twoC nA nB) 2 (twoC nA nB)) (soX X M) (prP (twoC nA nB) 2 (twoC nA nB)) M 2) M = 0 from so_none (rawR X) _ _ 2 2 M] at h
    refine h.mono fun e w' h => ?_
    obtain ⟨a3, k3, b3, l3, h1, _, h3⟩ := fresh_copy (so_exc X M hm) h
    exact ⟨a3, k3, b3, l3, h1, h3⟩
  have HSAME : Hid (∀ i, i < M → soX X M i = soR (soX X M) (prP (twoC nA nB) 2 (twoC nB nA)) 2 M i) := fun i hi => (so_again (rawR X) (prP (twoC nA nB) 2 (twoC nB nA)) 2 M hi).symm
  have HCMP : Hid (∀ i, 1 ≤ i → i < M → cmpT ((soX X M (i - 1)).at_ 1) ((soX X M i).at_ 1) = -1 ∨ (cmpT ((soX X M (i - 1)).at_ 1) ((soX X M i).at_ 1) = 0 ∧ (cmpT ((soX X M (i - 1)).at_ 0) ((soX X M i).at_ 0) = -1 ∨ cmpT ((soX X M (i - 1)).at_ 0) ((soX X M i).at_ 0) = 0))) := fun i h1 h2 => so_cmp X M h1 h2
  have HLEN : Hid (∀ i, (soX X M i).len = 2) := fun i => so_len X M i
  generalize soR (soX X M) (prP (twoC nA nB) 2 (twoC nB nA)) 2 M = V at *
  generalize soX X M = U at *
  obtain ⟨va, vc, rfl, _⟩ := hv
  clear hf hT hM hfs hfb
  have mixed : Tryd.prog.follows .mixedOrders = true := by kernel_rfl
  go_enter Tryd.func3, Tryd.ntmps3
  go_wp2_with (first
    | (go_at_call 4; refine (CA.out _ (Chain.refl _)).mono ?_; rintro e w1 ⟨ca, cc, ra, rc, rfl, hc1, hb1⟩; have HC1 : Hid (CopyIs w1 (.slice ca 2 cc) (.slice ra M rc) 2 M (twoC nA nB) (rawR X)) := hc1; have HB1 : Hid (Chain w w1) := hb1; clear hc1 hb1 CA)
    | (go_at_call_has 5 (Value.slice ra M rc); refine (CS1.out _ _ _ _ ?_ ?_ ?_).mono ?_; (focus (repeat (first | exact HB1.out | refine Chain.alloc ?_ _))); (focus (repeat (first | exact HC1.out | refine CopyIs.alloc ?_ _))); (focus (exact two_litb _ _ _ _ _ (by simp))); rintro e w2 ⟨a3, k3, b3, l3, rfl, hc2, hb2⟩; have HC2 : Hid (CopyIs w2 (.slice a3 2 k3) (.slice b3 M l3) 2 M (twoC nA nB) U) := hc2; have hb2' : Chain (w1.alloc (.cells #[.slice ca 2 cc, .slice ra M rc] 26)) w2 := Chain.trans (by (repeat (first | exact Chain.refl _ | refine Chain.alloc ?_ _))) hb2; obtain ⟨x0, x1, x2, _, _⟩ := kept_new hb2'; have HB12 : Hid (Chain w1 w2) := ((Chain.refl _).alloc _).trans hb2'; clear hc2 hb2 hb2' CS1)
    | (go_at_call_has 5 (Value.slice b3 M l3); refine (CS2.out _ _ _ _ ?_ ?_ ?_).mono ?_; (focus (repeat (first | exact HB1.out.trans HB12.out | refine Chain.alloc ?_ _))); (focus (repeat (first | exact HC2.out | refine CopyIs.alloc ?_ _))); (focus (exact two_litb _ _ _ _ _ (by simp))); rintro e w3 ⟨a4, k4, b4, l4, rfl, hc3, hb3⟩; have HC3 : Hid (CopyIs w3 (.slice a4 2 k4) (.slice b4 M l4) 2 M (twoC nA nB) V) := hc3; have hb3' : Chain (w2.alloc (.cells #[.slice a3 2 k3, .slice b3 M l3] 26)) w3 := Chain.trans (by (repeat (first | exact Chain.refl _ | refine Chain.alloc ?_ _))) hb3; obtain ⟨y0, y1, y2, _, _⟩ := kept_new hb3'; have HB23 : Hid (Chain w2 w3) := ((Chain.refl _).alloc _).trans hb3'; have hx := carry2 HB23.out x0 x1 x2; clear x0 x1 x2; obtain ⟨x0, x1, x2⟩ := hx; clear hc3 hb3 hb3' CS2)
    | (go_at_call 6; refine (CE.out _ _ _ _ _ _ ?_ ?_ ?_ ?_).mono ?_; (focus (repeat (first | exact (HB1.out.trans HB12.out).trans HB23.out | refine Chain.alloc ?_ _))); (focus (repeat (first | exact HC1.out.chain (HB12.out.trans HB23.out) | refine CopyIs.alloc ?_ _))); (focus (repeat (first | exact HC2.out.chain HB23.out | refine CopyIs.alloc ?_ _))); (focus (exact two_litb _ _ _ _ _ (by simp))); rintro e w4 ⟨a5, k5, b5, l5, rfl, hb4⟩; have hb4' : Chain (w3.alloc (.cells #[.slice a4 2 k4, .slice b4 M l4] 26)) w4 := Chain.trans (by (repeat (first | exact Chain.refl _ | refine Chain.alloc ?_ _))) hb4; obtain ⟨z0, z1, z2, _, _⟩ := kept_new hb4'; have HB34 : Hid (Chain w3 w4) := ((Chain.refl _).alloc _).trans hb4'; have hx := carry2 HB34.out x0 x1 x2; clear x0 x1 x2; obtain ⟨x0, x1, x2⟩ := hx; have hy := carry2 HB34.out y0 y1 y2; clear y0 y1 y2; obtain ⟨y0, y1, y2⟩ := hy; clear hb4 hb4' CE))
  have HBW : Hid (Chain w w4) := ((HB1.out.trans HB12.out).trans HB23.out).trans HB34.out
  obtain ⟨W5, hW5⟩ : ∃ W, W = w4.alloc (.cells #[.slice a5 2 k5, .slice b5 0 l5] 26) := ⟨_, rfl⟩
  have h45 : Chain w4 W5 := by rw [hW5]; exact (Chain.refl _).alloc _
  have t0 : W5.cell? ⟨w4.heap.size, 0, none⟩ = some (.slice a5 2 k5) := by rw [hW5]; simp
  have t1 : W5.cell? ⟨w4.heap.size, 1, none⟩ = some (.slice b5 0 l5) := by rw [hW5]; simp
  have t2 : w4.heap.size < W5.heap.size := by rw [hW5]; simp
  have HS : Hid (∀ W, Chain W5 W → (W.cell? ⟨w1.heap.size, 0, none⟩ = some (.slice ca 2 cc) ∧ W.cell? ⟨w1.heap.size, 1, none⟩ = some (.slice ra M rc) ∧ w1.heap.size < W.heap.size) ∧ (W.cell? ⟨w2.heap.size, 0, none⟩ = some (.slice a3 2 k3) ∧ W.cell? ⟨w2.heap.size, 1, none⟩ = some (.slice b3 M l3) ∧ w2.heap.size < W.heap.size) ∧ (W.cell? ⟨w3.heap.size, 0, none⟩ = some (.slice a4 2 k4) ∧ W.cell? ⟨w3.heap.size, 1, none⟩ = some (.slice b4 M l4) ∧ w3.heap.size < W.heap.size) ∧ (W.cell? ⟨w4.heap.size, 0, none⟩ = some (.slice a5 2 k5) ∧ W.cell? ⟨w4.heap.size, 1, none⟩ = some (.slice b5 0 l5) ∧ w4.heap.size < W.heap.size)) := fun W h => ⟨carry2 (h45.trans h) x0 x1 x2, carry2 (h45.trans h) y0 y1 y2, carry2 (h45.trans h) z0 z1 z2, carry2 h t0 t1 t2⟩
  have HWW : Hid (∀ W, Chain W5 W → Chain w W) := fun W h => (HBW.out.trans h45).trans h
  have HRU : Hid (∀ W, Chain W5 W → RowsIs W (.slice b3 M l3) M U) := fun W h => HC2.out.2.below (((HB23.out.trans HB34.out).trans h45).trans h)
  have HRV : Hid (∀ W, Chain W5 W → RowsIs W (.slice b4 M l4) M V) := fun W h => HC3.out.2.below ((HB34.out.trans h45).trans h)
  have CSAME : Hid (∀ W, Chain W5 W → Calls Tryd.prog 8 #[.slice b3 M l3, .slice b4 M l4] W fun e w' => e = .returned (.bool true) ∧ ∃ q, w' = W.drewN q) := fun W h => sameRows_is _ _ M U V W (HRU.out W h) (HRV.out W h) HSAME.out
  rw [← hW5]
  clear hW5 h45 t0 t1 t2 HBW HB1 HB12 HB23 HB34 HC1 HC2 HC3 x0 x1 x2 y0 y1 y2 z0 z1 z2 HSAME HRV
  go_loopw [10] (fun v wr => ∃ k : Nat, 1 ≤ k ∧ v = .int .i64 (k : Int) ∧ Chain W5 wr) (fun v _ => M - (intOf v).toNat)
  case atStart => exact ⟨1, Nat.le_refl _, rfl, Chain.refl _⟩
  case round =>
    obtain ⟨k, hk1, rfl, hch⟩ := hrel
    obtain ⟨j, hjk⟩ : ∃ j, k = j + 1 := ⟨k - 1, by omega⟩
    have HCH : Hid (Chain W5 wr) := hch
    obtain ⟨⟨x0, x1, x2⟩, ⟨y0, y1, y2⟩, ⟨z0, z1, z2⟩, ⟨t0, t1, t2⟩⟩ := HS.out wr hch
    by_cases hkl : k < M
    · have hcm := HCMP.out k hk1 hkl
      rw [show k - 1 = j by omega] at hcm
      obtain ⟨_, _, e', _, _, _, h4⟩ := HRU.out wr hch
      cases e'
      obtain ⟨b, off, rfl, hb0, h5⟩ := h4 (by omega)
      obtain ⟨uu, e1, hu⟩ := h5 j (by omega)
      obtain ⟨uv, e2, hv⟩ := h5 k hkl
      rw [HLEN.out j] at hu
      rw [HLEN.out k] at hv
      obtain ⟨ua1, uc1, rfl, u1, u2, _, u3⟩ := hu
      obtain ⟨va1, vc1, rfl, v1, v2, _, v3⟩ := hv
      obtain ⟨ub, uo, rfl, hub, u4⟩ := u3 (by omega)
      obtain ⟨vb, vo, rfl, hvb, v4⟩ := v3 (by omega)
      obtain ⟨p0, p1, p2⟩ := u4 0 (by omega)
      obtain ⟨p3, p4, p5⟩ := u4 1 (by omega)
      obtain ⟨q0, q1, q2⟩ := v4 0 (by omega)
      obtain ⟨q3, q4, q5⟩ := v4 1 (by omega)
      simp only [Nat.zero_mul, Nat.add_zero, Nat.one_mul] at p0 p1 p2 p3 p4 p5 q0 q1 q2 q3 q4 q5
      have hji : (k : Int) < (M : Int) := by omega
      have hjj : (j : Int) < (M : Int) := by omega
      have hj12 : (j : Int) ≤ 12 := by omega
      have hwj : IntKind.i64.wrap ((k : Int) - 1) = (j : Int) := by rw [hjk]; simp; exact IntWalk.i64_in _ (by omega)
      have HJK : Hid (k = j + 1) := hjk
      clear hjk
      have CJ : Hid (∀ (x y : It) W, Calls Tryd.prog 7 #[.agg #[.int .i64 x.kind, .int .i64 x.n, .string x.s], .agg #[.int .i64 y.kind, .int .i64 y.n, .string y.s]] W fun e w' => e = .returned (.int .i64 (cmpT x y)) ∧ ∃ q os', w' = Go.Sort.grow (W.drewN q) os') := fun x y W => (compare_grow _ _ _ _ _ _ W).mono fun e w' ⟨he, os', hw⟩ => ⟨he, 0, os', hw⟩
      have C1 := CJ.out ((U j).at_ 1) ((U k).at_ 1)
      have C0 := CJ.out ((U j).at_ 0) ((U k).at_ 0)
      have CC1 : Hid (∀ W, Calls Tryd.prog 7 _ W _) := C1
      have CC0 : Hid (∀ W, Calls Tryd.prog 7 _ W _) := C0
      clear C1 C0 CJ
      have HG : Hid (∀ W, Chain wr W → W.cell? ⟨w2.heap.size, 1, none⟩ = some (.slice (some ⟨b, off, none⟩) M l3) ∧ w2.heap.size < W.heap.size ∧ b < W.heap.size ∧ ub < W.heap.size ∧ vb < W.heap.size ∧ W.cell? ⟨b, off + j, none⟩ = some (.slice (some ⟨ub, uo, none⟩) 2 uc1) ∧ W.cell? ⟨b, off + k, none⟩ = some (.slice (some ⟨vb, vo, none⟩) 2 vc1) ∧ (W.cell? ⟨ub, uo, none⟩ = some (.int .i64 ((U j).at_ 0).kind) ∧ W.cell? ⟨ub, uo + 1, none⟩ = some (.int .i64 ((U j).at_ 0).n) ∧ W.cell? ⟨ub, uo + 2, none⟩ = some (.string ((U j).at_ 0).s)) ∧ (W.cell? ⟨ub, uo + 3, none⟩ = some (.int .i64 ((U j).at_ 1).kind) ∧ W.cell? ⟨ub, uo + 3 + 1, none⟩ = some (.int .i64 ((U j).at_ 1).n) ∧ W.cell? ⟨ub, uo + 3 + 2, none⟩ = some (.string ((U j).at_ 1).s)) ∧ (W.cell? ⟨vb, vo, none⟩ = some (.int .i64 ((U k).at_ 0).kind) ∧ W.cell? ⟨vb, vo + 1, none⟩ = some (.int .i64 ((U k).at_ 0).n) ∧ W.cell? ⟨vb, vo + 2, none⟩ = some (.string ((U k).at_ 0).s)) ∧ (W.cell? ⟨vb, vo + 3, none⟩ = some (.int .i64 ((U k).at_ 1).kind) ∧ W.cell? ⟨vb, vo + 3 + 1, none⟩ = some (.int .i64 ((U k).at_ 1).n) ∧ W.cell? ⟨vb, vo + 3 + 2, none⟩ = some (.string ((U k).at_ 1).s))) := fun W hW => ⟨(Below.cell hW (p := ⟨w2.heap.size, 1, none⟩) y2).trans y1, Nat.lt_of_lt_of_le y2 (Below.size hW), Nat.lt_of_lt_of_le hb0 (Below.size hW), Nat.lt_of_lt_of_le hub (Below.size hW), Nat.lt_of_lt_of_le hvb (Below.size hW), (Below.cell hW (p := ⟨b, off + j, none⟩) hb0).trans e1, (Below.cell hW (p := ⟨b, off + k, none⟩) hb0).trans e2, ⟨(Below.cell hW (p := ⟨ub, uo, none⟩) hub).trans p0, (Below.cell hW (p := ⟨ub, uo + 1, none⟩) hub).trans p1, (Below.cell hW (p := ⟨ub, uo + 2, none⟩) hub).trans p2⟩, ⟨(Below.cell hW (p := ⟨ub, uo + 3, none⟩) hub).trans p3, (Below.cell hW (p := ⟨ub, uo + 3 + 1, none⟩) hub).trans p4, (Below.cell hW (p := ⟨ub, uo + 3 + 2, none⟩) hub).trans p5⟩, ⟨(Below.cell hW (p := ⟨vb, vo, none⟩) hvb).trans q0, (Below.cell hW (p := ⟨vb, vo + 1, none⟩) hvb).trans q1, (Below.cell hW (p := ⟨vb, vo + 2, none⟩) hvb).trans q2⟩, ⟨(Below.cell hW (p := ⟨vb, vo + 3, none⟩) hvb).trans q3, (Below.cell hW (p := ⟨vb, vo + 3 + 1, none⟩) hvb).trans q4, (Below.cell hW (p := ⟨vb, vo + 3 + 2, none⟩) hvb).trans q5⟩⟩
      clear h4 h5 u3 u4 v3 v4 p0 p1 p2 p3 p4 p5 q0 q1 q2 q3 q4 q5 hch e1 e2 hub hvb hb0
      generalize (U j).at_ 0 = X0 at *
      generalize (U j).at_ 1 = X1 at *
      generalize (U k).at_ 0 = Y0 at *
      generalize (U k).at_ 1 = Y1 at *
      have g0 := fun nn oo => (HG.out _ (grown_chain wr nn oo)).1
      have g1 := fun nn oo => (HG.out _ (grown_chain wr nn oo)).2.2.2.2.2.1
      have g2 := fun nn oo => (HG.out _ (grown_chain wr nn oo)).2.2.2.2.2.2.1
      have g3 := fun nn oo => (HG.out _ (grown_chain wr nn oo)).2.2.2.2.2.2.2.2.1.1
      have g4 := fun nn oo => (HG.out _ (grown_chain wr nn oo)).2.2.2.2.2.2.2.2.1.2.1
      have g5 := fun nn oo => (HG.out _ (grown_chain wr nn oo)).2.2.2.2.2.2.2.2.1.2.2
      have g6 := fun nn oo => (HG.out _ (grown_chain wr nn oo)).2.2.2.2.2.2.2.2.2.2.1
      have g7 := fun nn oo => (HG.out _ (grown_chain wr nn oo)).2.2.2.2.2.2.2.2.2.2.2.1
      have g8 := fun nn oo => (HG.out _ (grown_chain wr nn oo)).2.2.2.2.2.2.2.2.2.2.2.2
      go_upto_region 8 with fail
      go_quiet_grown ((go_at_call 7; refine Calls.grown_of (CC1.out _)))
      clear g0 g1 g2 g3 g4 g5 g6 g7 g8
      obtain ⟨W2, hW2⟩ : ∃ W, W = Go.Sort.grow (wr.drewN nq) osq := ⟨_, rfl⟩
      have hc2 : Chain wr W2 := by rw [hW2]; exact grown_chain wr nq osq
      have HC2 : Hid (Chain W5 W2) := HCH.out.trans hc2
      show Exit.then _ _ _ _ (Go.Sort.grow (wr.drewN nq) osq)
      rw [← hW2]
      clear hW2
      have g0 := fun nn oo => (HG.out _ (hc2.trans (grown_chain W2 nn oo))).1
      have g1 := fun nn oo => (HG.out _ (hc2.trans (grown_chain W2 nn oo))).2.2.2.2.2.1
      have g2 := fun nn oo => (HG.out _ (hc2.trans (grown_chain W2 nn oo))).2.2.2.2.2.2.1
      have g3 := fun nn oo => (HG.out _ (hc2.trans (grown_chain W2 nn oo))).2.2.2.2.2.2.2.1.1
      have g4 := fun nn oo => (HG.out _ (hc2.trans (grown_chain W2 nn oo))).2.2.2.2.2.2.2.1.2.1
      have g5 := fun nn oo => (HG.out _ (hc2.trans (grown_chain W2 nn oo))).2.2.2.2.2.2.2.1.2.2
      have g6 := fun nn oo => (HG.out _ (hc2.trans (grown_chain W2 nn oo))).2.2.2.2.2.2.2.2.2.1.1
      have g7 := fun nn oo => (HG.out _ (hc2.trans (grown_chain W2 nn oo))).2.2.2.2.2.2.2.2.2.1.2.1
      have g8 := fun nn oo => (HG.out _ (hc2.trans (grown_chain W2 nn oo))).2.2.2.2.2.2.2.2.2.1.2.2
      clear x0 x1 x2 y0 y1 y2 z0 z1 z2 t0 t1 t2 CC1
      rcases hcm with h1 | ⟨h1, h2⟩
      · rw [h1]
        clear h1
        go_upto_region 9 with fail
        go_quiet (fail)
        go_wp2_with fail
        go_roundw
        case rel => exact ⟨k + 1, by omega, by go_num, below_drawn HC2.out _⟩
        case measure => simp [intOf]; omega
      · rw [h1]
        clear h1
        rcases h2 with h2 | h2
        · rw [h2] at CC0
          clear h2
          go_upto_region 9 with fail
          go_quiet_grown ((go_at_call 7; refine Calls.grown_of (CC0.out _)))
          go_wp2_with fail
          go_roundw
          case rel => exact ⟨k + 1, by omega, by go_num, HC2.out.trans (grown_chain _ _ _)⟩
          case measure => simp [intOf]; omega
        · rw [h2] at CC0
          clear h2
          go_upto_region 9 with fail
          go_quiet_grown ((go_at_call 7; refine Calls.grown_of (CC0.out _)))
          go_wp2_with fail
          go_roundw
          case rel => exact ⟨k + 1, by omega, by go_num, HC2.out.trans (grown_chain _ _ _)⟩
          case measure => simp [intOf]; omega
    · go_wp2_with (go_at_call 8; refine (CSAME.out _ HCH.out).mono ?_; rintro e w7 ⟨rfl, q7, hw7⟩; have HW7 : Hid (w7 = wr.drewN q7) := hw7; clear hw7)
      go_ret
      exact ⟨ret_bool (by simp), by rw [HW7.out]; exact below_drawn (HWW.out _ HCH.out) q7⟩
end Go.Proofs.YtdedenggbbppeaaDoor
set_option linter.unusedVariables false
namespace Go.Proofs.YtdedenggbbppeaaDoor.sortStays
open Go.ChangeShapes Go.WideShapes Go.ChangeAt Go.RowKit

theorem own : ownKnob Tryd.prog.godebug = none := by kernel_rfl
theorem laidOut : laidOutB Tryd.prog = true := by kernel_rfl


theorem env_of {W : World} (hL : laidMetH Tryd.prog Rows.sortStaysRow.laid W) (hsh : W.ShapedOpen Tryd.prog) : Tabs W := by
  rw [MakeChecks.laidMetH_plain _ _ _ (by kernel_rfl)] at hL
  exact tabs_of hL (.tail _ (.head _)) (.head _)

theorem laid_met (os : Os) (args : Array Value) : laidMet Tryd.prog Rows.sortStaysRow.laid ((laidWorld os).forCall (fun _ _ => 0) ⟨#[], args, []⟩).memory :=
  (LaidIn.of_run (l := Rows.sortStaysRow.laid) [Tryd.laysValid_ren.g 4, Tryd.laysValid_ren.g 3] 8 (by kernel_rfl) (by kernel_rfl) (by kernel_rfl) (by kernel_rfl)).met
theorem witness_row (os : Os) {H : Type} (enc : TypeId × Value → H) :
    (OpenSpec.ofChange Rows.sortStaysSpec).preRow enc Tryd.prog Tryd.f3 Rows.sortStaysRow.domain false Rows.sortStaysRow.laid ((laidWorld os).forCall (fun _ _ => 0) ⟨#[], #[.slice none 0 0], []⟩).memory #[.slice none 0 0] := by
  have hw : (DataW.whole enc Tryd.prog ((laidWorld os).forCall (fun _ _ => 0) ⟨#[], #[.slice none 0 0], []⟩).memory Tryd.f3.params.toList (OpenSpec.ofChange Rows.sortStaysSpec).vars false (#[.slice none 0 0] : Array Value).toList 8).map (fun x => (x.1, x.2.1)) =
      some ([.nil], []) := by kernel_rfl
  obtain ⟨⟨x1, x2, x3⟩, hx, hx1⟩ := Option.map_eq_some_iff.1 hw
  simp only [Prod.mk.injEq] at hx1
  obtain ⟨rfl, rfl⟩ := hx1
  exact OpenSpec.preRow_of_cond 8 hx (by kernel_rfl) (fun k hk => by cases hk) (by kernel_rfl) (laid_met os _)

set_option maxRecDepth 100000 in
/-- WHAT THE WALKS GIVE, FOR EVERY ARGUMENT AND EVERY WORLD THAT HOLDS THE TABLES. -/
theorem contract (H : Type) (enc : TypeId × Value → H) (W : World) (base : Nat) (args : Array Value) (ds gs : List (DataW H)) (before : List MemPlace)
    (hval : ∀ (j : Nat) t v, Tryd.f3.params[j]? = some t → args[j]? = some v → Value.okWide Tryd.prog W .any base t v)
    (hW : DataW.Whole enc Tryd.prog Tryd.f3.params.toList Rows.sortStaysSpec.vars false W args.toList ds gs before)
    (hsz0 : (DataW.weightsEach Tryd.prog (Tryd.f3.params.toList ++ (OpenSpec.ofChange Rows.sortStaysSpec).bare.plain.varTypes Tryd.prog) (ds ++ gs)).all (· ≤ reachBytes) = true)
    (hL : laidMetH Tryd.prog Rows.sortStaysRow.laid W) (hsh : W.ShapedOpen Tryd.prog) :
    Calls Tryd.prog 3 args W fun e W' => ∃ v, e = .returned v ∧ Rows.sortStaysSpec.post enc Tryd.prog Tryd.f3 false true false false W args v W' := by
  have hT := env_of hL hsh
  have hW' := hW
  obtain ⟨p, q, hA0, hV, rfl, hfz, hnd⟩ := hW
  have hA : DataW.TrodAll enc Tryd.prog W 0 (fun _ => true) true Tryd.f3.params.toList args.toList ds p := hA0
  rw [Tryd.params3] at hA hval hsz0
  obtain ⟨v0, d0, rfl, rfl, h0⟩ := trodAll_one hA
  obtain ⟨rfl, rfl⟩ := trodVars_none hV
  have hlt : ∀ x ∈ p, x.block < W.heap.size := fun x hx => by
    have := hW'.lt x (by simpa using hx)
    simpa using this
  clear hA0
  have key : Calls Tryd.prog 3 #[v0] W fun e w' => e = .returned (.bool true) ∧ Below W.heap.size W w' := by
    obtain ⟨n, X, hr, hfi⟩ := open_raws (hval 0 22 v0 rfl rfl) h0
    exact lawSortStays v0 n X W hr hfi hT
  refine key.mono ?_
  rintro e W' ⟨rfl, bel⟩
  refine ⟨_, rfl, _, _, _, [], p, [], hW', ?_, ?_, ?_, bel.frame _, fun h => by cases h⟩
  · exact trodAll_mk1 (shut_bool Tryd.underlying4 _)
  · exact trodAll_mk1 (Below.trod laidOut (by kernel_rfl) (of_decide_eq_true (by kernel_rfl)) h0 bel (fun x hx => hlt x (by simp [hx])))
  · rfl

set_option maxRecDepth 100000 in
theorem lifted (os : Os) (started : os.Started) (H : Type) (enc : TypeId × Value → H) (F : Stop.Interp) :
    ReturnsInHanded {} Tryd.checked os 3 .any ((OpenSpec.ofChange Rows.sortStaysSpec).preRow enc Tryd.prog Tryd.f3 Rows.sortStaysRow.domain false Rows.sortStaysRow.laid) (((OpenSpec.ofChange Rows.sortStaysSpec).at F).post enc Tryd.prog Tryd.f3 false true false false) := by
  refine returnsInHanded_of_row (C := Tryd.checked) (s := OpenSpec.ofChange Rows.sortStaysSpec) own started (by kernel_rfl) Tryd.func3
    (witness_row_atRef (enc := enc) (C := Tryd.checked) false (laidWorld os) #[.slice none 0 0] rfl (by kernel_rfl) (by kernel_rfl) (by kernel_rfl) (witness_row os enc)) ?_
  intro W base args ds gs before hval hW _ _ hsz hL hsh _
  exact contract H enc W base args ds gs before hval hW hsz hL hsh

theorem and2 {a b : Bool} (h : a = true) (h' : b = true) : (a && b) = true := by rw [h, h']; rfl
set_option maxHeartbeats 8000000 in
/-- the row's closed facts, each apart -/
theorem closed : joinedFacts Tryd.pinned.checked.prog 3 Tryd.f3 (OpenSpec.ofChange Rows.sortStaysSpec).bare Rows.sortStaysRow = true := by
  unfold joinedFacts
  refine and2 (and2 (and2 (and2 (and2 (and2 (and2 (and2 (and2 (and2 (and2 (and2 (and2 (and2 (and2 (and2 (and2 (and2 (and2 (and2 (and2 (and2 (and2 (and2 (and2 (and2 (and2 (and2 (and2 (and2 (and2 ?_ ?_) ?_) ?_) ?_) ?_) ?_) ?_) ?_) ?_) ?_) ?_) ?_) ?_) ?_) ?_) ?_) ?_) ?_) ?_) ?_) ?_) ?_) ?_) ?_) ?_) ?_) ?_) ?_) ?_) ?_) ?_
  all_goals (as_aux_lemma => kernel_rfl)
set_option maxHeartbeats 8000000 in
theorem said : Rows.SortStaysSaid :=
  OpenClaim.holds_of_cond 3 Tryd.f3 rfl rfl rfl rfl rfl rfl rfl ⟨rfl, rfl, rfl, rfl, rfl⟩ rfl rfl rfl rfl rfl (by as_aux_lemma => kernel_rfl) Tryd.func3 closed
    (of_decide_eq_true (by as_aux_lemma => kernel_rfl)) (by unfold Func.isWrapper; first | (rw [if_pos (by decide +kernel)]; kernel_rfl) | (rw [if_neg (by decide +kernel)]; exact ⟨rfl, rfl⟩))
    (fun os started H enc _ F => by rw [OpenClaim.pre_eq_preRow]; exact lifted os started H enc F)

/-- No parameter wants a stand-in; the program's own looks are off: what the card asks. -/
theorem plain (f : FuncId) (fn : Func) (hf : Tryd.pinned.checked.prog.funcNamed "pleacher/pleacherkeep.SortStays" = some f) (hfn : Tryd.pinned.checked.prog.funcs[f]? = some fn) :
    false = Tryd.pinned.checked.prog.looks [] ∧ ∀ (j : Nat) t, fn.params[j]? = some t → Tryd.pinned.checked.prog.wantsStandIn t = false := by
  obtain rfl : f = 3 := Option.some.inj ((show Tryd.prog.funcNamed "pleacher/pleacherkeep.SortStays" = some 3 by kernel_rfl).symm.trans hf) |>.symm
  obtain rfl : fn = Tryd.f3 := (Option.some.inj (Tryd.func3.symm.trans hfn)).symm
  refine ⟨by kernel_rfl, fun j t ht => ?_⟩
  rw [Tryd.params3] at ht
  obtain rfl : t = 22 := by simpa using Array.mem_of_getElem? ht
  exact (show Tryd.prog.wantsStandIn 22 = false by kernel_rfl)
end Go.Proofs.YtdedenggbbppeaaDoor.sortStays
namespace Go.Proofs.YtdedenggbbppeaaDoor
set_option maxHeartbeats 8000000 in
/-- SortStays holds: the card. -/
theorem sortStays_card : Rows.SortStaysCardSaid :=
  Claim7.holds_tied_plain_at .later [] _ _ _ _ sortStays.said (fun _ h => by cases h) (by as_aux_lemma => kernel_rfl) (fun _ h => by cases h) sortStays_row_tie rfl ⟨rfl, rfl⟩ (by as_aux_lemma => kernel_rfl) rfl sortStays.plain (by as_aux_lemma => kernel_rfl)
#print axioms sortStays_card
end Go.Proofs.YtdedenggbbppeaaDoor
