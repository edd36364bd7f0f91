/-
  CONTRACTS of axes.Reach, of stair.check and of stair.Walk.
-/
import Derived.Test.YtnfljohddpadhaaDoorStAlongs
import Derived.Test.YtnfljohddpadhaaDoorStMeet
import Derived.Test.YtnfljohddpadhaaDoorNdOpen
import Derived.Deep.QuietTactic
import Derived.BigQuiet
import Derived.WalkLawsBesides
import Derived.Outline
import Derived.Deep.RegionHeld3
set_option linter.unusedVariables false
namespace Go.Proofs.YtnfljohddpadhaaDoor
set_option maxRecDepth 100000
open Go.RowKit Go.WideShapes

theorem wk_of {w : World} {v : Value} {N : Nat} {E : Nat → Nd} (h : NdsIs w v N E) (hN : N ≤ 100000) (h0 : 0 < w.heap.size) : ∃ la lb lo lcap, v = .slice la N lcap ∧ Wk w la lb lo N lcap E ∧ lb < w.heap.size := by
  obtain ⟨a, cap, rfl, h1, h2, h3⟩ := h
  by_cases hn : 0 < N
  · obtain ⟨b, off, rfl, h4, h5⟩ := h3 hn
    exact ⟨_, b, off, cap, rfl, ⟨fun _ => rfl, hN, h1, h2, fun _ => h4, h5⟩, h4⟩
  · exact ⟨a, 0, 0, cap, rfl, ⟨fun h => absurd h hn, hN, h1, h2, fun _ => h0, fun i hi => by omega⟩, h0⟩
/-- context nodes, as they come in -/
def CtxIs (w : World) (v : Value) (Z : List Nat) : Prop := (Z = [] ∧ v = .slice none 0 0) ∨ ∃ kb ko cap, v = .slice (some ⟨kb, ko, none⟩) Z.length cap ∧ 0 < Z.length ∧ kb < w.heap.size ∧ ∀ j (hj : j < Z.length), w.cell? ⟨kb, ko + j, none⟩ = some (.int .i64 (Z[j] : Int))
theorem CtxIs.below {w w' : World} {v : Value} {Z : List Nat} (h : CtxIs w v Z) (hb : Below w.heap.size w w') : CtxIs w' v Z := by
  rcases h with h | ⟨kb, ko, cap, h1, h2, h3, h4⟩
  · exact .inl h
  · exact .inr ⟨kb, ko, cap, h1, h2, Nat.lt_of_lt_of_le h3 hb.size, fun j hj => (hb.cell (p := ⟨kb, ko + j, none⟩) h3).trans (h4 j hj)⟩
theorem order_is (v : Value) (Z : List Nat) (w : World) (h : CtxIs w v Z) (hn : Z.length * 8 ≤ 140737488355328) (h0 : 0 < w.heap.size) :
    Calls Tryd.prog 15 #[v] w fun e w' => ∃ ca cb K ccap C, e = .returned (.slice ca K ccap) ∧ K ≤ ccap ∧ ccap ≤ maxLen ∧ CxAt w' ca cb 0 K C ∧ cb < w'.heap.size ∧ (∀ j k, j < k → k < K → C j ≤ C k) ∧ (∀ x : Nat, (∃ j, j < K ∧ C j = x) ↔ x ∈ Z) ∧ Below w.heap.size w w' := by
  rcases h with ⟨rfl, rfl⟩ | ⟨kb, ko, cap, rfl, h2, h3, h4⟩
  · refine (inOrder_none w).mono ?_
    rintro e w' ⟨rfl, hb⟩
    exact ⟨none, 0, 0, 0, fun _ => 0, rfl, Nat.le_refl _, by decide, ⟨fun h => absurd h (by decide), fun j hj => by omega⟩, Nat.lt_of_lt_of_le h0 hb.size, fun j k _ h => by omega, fun x => ⟨fun ⟨j, hj, _⟩ => by omega, fun h => by cases h⟩, hb⟩
  · refine (inOrder_some kb ko Z.length cap (Z.map fun i : Nat => (i : Int)) w (by simp) h2 hn (fun j hj => by rw [h4 j (by simpa using hj)]; simp)).mono ?_
    rintro e w' ⟨g, cap', rfl, k1, k2, k3, k4, k5, k6⟩
    have hnn : ∀ x ∈ ordL (Z.map fun i : Nat => (i : Int)), ∃ i ∈ Z, x = (i : Int) := fun x hx => by
      obtain ⟨i, hi, e⟩ := List.mem_map.1 ((ordL_mem _ x).1 hx)
      exact ⟨i, hi, e.symm⟩
    have hasc := ordL_asc (Z.map fun i : Nat => (i : Int))
    have hmem := ordL_mem (Z.map fun i : Nat => (i : Int))
    generalize ordL (Z.map fun i : Nat => (i : Int)) = O at *
    have hC : ∀ j (hj : j < O.length), ((O.getD j 0).toNat : Int) = O[j] := fun j hj => by
      obtain ⟨i, _, e⟩ := hnn O[j] (List.getElem_mem hj)
      simp [hj, e]
    refine ⟨_, g, O.length, cap', fun j => (O.getD j 0).toNat, rfl, k3, k4, ⟨fun _ => ⟨rfl, k2⟩, fun j hj => ?_⟩, k2, fun j k hjk hk => ?_, fun x => ?_, k6⟩
    · rw [Nat.zero_add, k5 j hj, hC j hj]
    · have h := List.pairwise_iff_getElem.1 hasc j k (by omega) hk hjk
      have e1 := hC j (by omega)
      have e2 := hC k hk
      show (O.getD j 0).toNat ≤ (O.getD k 0).toNat
      omega
    · constructor
      · rintro ⟨j, hj, e⟩
        obtain ⟨i, hi, e2⟩ := hnn O[j] (List.getElem_mem hj)
        have e1 := hC j hj
        have e' : (O.getD j 0).toNat = x := e
        have : i = x := by omega
        exact this ▸ hi
      · intro hx
        have := (hmem (x : Int)).2 (List.mem_map.2 ⟨x, hx, rfl⟩)
        obtain ⟨j, hj, e⟩ := List.mem_iff_getElem.1 this
        have e1 := hC j hj
        exact ⟨j, hj, by show (O.getD j 0).toNat = x; omega⟩
set_option maxHeartbeats 3200000 in
theorem reach_is (v kv : Value) (N : Nat) (E : Nat → Nd) (Z : List Nat) (axis tk : Int) (tn : ByteArray) (w : World) (t : Tr E N) (hN : N ≤ 100000) (hv : NdsIs w v N E) (hk : CtxIs w kv Z) (hZ : ∀ x ∈ Z, x < N) (hn : Z.length * 8 ≤ 140737488355328) (hfn : ∀ i, i < N → (E i).name.size ≤ maxLen) (htn : tn.size ≤ maxLen) (a1 : 1 ≤ axis) (a2 : axis ≤ 12) (h1 : 1 ≤ tk) (h5 : tk ≤ 5) :
    Calls Tryd.prog 10 #[v, kv, .int .i64 axis, .agg #[.int .i64 tk, .string tn]] w fun e w' => ∃ v L, e = .returned v ∧ w'.ownsRow w.heap.size 3 1 v L.length (nCells L) ∧ Rise L ∧ (∀ i, i ∈ L ↔ ((i < N ∧ ∃ c ∈ Z, onA E c axis i) ∧ tmB (E i) axis tk tn = true)) ∧ Below w.heap.size w w' := by
  obtain ⟨W1, hW1⟩ : ∃ W, W = w.alloc (.cells #[.int .i64 tk, .string tn] 25) := ⟨_, rfl⟩
  have b1 : Below w.heap.size w W1 := by rw [hW1]; exact (Below.refl _ _).alloc (Nat.le_refl _) _
  have HX1 : Hid (W1.heap[w.heap.size]? = some (.cells #[.int .i64 tk, .string tn] 25)) := by rw [hW1]; exact heap_alloc_new _ _
  have hz1 : w.heap.size < W1.heap.size := (Array.getElem?_eq_some_iff.1 HX1.out).1
  obtain ⟨la, lb, lo, lcap, rfl, hw1, hlb1⟩ := wk_of (hv.below b1) hN (by omega)
  have HW1 := hidS hw1
  have HB1 := hidS b1
  have CI := hidS (order_is kv Z W1 (hk.below b1) hn (by omega))
  have HT := hidS t
  have HZ := hidS hZ
  have HFN := hidS hfn
  have hkf : ∃ a m c, kv = .slice a m c := by
    rcases hk with ⟨_, e⟩ | ⟨kb, ko, cap, e, _⟩
    · exact ⟨_, _, _, e⟩
    · exact ⟨_, _, _, e⟩
  obtain ⟨ka, km, kc, rfl⟩ := hkf
  have hmm := @run_makeMap Tryd.prog
  clear hv hk hw1 b1 t hZ hfn
  go_enter Tryd.func10, Tryd.ntmps10
  go_upto_region 1 with fail
  rw [← hW1]
  clear hW1
  go_upto_region 2 with (go_at_call 15; refine CI.out.mono ?_; rintro e w1 ⟨ca, cb, K, ccap, C, rfl, k1, k2, k3, k4, k5, k6, k7⟩; have K2 := hidS k2; have K3 := hidS k3; have K5 := hidS k5; have K6 := hidS k6; have K7 := hidS k7; clear CI k2 k3 k5 k6 k7)
  obtain ⟨w3, hw3⟩ : ∃ W, W = (w1.alloc (.map #[] 0)).alloc (.cells #[.slice la N lcap, .slice ca K ccap, .map (some w1.heap.size)] 39) := ⟨_, rfl⟩
  rw [← hw3]
  have hz3 : w3.heap.size = w1.heap.size + 2 := by rw [hw3]; simp
  have b3 : Below w1.heap.size w1 w3 := by rw [hw3]; exact ((Below.refl _ _).alloc (Nat.le_refl _) _).alloc (by simp) _
  have hx3 : BoxAt w3 (w1.heap.size + 1) la N lcap ca K ccap w1.heap.size := by
    rw [hw3]
    have h := heap_alloc_new (w1.alloc (.map #[] 0)) (.cells #[.slice la N lcap, .slice ca K ccap, .map (some w1.heap.size)] 39)
    unfold BoxAt
    simpa using h
  have hs3 : Seen w3 w1.heap.size (fun _ => False) := by
    rw [hw3]
    refine IMap.alloc ?_ _
    have h := IMap.made w1
    have e : setV (fun _ => False) = (fun _ => none) := by
      funext x
      unfold setV
      rw [if_neg]
      rintro ⟨_, _, h⟩
      exact h
    rw [e]
    exact h
  clear hw3
  have hzz := K7.out.size
  have hCN : ∀ j, j < K → C j < N := fun j hj => HZ.out _ ((K6.out _).1 ⟨j, hj, rfl⟩)
  have hw3' : Wk w3 la lb lo N lcap E := (HW1.out.below K7.out).below b3
  have CA := hidS (along_is la lb lo N lcap E ca K ccap w1.heap.size axis cb 0 C w3 HT.out k1 K2.out hw3' (by omega) (K3.out.keep (Kept.of_below (X := fun _ => False) b3) (fun h => h)) (by omega) hCN K5.out hs3 (by omega) (by omega) a1 a2)
  have HX3 := hidS hx3
  have HW3 := hidS hw3'
  have HB3 : Hid (Below W1.heap.size W1 w3) := K7.out.trans (b3.mono hzz)
  obtain ⟨x0, x1, x2⟩ := hx3.cells
  have HZ3 := hidS hz3
  clear hx3 hs3 hw3' b3 hCN hz3
  have CM : Hid (∀ W, Wk W la lb lo N lcap E → Seen W w1.heap.size (onJ E N K C axis) → Calls Tryd.prog 17 #[.agg #[.slice la N lcap, .slice ca K ccap, .map (some w1.heap.size)], .int .i64 axis, .agg #[.int .i64 tk, .string tn]] W fun e w' => ∃ v L, e = .returned v ∧ w'.ownsRow W.heap.size 3 1 v L.length (nCells L) ∧ Rise L ∧ (∀ i, i ∈ L ↔ (onJ E N K C axis i ∧ tmB (E i) axis tk tn = true)) ∧ Below W.heap.size W w') := fun W hW hS => meeting_is la lb lo N lcap E ca K ccap w1.heap.size axis tk tn (onJ E N K C axis) W hW hS (fun i hi => hi.1) HFN.out htn h1 h5
  go_upto_region 3 with (go_at_call 16; refine CA.out.mono ?_; rintro e w4 ⟨rfl, hs4, hk4⟩; have HS4 := hidS hs4; have HK4 := hidS hk4; clear hs4 hk4 CA)
  have hlw : lb ≠ w1.heap.size := by omega
  obtain ⟨y0, y1, y2⟩ := (HX3.out.keep HK4.out (by omega)).cells
  have hT4 : w4.heap[w.heap.size]? = some (.cells #[.int .i64 tk, .string tn] 25) := (HK4.out.block w.heap.size (by have := HZ3.out; omega) (by omega)).trans ((HB3.out.block w.heap.size hz1).trans HX1.out)
  have t0 : w4.cell? ⟨w.heap.size, 0, none⟩ = some (.int .i64 tk) := by rw [Lib.cell_of_heap hT4]; rfl
  have t1 : w4.cell? ⟨w.heap.size, 1, none⟩ = some (.string tn) := by rw [Lib.cell_of_heap hT4]; rfl
  have CM4 := hidS (CM.out w4 (HW3.out.keep HK4.out hlw) HS4.out)
  have HF : Hid (∀ i, onJ E N K C axis i ↔ (i < N ∧ ∃ c ∈ Z, onA E c axis i)) := fun i => ⟨fun ⟨h, j, j1, k⟩ => ⟨h, C j, (K6.out _).1 ⟨j, j1, rfl⟩, k⟩, fun ⟨h, c, hc, k⟩ => ⟨h, by obtain ⟨j, j1, e⟩ := (K6.out c).2 hc; exact ⟨j, j1, by rw [e]; exact k⟩⟩⟩
  have hz4 := HK4.out.size
  have HB4 : Hid (Below w.heap.size w w4) := HB1.out.trans (HB3.out.mono (by omega)) |>.trans (HK4.out.below (by have := HZ3.out; omega) (fun c e => by omega))
  clear hT4 CM
  go_wp2_with (go_at_call 17; refine CM4.out.mono ?_; rintro e w5 ⟨v5, L, rfl, o5, r5, m5, b5⟩; have O5 := hidS o5; have R5 := hidS r5; have M5 := hidS m5; have B5 := hidS b5; clear o5 r5 m5 b5 CM4)
  go_ret
  exact ⟨_, L, rfl, own_base O5.out (by have := HB4.out.size; omega), R5.out, fun i => by rw [M5.out i, HF.out i], HB4.out.trans (B5.out.mono HB4.out.size)⟩
end Go.Proofs.YtnfljohddpadhaaDoor
