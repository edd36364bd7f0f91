/-
  COLUMNS OF PLANS: blocks, lists that lie far away, places of names, columns of a relation without rows.
-/
import Derived.Test.YtkcejelmohameaaGreatDoorRlCrossI
import Derived.Test.YtkcejelmohameaaGreatDoorRlCMap
import Derived.Test.YtkcejelmohameaaGreatDoorRlCMap
import Derived.Test.YtkcejelmohameaaGreatDoorStRng
import Derived.Deep.QuietTactic
import Derived.BigQuiet
import Derived.Deep.RegionHeld3
set_option linter.unusedVariables false
namespace Go.Proofs.YtkcejelmohameaaGreatDoor
set_option maxRecDepth 100000
open Go.RowKit Go.WideShapes

theorem hidK {p : Prop} (h : p) : Hid p := h
theorem kOld {w : World} {o x : Obj} {b : Nat} (h : w.heap[b]? = some x) : (w.alloc o).heap[b]? = some x := (Below.heap_alloc w o b (Array.getElem?_eq_some_iff.1 h).1).trans h
theorem kNew {w : World} {o : Obj} {g : Nat} (hg : w.heap.size = g) : (w.alloc o).heap[g]? = some o := by subst hg; exact heap_alloc_new w o
theorem kOth {w : World} {b j c : Nat} {v : Value} {x : Obj} (h : w.heap[c]? = some x) (hn : c ≠ b) : (w.setCell ⟨b, j, none⟩ v).heap[c]? = some x := (Below.heap_setCell _ _ _ _ hn).trans h
theorem kSame {w : World} {b : Nat} {cs : Array Value} {T : TypeId} (h : w.heap[b]? = some (.cells cs T)) (j : Nat) (v : Value) : (w.setCell ⟨b, j, none⟩ v).heap[b]? = some (.cells (cs.setIfInBounds j v) T) := by
  simp [World.setCell, Array.getElem?_modify, h]
theorem kCell {w : World} {b j : Nat} {cs : Array Value} {T : TypeId} (h : w.heap[b]? = some (.cells cs T)) (hj : j < cs.size) : w.cell? ⟨b, j, none⟩ = some cs[j] ∧ w.frozen? ⟨b, j, none⟩ = false := by
  constructor
  · rw [Lib.cell_of_heap h]; simp [hj]
  · simp [World.frozen?, h]
theorem kLt {w : World} {b : Nat} {x : Obj} (h : w.heap[b]? = some x) : b < w.heap.size := (Array.getElem?_eq_some_iff.1 h).1
theorem k2 {w : World} {b : Nat} {x y : Value} {T : TypeId} (h : w.heap[b]? = some (.cells #[x, y] T)) : w.cell? ⟨b, 0, none⟩ = some x ∧ w.cell? ⟨b, 1, none⟩ = some y ∧ w.frozen? ⟨b, 0, none⟩ = false ∧ w.frozen? ⟨b, 1, none⟩ = false ∧ b < w.heap.size :=
  ⟨(kCell h (j := 0) (by simp)).1, (kCell h (j := 1) (by simp)).1, (kCell h (j := 0) (by simp)).2, (kCell h (j := 1) (by simp)).2, kLt h⟩
/-- a list that lies between two places: it is there in all worlds that keep these blocks -/
def Far (B : Nat) (w : World) (c : Value) (n : Nat) (C : Nat → ByteArray) : Prop := ∀ W, w.heap.size ≤ W.heap.size → (∀ b, B ≤ b → b < w.heap.size → W.heap[b]? = w.heap[b]?) → StrsIs W c n C
theorem Far.is {B : Nat} {w : World} {c : Value} {n : Nat} {C : Nat → ByteArray} (h : Far B w c n C) : StrsIs w c n C := h w (Nat.le_refl _) fun _ _ _ => rfl
theorem Far.keep {B : Nat} {w w' : World} {c : Value} {n : Nat} {C : Nat → ByteArray} (h : Far B w c n C) (hs : w.heap.size ≤ w'.heap.size) (hb : ∀ b, B ≤ b → b < w.heap.size → w'.heap[b]? = w.heap[b]?) : Far B w' c n C :=
  fun W h1 h2 => h W (Nat.le_trans hs h1) fun b b1 b2 => (h2 b b1 (Nat.lt_of_lt_of_le b2 hs)).trans (hb b b1 b2)
theorem Far.below {B : Nat} {w w' : World} {c : Value} {n : Nat} {C : Nat → ByteArray} (h : Far B w c n C) (hb : Below w.heap.size w w') : Far B w' c n C := h.keep hb.size fun b _ h2 => hb.block b h2
theorem Far.low {B B' : Nat} {w : World} {c : Value} {n : Nat} {C : Nat → ByteArray} (h : Far B w c n C) (hB : B' ≤ B) : Far B' w c n C := fun W h1 h2 => h W h1 fun b b1 b2 => h2 b (by omega) b2
theorem Far.setCell {B : Nat} {w : World} {c : Value} {n : Nat} {C : Nat → ByteArray} (h : Far B w c n C) {a : Addr} (ha : a.block < B) (u : Value) : Far B (w.setCell a u) c n C := h.keep (by simp) fun b b1 b2 => Below.heap_setCell _ _ _ _ (by omega)
theorem Far.from {B : Nat} {w : World} {c : Value} {n : Nat} {C : Nat → ByteArray} (h : StrsFrom w B c n C) : Far B w c n C := fun W h1 h2 => (h.keep h1 h2).is
theorem Far.fresh {w w' : World} {c q : Value} {n m : Nat} {C : Nat → ByteArray} {R : Nat → Row} (h : FreshRel w w' c q n m C R) : Far w.heap.size w' c n C := fun W h1 h2 => (h W h1 h2).1
theorem Far.nil (B : Nat) (w : World) (C : Nat → ByteArray) : Far B w (.slice none 0 0) 0 C := fun W _ _ => nil_strs W C
/-- a list of no rows -/
def Row0 (q : Value) : Prop := ∃ a c, q = .slice a 0 c ∧ c ≤ maxLen ∧ (a = none → c = 0)
def rNo : Nat → Row := fun _ => ⟨0, fun _ => ⟨0, 0, ⟨#[]⟩⟩⟩
theorem Row0.is {q : Value} (h : Row0 q) (w : World) (R : Nat → Row) : RowsIs w q 0 R := by
  obtain ⟨a, c, rfl, h1, h2⟩ := h
  exact ⟨a, c, rfl, Nat.zero_le _, h1, h2, fun h => absurd h (Nat.lt_irrefl 0)⟩
theorem Row0.nil : Row0 (.slice none 0 0) := ⟨none, 0, rfl, Nat.zero_le _, fun _ => rfl⟩
theorem row0_of {w : World} {q : Value} {R : Nat → Row} (h : RowsIs w q 0 R) : Row0 q := by
  obtain ⟨a, c, h1, _, h3, h4, _⟩ := h
  exact ⟨a, c, h1, h3, h4⟩
theorem rows0_fine (R : Nat → Row) : RowsFine 0 R := ⟨by omega, fun i hi => absurd hi (Nat.not_lt_zero i)⟩
theorem relF0 (C : Nat → ByteArray) (n : Nat) (R : Nat → Row) : relF C n R 0 = colsF C n := by
  unfold relF madeF
  by_cases h : colsF C n = 0
  · rw [if_pos h, h]; rfl
  · rw [if_neg h, if_neg h]
theorem made0 (C : Nat → ByteArray) (n : Nat) : madeF C n 0 = colsF C n := by
  unfold madeF
  by_cases h : colsF C n = 0
  · rw [if_pos h, h]; rfl
  · rw [if_neg h]
/-- what tells a relation without rows: its columns, or what is refused -/
def OutT (F : Int) (T : Txts) (w : World) (e : Ending) (w' : World) : Prop :=
  ∃ a cap qa qc, e = .returned (.tuple #[.agg #[.slice a (okN F T.len) cap, .slice qa 0 qc], .int .i64 F]) ∧ Far w.heap.size w' (.slice a (okN F T.len) cap) (okN F T.len) T.at_ ∧ Row0 (.slice qa 0 qc) ∧ Below w.heap.size w w'
theorem OutT.bad {F : Int} {T : Txts} {w w' : World} (hF : ¬ F = 0) (hb : Below w.heap.size w w') : OutT F T w (.returned (.tuple #[.agg #[.slice none 0 0, .slice none 0 0], .int .i64 F])) w' := by
  refine ⟨none, 0, none, 0, by unfold okN; rw [if_neg hF], ?_, Row0.nil, hb⟩
  unfold okN; rw [if_neg hF]
  exact Far.nil _ _ _
theorem make_nums (k : Nat) (hk : k ≤ 4000000) : ∃ Z : Array Value, Z.size = k ∧ ∀ W : World, (Instr.makeSlice 34 (.int .i64 (k : Int)) (.int .i64 (k : Int))).run Tryz.prog W = .ok (.slice (some ⟨W.heap.size, 0, none⟩) k k) (W.alloc (.cells Z 3)) := by
  obtain ⟨i0, hi0, hz0, hz1, hz2⟩ := info_parts infoInt
  refine ⟨madeCells (Value.cells (.int .i64 0)) (k * i0.size), ?_, fun W => ?_⟩
  · rw [size_madeCells, hz1, Nat.mul_one]
  · have h := run_make (P := Tryz.prog) W 34 3 i0 _ Tryz.underlying34 hi0 hz0 .i64 .i64 k k (by omega) (Int.le_refl _) (by rw [hz2]; omega) (by omega)
    simp only [Int.toNat_natCast] at h
    exact h
theorem found_iff {C : Nat → ByteArray} {n k : Nat} {O : Nat → ByteArray} : foundB C n O k = true ↔ ∀ i, i < k → 0 ≤ colI C n (O i) := by simp [foundB]
set_option maxHeartbeats 1600000 in
/-- places of names -/
theorem placesAny_is (v kv : Value) (n k : Nat) (C O : Nat → ByteArray) (w : World) (hv : StrsIs w v n C) (hk : StrsIs w kv k O) (hk4 : k ≤ 4000000) :
    Calls Tryz.prog 11 #[v, kv] w fun e w' => (∃ u, e = .returned (.tuple #[u, .int .i64 (if foundB C n O k = true then 0 else 9)])) ∧ Below w.heap.size w w' := by
  have CX : Hid (∀ W s, Below w.heap.size w W → Calls Tryz.prog 71 #[v, .string s] W fun e w' => e = .returned (.int .i64 (colI C n s)) ∧ w' = W) := fun W s hW => index_is v n C s W (hv.below hW)
  obtain ⟨Z, hZ, hmk⟩ := make_nums k hk4
  obtain ⟨ka, kcap, rfl, k1, k2, _, k3⟩ := hk
  have K3 := hidK k3
  unfold maxLen at k2
  clear hv k3
  go_enter Tryz.func11, Tryz.ntmps11
  go_upto_region 2 with fail
  obtain ⟨W1, hW1⟩ : ∃ W, W = w.alloc (.cells Z 3) := ⟨_, rfl⟩
  have HG1 : Hid (W1.heap[w.heap.size]? = some (.cells Z 3)) := by rw [hW1]; exact kNew rfl
  have HB1 : Hid (Below w.heap.size w W1) := by rw [hW1]; exact (Below.refl _ _).alloc (Nat.le_refl _) _
  rw [← hW1]
  clear hW1 hmk
  go_wp2_with fail
  go_loopw [14] (fun i wr => ∃ (j : Nat) (Y : Array Value), j ≤ k ∧ i = .int .i64 (j : Int) ∧ (∀ t, t < j → 0 ≤ colI C n (O t)) ∧ Y.size = k ∧ wr.heap[w.heap.size]? = some (.cells Y 3) ∧ Below w.heap.size w wr) (fun i _ => k - (intOf i).toNat)
  case atStart => exact ⟨0, Z, Nat.zero_le _, rfl, fun t ht => absurd ht (Nat.not_lt_zero t), hZ, HG1.out, HB1.out⟩
  case round =>
    obtain ⟨j, Y, hj, rfl, hall, hY, hg, hb⟩ := hrel
    have HALL := hidK hall
    have HG := hidK hg
    have HB := hidK hb
    have hgl := kLt hg
    clear hall hg hb
    by_cases hlt : j < k
    · obtain ⟨kb, ko, rfl, hkb, hat⟩ := K3.out (by omega)
      have e1 : wr.cell? ⟨kb, ko + j, none⟩ = some (.string (O j)) := (HB.out.cell (p := ⟨kb, ko + j, none⟩) hkb).trans (hat j hlt)
      obtain ⟨e2, f2⟩ := kCell HG.out (j := j) (by omega)
      have hji : (j : Int) < (k : Int) := by omega
      have CX1 := hidK (CX.out wr (O j) HB.out)
      clear hat
      by_cases hf : 0 ≤ colI C n (O j)
      · have HN : Hid (∀ t, t < j + 1 → 0 ≤ colI C n (O t)) := fun t ht => by
          by_cases e : t = j
          · rw [e]; exact hf
          · exact HALL.out t (by omega)
        generalize O j = s at *
        generalize colI C n s = ci at *
        have hci : ¬ ci < 0 := by omega
        clear hf
        go_wp2_with (go_at_call 71; refine CX1.out.mono ?_; rintro e w' ⟨rfl, hww⟩; obtain rfl := hww.symm; clear hww CX1)
        go_roundw
        case rel => exact ⟨j + 1, Y.setIfInBounds j (.int .i64 ci), by omega, by go_num, HN.out, by simp [hY], kSame HG.out j _, HB.out.setCell (Nat.le_refl _) _⟩
        case measure => simp [intOf]; omega
      · have HN : Hid (¬ foundB C n O k = true) := fun h => hf (found_iff.1 h j hlt)
        generalize O j = s at *
        generalize colI C n s = ci at *
        have hci : ci < 0 := by omega
        clear hf
        go_wp2_with (go_at_call 71; refine CX1.out.mono ?_; rintro e w' ⟨rfl, hww⟩; obtain rfl := hww.symm; clear hww CX1)
        refine bodyPost_ret (v := .tuple #[.slice none 0 0, .int .i64 9]) (by simp [results, Tryz.results11, go_sem]) rfl ⟨⟨_, by first | rfl | rw [if_neg HN.out]⟩, HB.out.setCell (Nat.le_refl _) _⟩
    · have HN : Hid (foundB C n O k = true) := found_iff.2 fun t ht => HALL.out t (by omega)
      go_wp2
      refine bodyPost_ret (v := .tuple #[.slice (some ⟨w.heap.size, 0, none⟩) k k, .int .i64 0]) (by simp [results, Tryz.results11, go_sem]) rfl ⟨⟨_, by first | rfl | rw [if_pos HN.out]⟩, HB.out⟩
set_option maxHeartbeats 1600000 in
/-- columns of a relation without rows -/
theorem columnsAny_is (v : Value) (n : Nat) (C : Nat → ByteArray) (w : World) (hv : StrsIs w v n C) (hf : StrsFine n C) (hT : ∀ W, Below w.heap.size w W → Tabs W) :
    Calls Tryz.prog 67 #[v] w fun e w' => OutT (colsF C n) ⟨n, C⟩ w e w' := by
  have CC1 : Hid (∀ W bb, Below w.heap.size w W → W.cell? ⟨bb, 0, none⟩ = some v → bb < W.heap.size → Calls Tryz.prog 98 #[.slice (some ⟨bb, 0, none⟩) 1 1] W fun e w' => ∃ a cap, e = .returned (.slice a n cap) ∧ StrsFrom w' W.heap.size (.slice a n cap) n C ∧ Below W.heap.size W w') := fun W bb hW hc hbb => by
    refine Calls.mono (concatS_one bb 0 1 v n C W (Nat.le_refl _) (by unfold maxLen; omega) hbb hc (hv.below hW) hf.1) ?_
    rintro e w' ⟨u, rfl, h1, ⟨a, cap, rfl⟩, h2⟩
    exact ⟨a, cap, rfl, h1, h2⟩
  have CK : Hid (∀ W a cap, Below w.heap.size w W → StrsIs W (.slice a n cap) n C → Calls Tryz.prog 93 #[.agg #[.slice a n cap, .slice none 0 0]] W fun e w' => e = .returned (.int .i64 (colsF C n)) ∧ Below W.heap.size W w') := fun W a cap hW hs => by
    have h := relCheck_is (.slice a n cap) (.slice none 0 0) n 0 C rNo W hs (Row0.nil.is W rNo) hf (rows0_fine _) (hT W hW)
    rw [relF0] at h
    exact h
  have hvs := hv
  obtain ⟨va, vc, rfl, _⟩ := hvs
  clear hT
  by_cases h0 : colsF C n = 0
  · rw [h0]
    rw [h0] at CK
    clear h0
    go_enter Tryz.func67, Tryz.ntmps67
    go_wp2_with (first
      | (go_at_call 98; refine (CC1.out _ (w.heap.size + 1) ?_ ?_ ?_).mono ?_; (· (focus (repeat (first | exact Below.refl _ _ | exact Hid.out (by assumption) | refine Below.setCell ?_ (by first | omega | (simp <;> omega)) _ | refine Below.alloc ?_ (by first | omega | (simp <;> omega)) _)))); (· simp [go_sem]); (· simp); rintro e w1 ⟨a1, k1, rfl, hs1, hb1⟩; have HS1 : Hid (StrsFrom w1 (w.heap.size + 2) (.slice a1 n k1) n C) := (by have h := hs1; simp at h; exact h); have HB1 : Hid (Below w.heap.size w w1) := Below.trans (by (focus (repeat (first | exact Below.refl _ _ | exact Hid.out (by assumption) | refine Below.setCell ?_ (by first | omega | (simp <;> omega)) _ | refine Below.alloc ?_ (by first | omega | (simp <;> omega)) _)))) (hb1.mono (by first | omega | (simp <;> omega))); have HR1 : Hid (w1.heap[w.heap.size]? = some (.cells #[.slice none 0 0, .slice none 0 0] 40)) := (hb1.block _ (by first | omega | (simp <;> omega))).trans (kOld (kNew rfl)); have hz1 : w.heap.size + 2 ≤ w1.heap.size := (by have := hb1.size; simp at this; omega); clear hb1 hs1)
      | (go_at_call 93; refine (CK.out _ _ _ ?_ ?_).mono ?_; (· (focus (repeat (first | exact Below.refl _ _ | exact Hid.out (by assumption) | refine Below.setCell ?_ (by first | omega | (simp <;> omega)) _ | refine Below.alloc ?_ (by first | omega | (simp <;> omega)) _)))); (· exact HS1.out.is.below ((Below.refl _ _).alloc (Nat.le_refl _) _)); rintro e w2 ⟨rfl, hb2⟩; have HB2 : Hid (Below w.heap.size w w2) := Below.trans (by (focus (repeat (first | exact Below.refl _ _ | exact Hid.out (by assumption) | refine Below.setCell ?_ (by first | omega | (simp <;> omega)) _ | refine Below.alloc ?_ (by first | omega | (simp <;> omega)) _)))) (hb2.mono (by first | omega | (simp <;> omega))); have HR2 : Hid (w2.heap[w.heap.size]? = some (.cells #[.slice none 0 0, .slice none 0 0] 40)) := (hb2.block _ (by first | omega | (simp <;> omega))).trans (kOld HR1.out); have HM2 : Hid (w2.heap[w1.heap.size]? = some (.cells #[.slice a1 n k1, .slice none 0 0] 40)) := (hb2.block _ (by first | omega | (simp <;> omega))).trans (kNew rfl); have HS2 : Hid (StrsFrom w2 (w.heap.size + 2) (.slice a1 n k1) n C) := (HS1.out.below ((Below.refl _ _).alloc (Nat.le_refl _) _)).below hb2; obtain ⟨q0, q1, q2, q3, q4⟩ := k2 HR2.out; obtain ⟨m0, m1, _, _, m4⟩ := k2 HM2.out; clear hb2))
    refine bodyPost_ret (v := .tuple #[.agg #[.slice a1 n k1, .slice none 0 0], .int .i64 0]) (by simp [results, Tryz.results67, go_sem, q0, q1]) rfl ⟨a1, k1, none, 0, rfl, ?_, Row0.nil, ?_⟩
    · exact Far.from (((HS2.out.setCell (by simp) _).setCell (by simp) _).weaken (by omega))
    · (focus (repeat (first | exact Below.refl _ _ | exact Hid.out (by assumption) | refine Below.setCell ?_ (by first | omega | (simp <;> omega)) _ | refine Below.alloc ?_ (by first | omega | (simp <;> omega)) _)))
  · have H0 := hidK h0
    have h0b : (colsF C n == 0) = false := by simpa using h0
    generalize colsF C n = q at *
    clear h0
    go_enter Tryz.func67, Tryz.ntmps67
    go_wp2_with (first
      | (go_at_call 98; refine (CC1.out _ (w.heap.size + 1) ?_ ?_ ?_).mono ?_; (· (focus (repeat (first | exact Below.refl _ _ | exact Hid.out (by assumption) | refine Below.setCell ?_ (by first | omega | (simp <;> omega)) _ | refine Below.alloc ?_ (by first | omega | (simp <;> omega)) _)))); (· simp [go_sem]); (· simp); rintro e w1 ⟨a1, k1, rfl, hs1, hb1⟩; have HS1 : Hid (StrsFrom w1 (w.heap.size + 2) (.slice a1 n k1) n C) := (by have h := hs1; simp at h; exact h); have HB1 : Hid (Below w.heap.size w w1) := Below.trans (by (focus (repeat (first | exact Below.refl _ _ | exact Hid.out (by assumption) | refine Below.setCell ?_ (by first | omega | (simp <;> omega)) _ | refine Below.alloc ?_ (by first | omega | (simp <;> omega)) _)))) (hb1.mono (by first | omega | (simp <;> omega))); have HR1 : Hid (w1.heap[w.heap.size]? = some (.cells #[.slice none 0 0, .slice none 0 0] 40)) := (hb1.block _ (by first | omega | (simp <;> omega))).trans (kOld (kNew rfl)); have hz1 : w.heap.size + 2 ≤ w1.heap.size := (by have := hb1.size; simp at this; omega); clear hb1 hs1)
      | (go_at_call 93; refine (CK.out _ _ _ ?_ ?_).mono ?_; (· (focus (repeat (first | exact Below.refl _ _ | exact Hid.out (by assumption) | refine Below.setCell ?_ (by first | omega | (simp <;> omega)) _ | refine Below.alloc ?_ (by first | omega | (simp <;> omega)) _)))); (· exact HS1.out.is.below ((Below.refl _ _).alloc (Nat.le_refl _) _)); rintro e w2 ⟨rfl, hb2⟩; have HB2 : Hid (Below w.heap.size w w2) := Below.trans (by (focus (repeat (first | exact Below.refl _ _ | exact Hid.out (by assumption) | refine Below.setCell ?_ (by first | omega | (simp <;> omega)) _ | refine Below.alloc ?_ (by first | omega | (simp <;> omega)) _)))) (hb2.mono (by first | omega | (simp <;> omega))); have HR2 : Hid (w2.heap[w.heap.size]? = some (.cells #[.slice none 0 0, .slice none 0 0] 40)) := (hb2.block _ (by first | omega | (simp <;> omega))).trans (kOld HR1.out); have HM2 : Hid (w2.heap[w1.heap.size]? = some (.cells #[.slice a1 n k1, .slice none 0 0] 40)) := (hb2.block _ (by first | omega | (simp <;> omega))).trans (kNew rfl); have HS2 : Hid (StrsFrom w2 (w.heap.size + 2) (.slice a1 n k1) n C) := (HS1.out.below ((Below.refl _ _).alloc (Nat.le_refl _) _)).below hb2; obtain ⟨q0, q1, q2, q3, q4⟩ := k2 HR2.out; obtain ⟨m0, m1, _, _, m4⟩ := k2 HM2.out; clear hb2))
    refine bodyPost_ret (v := .tuple #[.agg #[.slice none 0 0, .slice none 0 0], .int .i64 q]) (by simp [results, Tryz.results67, go_sem, q0, q1]) rfl (OutT.bad H0.out ?_)
    (focus (repeat (first | exact Below.refl _ _ | exact Hid.out (by assumption) | refine Below.setCell ?_ (by first | omega | (simp <;> omega)) _ | refine Below.alloc ?_ (by first | omega | (simp <;> omega)) _)))
end Go.Proofs.YtkcejelmohameaaGreatDoor
