/-
  EXPRESSIONS AS VALUES; CONTRACTS: how many expressions there are (the document's howMany, partCount).
-/
import Derived.Test.YtlllgelolmkapaaDoorCfSmall
import Derived.Deep.Cut
import Derived.Deep.QuietTactic
import Derived.BigQuiet
import Derived.Deep.RegionLaw
set_option linter.unusedVariables false
namespace Go.Proofs.YtlllgelolmkapaaDoor
set_option maxRecDepth 100000
open Go.RowKit Go.WideShapes

/-- an expression as a value: what is in it lies below B -/
def Ex.V (w : World) (B : Nat) : Ex → Value → Prop
  | .no, _ => False
  | .mk k it nm a n ax tk tn m A, v => ∃ sl cap, v = .agg #[.int .i64 k, .int .i64 it.kind, .int .i64 it.n, .string it.s, .string nm, .string a, .int .i64 n, .int .i64 ax, .int .i64 tk, .string tn, .slice sl m cap] ∧ it.s.size ≤ maxLen ∧ nm.size ≤ maxLen ∧ a.size ≤ maxLen ∧ m ≤ cap ∧ cap ≤ maxLen ∧ (0 < m → ∃ b' off', sl = some ⟨b', off', none⟩ ∧ b' < B ∧ ∀ i, i < m → (A i).At w B b' (off' + i * 11))
theorem Ex.V.below {w w' : World} {B : Nat} {x : Ex} {v : Value} (h : x.V w B v) (hb : Below B w w') : x.V w' B v := by
  cases x with
  | no => exact h.elim
  | mk k it nm a n ax tk tn m A =>
    obtain ⟨sl, cap, h1, h2, h3, h4, h5, h6, h7⟩ := h
    refine ⟨sl, cap, h1, h2, h3, h4, h5, h6, fun h0 => ?_⟩
    obtain ⟨b', off', k1, k2, k3⟩ := h7 h0
    exact ⟨b', off', k1, k2, fun i hi => (k3 i hi).below hb⟩
/-- the cells of an expression, and its value -/
theorem Ex.At.val {w : World} {B : Nat} {x : Ex} {b off : Nat} (h : x.At w B b off) : b < B ∧ ∃ k it nm a n ax tk tn sl m cap, HeadAt w b off k it nm a n ax tk tn (.slice sl m cap) ∧ x.V w B (.agg #[.int .i64 k, .int .i64 it.kind, .int .i64 it.n, .string it.s, .string nm, .string a, .int .i64 n, .int .i64 ax, .int .i64 tk, .string tn, .slice sl m cap]) := by
  cases x with
  | no => exact h.elim
  | mk k it nm a n ax tk tn m A =>
    obtain ⟨h1, sl, cap, h2, h3, h4, h5⟩ := h
    exact ⟨h1, k, it, nm, a, n, ax, tk, tn, sl, m, cap, h2, sl, cap, rfl, h2.s1, h2.s2, h2.s3, h3, h4, h5⟩
/-- an expression that is put into a place of its own -/
theorem head_box (w : World) (k : Int) (it : It) (nm a : ByteArray) (n ax tk : Int) (tn : ByteArray) (v : Value) (s1 : it.s.size ≤ maxLen) (s2 : nm.size ≤ maxLen) (s3 : a.size ≤ maxLen) (T : TypeId) :
    HeadAt (w.alloc (.cells #[.int .i64 k, .int .i64 it.kind, .int .i64 it.n, .string it.s, .string nm, .string a, .int .i64 n, .int .i64 ax, .int .i64 tk, .string tn, v] T)) w.heap.size 0 k it nm a n ax tk tn v := by
  refine ⟨?_, ?_, ?_, ?_, ?_, ?_, ?_, ?_, ?_, ?_, ?_, s1, s2, s3⟩ <;> (rw [Lib.cell_of_heap (heap_alloc_new w _)]; rfl)
theorem sumTo_succ (f : Nat → Nat) (m : Nat) : sumTo f (m + 1) = sumTo f m + f m := rfl
/-- what the count of one tells -/
def CountOk (F : FuncId) (ext : Value → Array Value) (B : Nat) (q : Int → Bool) (x : Ex) : Prop :=
  ∀ (w : World) (v : Value), x.V w B v → B ≤ w.heap.size → nodesX x ≤ 4294967296 → Calls Tryd.prog F (ext v) w fun e w' => e = .returned (.int .i64 (cntX q x)) ∧ Below w.heap.size w w'
theorem nodes_part {A : Nat → Ex} {m i : Nat} (h : i < m) : nodesX (A i) ≤ sumTo (fun i => nodesX (A i)) m := by
  have := sumTo_part (fun i => nodesX (A i)) h
  have e : (fun i => nodesX (A i)) i = nodesX (A i) := rfl
  omega
set_option maxHeartbeats 3200000 in
theorem partCount_step (B : Nat) (k : Int) (it : It) (nm a : ByteArray) (n ax tk : Int) (tn : ByteArray) (m : Nat) (A : Nat → Ex) (ih : ∀ i, CountOk 10 (fun v => #[v]) B (fun _ => true) (A i)) : CountOk 10 (fun v => #[v]) B (fun _ => true) (.mk k it nm a n ax tk tn m A) := by
  intro w v hv hB hN
  obtain ⟨sl, cap, rfl, s1, s2, s3, hmc, hcm, hsl⟩ := hv
  have HSL : Hid (0 < m → ∃ b' off', sl = some ⟨b', off', none⟩ ∧ b' < B ∧ ∀ i, i < m → (A i).At w B b' (off' + i * 11)) := hsl
  have HIH : Hid (∀ i, CountOk 10 (fun v => #[v]) B (fun _ => true) (A i)) := ih
  rw [nodes_is] at hN
  have HLE : Hid (∀ j, j ≤ m → (if (fun _ => true) k = true then 1 else 0) + sumTo (fun i => cntX (fun _ => true) (A i)) j ≤ 4294967296) := fun j hj => by
    have h1 := sumTo_le (f := fun i => cntX (fun _ => true) (A i)) (g := fun i => nodesX (A i)) (fun i => cntX_le _ (A i)) j
    have h2 := sumTo_mono (fun i => nodesX (A i)) hj
    split <;> omega
  have HNP : Hid (∀ j, j < m → nodesX (A j) ≤ 4294967296) := fun j hj => by have := nodes_part (A := A) hj; omega
  have HRES : Hid (cntX (fun _ => true) (.mk k it nm a n ax tk tn m A) = (if (fun _ => true) k = true then 1 else 0) + sumTo (fun i => cntX (fun _ => true) (A i)) m) := rfl
  rw [HRES.out]
  have hmm : m ≤ 4294967296 := by have := nodes_len m A; omega
  unfold maxLen at hcm
  clear hsl ih hN HRES
  have HLE2 : Hid (∀ j, j ≤ m → 1 + sumTo (fun i => cntX (fun _ => true) (A i)) j ≤ 4294967296) := fun j hj => by have := HLE.out j hj; rw [if_pos rfl] at this; exact this
  rw [if_pos rfl]
  clear HLE
  have HLE := HLE2
  clear HLE2
  have HBOX : Hid (∀ W, Below (w.heap.size + 1) (w.alloc (.cells #[.int .i64 k, .int .i64 it.kind, .int .i64 it.n, .string it.s, .string nm, .string a, .int .i64 n, .int .i64 ax, .int .i64 tk, .string tn, .slice sl m cap] 28)) W → HeadAt W w.heap.size 0 k it nm a n ax tk tn (.slice sl m cap)) := fun W hW => (head_box w k it nm a n ax tk tn _ s1 s2 s3 _).keep (hW.block _ (by omega))
  have HB0 : Hid (Below w.heap.size w (w.alloc (.cells #[.int .i64 k, .int .i64 it.kind, .int .i64 it.n, .string it.s, .string nm, .string a, .int .i64 n, .int .i64 ax, .int .i64 tk, .string tn, .slice sl m cap] 28))) := (Below.refl _ _).alloc (Nat.le_refl _) _
  have hz0 : (w.alloc (.cells #[.int .i64 k, .int .i64 it.kind, .int .i64 it.n, .string it.s, .string nm, .string a, .int .i64 n, .int .i64 ax, .int .i64 tk, .string tn, .slice sl m cap] 28)).heap.size = w.heap.size + 1 := by simp
  go_enter Tryd.func10, Tryd.ntmps10
  go_upto_region 1 with fail
  obtain ⟨W0, hW0⟩ : ∃ W, W = w.alloc (.cells #[.int .i64 k, .int .i64 it.kind, .int .i64 it.n, .string it.s, .string nm, .string a, .int .i64 n, .int .i64 ax, .int .i64 tk, .string tn, .slice sl m cap] 28) := ⟨_, rfl⟩
  rw [← hW0] at HBOX HB0 hz0 ⊢
  clear hW0
  have HZ0 : Hid (W0.heap.size = w.heap.size + 1) := hz0
  have hlt0 : w.heap.size < W0.heap.size := by omega
  clear hz0 s1 s2 s3
  go_wp2
  go_loopw [3, 4] (fun c i wr => ∃ j : Nat, j ≤ m ∧ i = .int .i64 j ∧ c = .int .i64 ((1 + sumTo (fun i => cntX (fun _ => true) (A i)) j : Nat) : Int) ∧ Below (w.heap.size + 1) W0 wr) (fun c i _ => m - (intOf i).toNat)
  case atStart => exact ⟨0, Nat.zero_le _, rfl, rfl, Below.refl _ _⟩
  case round =>
    obtain ⟨j, hj, rfl, rfl, hbr⟩ := hrel
    have HBR : Hid (Below (w.heap.size + 1) W0 wr) := hbr
    have d10 := (HBOX.out wr hbr).c10
    have hltr : w.heap.size < wr.heap.size := by have := hbr.size; omega
    clear hbr
    by_cases hlt : j < m
    · have hji : (j : Int) < (m : Int) := by omega
      obtain ⟨b', off', rfl, hb', hA⟩ := HSL.out (by omega)
      have hB0 : B ≤ W0.heap.size := by have := HB0.out.size; omega
      have hAj : (A j).At wr B b' (off' + j * 11) := ((hA j hlt).below ((HB0.out).mono hB)).below (HBR.out.mono (by omega))
      obtain ⟨_, k1, it1, nm1, a1, n1, ax1, tk1, tn1, sl1, m1, cap1, hh, hV⟩ := hAj.val
      have CL : Hid (Calls Tryd.prog 10 #[.agg #[.int .i64 k1, .int .i64 it1.kind, .int .i64 it1.n, .string it1.s, .string nm1, .string a1, .int .i64 n1, .int .i64 ax1, .int .i64 tk1, .string tn1, .slice sl1 m1 cap1]] wr fun e w' => e = .returned (.int .i64 (cntX (fun _ => true) (A j))) ∧ Below wr.heap.size wr w') := HIH.out j wr _ hV (by omega) (HNP.out j hlt)
      have e0 := hh.c0
      have e1 := hh.c1
      have e2 := hh.c2
      have e3 := hh.c3
      have e4 := hh.c4
      have e5 := hh.c5
      have e6 := hh.c6
      have e7 := hh.c7
      have e8 := hh.c8
      have e9 := hh.c9
      have e10 := hh.c10
      have hbw : b' < wr.heap.size := by omega
      have HL1 := HLE.out (j + 1) (by omega)
      rw [sumTo_succ] at HL1
      have HSU : Hid (sumTo (fun i => cntX (fun _ => true) (A i)) (j + 1) = sumTo (fun i => cntX (fun _ => true) (A i)) j + cntX (fun _ => true) (A j)) := rfl
      clear hh hV hA hAj
      generalize cntX (fun _ => true) (A j) = c1 at *
      generalize sumTo (fun i => cntX (fun _ => true) (A i)) j = sj at *
      go_wp2_with (go_at_call 10; refine CL.out.mono ?_; rintro e w1 ⟨rfl, hb1⟩; have HB1 : Hid (Below (w.heap.size + 1) W0 w1) := HBR.out.trans (hb1.mono (by omega)); clear hb1 e0 e1 e2 e3 e4 e5 e6 e7 e8 e9 e10 CL d10)
      go_roundw
      case rel => exact ⟨j + 1, by omega, by go_num, by rw [HSU.out]; go_num, HB1.out⟩
      case measure => simp [intOf]; omega
    · have e : j = m := by omega
      subst e
      have HL1 := HLE.out j (by omega)
      go_wp2
      go_ret
      exact ⟨by first | rfl | (apply ret_int; omega), HB0.out.trans (HBR.out.mono (by omega))⟩
theorem partCount_is (B : Nat) (x : Ex) : CountOk 10 (fun v => #[v]) B (fun _ => true) x := by
  induction x with
  | no => exact fun w v h => h.elim
  | mk k it nm a n ax tk tn m A ih => exact partCount_step B k it nm a n ax tk tn m A ih
set_option maxHeartbeats 3200000 in
theorem loops_step (B : Nat) (k : Int) (it : It) (nm a : ByteArray) (n ax tk : Int) (tn : ByteArray) (m : Nat) (A : Nat → Ex) (ih : ∀ i, CountOk 9 (fun v => #[v, .int .i64 5, .int .i64 6]) B (loopB) (A i)) : CountOk 9 (fun v => #[v, .int .i64 5, .int .i64 6]) B (loopB) (.mk k it nm a n ax tk tn m A) := by
  intro w v hv hB hN
  obtain ⟨sl, cap, rfl, s1, s2, s3, hmc, hcm, hsl⟩ := hv
  have HSL : Hid (0 < m → ∃ b' off', sl = some ⟨b', off', none⟩ ∧ b' < B ∧ ∀ i, i < m → (A i).At w B b' (off' + i * 11)) := hsl
  have HIH : Hid (∀ i, CountOk 9 (fun v => #[v, .int .i64 5, .int .i64 6]) B (loopB) (A i)) := ih
  rw [nodes_is] at hN
  have HLE : Hid (∀ j, j ≤ m → (if (loopB) k = true then 1 else 0) + sumTo (fun i => cntX (loopB) (A i)) j ≤ 4294967296) := fun j hj => by
    have h1 := sumTo_le (f := fun i => cntX (loopB) (A i)) (g := fun i => nodesX (A i)) (fun i => cntX_le _ (A i)) j
    have h2 := sumTo_mono (fun i => nodesX (A i)) hj
    split <;> omega
  have HNP : Hid (∀ j, j < m → nodesX (A j) ≤ 4294967296) := fun j hj => by have := nodes_part (A := A) hj; omega
  have HRES : Hid (cntX (loopB) (.mk k it nm a n ax tk tn m A) = (if (loopB) k = true then 1 else 0) + sumTo (fun i => cntX (loopB) (A i)) m) := rfl
  rw [HRES.out]
  have hmm : m ≤ 4294967296 := by have := nodes_len m A; omega
  unfold maxLen at hcm
  clear hsl ih hN HRES
  by_cases hk : loopB k = true
  · have HLE2 : Hid (∀ j, j ≤ m → 1 + sumTo (fun i => cntX (loopB) (A i)) j ≤ 4294967296) := fun j hj => by have := HLE.out j hj; rw [if_pos hk] at this; exact this
    rw [if_pos hk]
    clear HLE
    have HLE := HLE2
    clear HLE2
    have hk' : k = 5 ∨ k = 6 := by simpa [loopB] using hk
    clear hk
    rcases hk' with rfl | rfl
    · skip
      have HBOX : Hid (∀ W, Below (w.heap.size + 1) (w.alloc (.cells #[.int .i64 5, .int .i64 it.kind, .int .i64 it.n, .string it.s, .string nm, .string a, .int .i64 n, .int .i64 ax, .int .i64 tk, .string tn, .slice sl m cap] 28)) W → HeadAt W w.heap.size 0 5 it nm a n ax tk tn (.slice sl m cap)) := fun W hW => (head_box w 5 it nm a n ax tk tn _ s1 s2 s3 _).keep (hW.block _ (by omega))
      have HB0 : Hid (Below w.heap.size w (w.alloc (.cells #[.int .i64 5, .int .i64 it.kind, .int .i64 it.n, .string it.s, .string nm, .string a, .int .i64 n, .int .i64 ax, .int .i64 tk, .string tn, .slice sl m cap] 28))) := (Below.refl _ _).alloc (Nat.le_refl _) _
      have hz0 : (w.alloc (.cells #[.int .i64 5, .int .i64 it.kind, .int .i64 it.n, .string it.s, .string nm, .string a, .int .i64 n, .int .i64 ax, .int .i64 tk, .string tn, .slice sl m cap] 28)).heap.size = w.heap.size + 1 := by simp
      go_enter Tryd.func9, Tryd.ntmps9
      go_upto_region 1 with fail
      obtain ⟨W0, hW0⟩ : ∃ W, W = w.alloc (.cells #[.int .i64 5, .int .i64 it.kind, .int .i64 it.n, .string it.s, .string nm, .string a, .int .i64 n, .int .i64 ax, .int .i64 tk, .string tn, .slice sl m cap] 28) := ⟨_, rfl⟩
      rw [← hW0] at HBOX HB0 hz0 ⊢
      clear hW0
      have HZ0 : Hid (W0.heap.size = w.heap.size + 1) := hz0
      have hlt0 : w.heap.size < W0.heap.size := by omega
      clear hz0 s1 s2 s3
      have d0 := (HBOX.out W0 (Below.refl _ _)).c0
      go_wp2
      go_loopw [7, 8] (fun c i wr => ∃ j : Nat, j ≤ m ∧ i = .int .i64 j ∧ c = .int .i64 ((1 + sumTo (fun i => cntX (loopB) (A i)) j : Nat) : Int) ∧ Below (w.heap.size + 1) W0 wr) (fun c i _ => m - (intOf i).toNat)
      case atStart => exact ⟨0, Nat.zero_le _, rfl, rfl, Below.refl _ _⟩
      case round =>
        obtain ⟨j, hj, rfl, rfl, hbr⟩ := hrel
        have HBR : Hid (Below (w.heap.size + 1) W0 wr) := hbr
        have d10 := (HBOX.out wr hbr).c10
        have hltr : w.heap.size < wr.heap.size := by have := hbr.size; omega
        clear hbr
        by_cases hlt : j < m
        · have hji : (j : Int) < (m : Int) := by omega
          obtain ⟨b', off', rfl, hb', hA⟩ := HSL.out (by omega)
          have hB0 : B ≤ W0.heap.size := by have := HB0.out.size; omega
          have hAj : (A j).At wr B b' (off' + j * 11) := ((hA j hlt).below ((HB0.out).mono hB)).below (HBR.out.mono (by omega))
          obtain ⟨_, k1, it1, nm1, a1, n1, ax1, tk1, tn1, sl1, m1, cap1, hh, hV⟩ := hAj.val
          have CL : Hid (Calls Tryd.prog 9 #[.agg #[.int .i64 k1, .int .i64 it1.kind, .int .i64 it1.n, .string it1.s, .string nm1, .string a1, .int .i64 n1, .int .i64 ax1, .int .i64 tk1, .string tn1, .slice sl1 m1 cap1], .int .i64 5, .int .i64 6] wr fun e w' => e = .returned (.int .i64 (cntX (loopB) (A j))) ∧ Below wr.heap.size wr w') := HIH.out j wr _ hV (by omega) (HNP.out j hlt)
          have e0 := hh.c0
          have e1 := hh.c1
          have e2 := hh.c2
          have e3 := hh.c3
          have e4 := hh.c4
          have e5 := hh.c5
          have e6 := hh.c6
          have e7 := hh.c7
          have e8 := hh.c8
          have e9 := hh.c9
          have e10 := hh.c10
          have hbw : b' < wr.heap.size := by omega
          have HL1 := HLE.out (j + 1) (by omega)
          rw [sumTo_succ] at HL1
          have HSU : Hid (sumTo (fun i => cntX (loopB) (A i)) (j + 1) = sumTo (fun i => cntX (loopB) (A i)) j + cntX (loopB) (A j)) := rfl
          clear hh hV hA hAj
          generalize cntX (loopB) (A j) = c1 at *
          generalize sumTo (fun i => cntX (loopB) (A i)) j = sj at *
          go_wp2_with (go_at_call 9; refine CL.out.mono ?_; rintro e w1 ⟨rfl, hb1⟩; have HB1 : Hid (Below (w.heap.size + 1) W0 w1) := HBR.out.trans (hb1.mono (by omega)); clear hb1 e0 e1 e2 e3 e4 e5 e6 e7 e8 e9 e10 CL d10)
          go_roundw
          case rel => exact ⟨j + 1, by omega, by go_num, by rw [HSU.out]; go_num, HB1.out⟩
          case measure => simp [intOf]; omega
        · have e : j = m := by omega
          subst e
          have HL1 := HLE.out j (by omega)
          go_wp2
          go_ret
          exact ⟨by first | rfl | (apply ret_int; omega), HB0.out.trans (HBR.out.mono (by omega))⟩
    · skip
      have HBOX : Hid (∀ W, Below (w.heap.size + 1) (w.alloc (.cells #[.int .i64 6, .int .i64 it.kind, .int .i64 it.n, .string it.s, .string nm, .string a, .int .i64 n, .int .i64 ax, .int .i64 tk, .string tn, .slice sl m cap] 28)) W → HeadAt W w.heap.size 0 6 it nm a n ax tk tn (.slice sl m cap)) := fun W hW => (head_box w 6 it nm a n ax tk tn _ s1 s2 s3 _).keep (hW.block _ (by omega))
      have HB0 : Hid (Below w.heap.size w (w.alloc (.cells #[.int .i64 6, .int .i64 it.kind, .int .i64 it.n, .string it.s, .string nm, .string a, .int .i64 n, .int .i64 ax, .int .i64 tk, .string tn, .slice sl m cap] 28))) := (Below.refl _ _).alloc (Nat.le_refl _) _
      have hz0 : (w.alloc (.cells #[.int .i64 6, .int .i64 it.kind, .int .i64 it.n, .string it.s, .string nm, .string a, .int .i64 n, .int .i64 ax, .int .i64 tk, .string tn, .slice sl m cap] 28)).heap.size = w.heap.size + 1 := by simp
      go_enter Tryd.func9, Tryd.ntmps9
      go_upto_region 1 with fail
      obtain ⟨W0, hW0⟩ : ∃ W, W = w.alloc (.cells #[.int .i64 6, .int .i64 it.kind, .int .i64 it.n, .string it.s, .string nm, .string a, .int .i64 n, .int .i64 ax, .int .i64 tk, .string tn, .slice sl m cap] 28) := ⟨_, rfl⟩
      rw [← hW0] at HBOX HB0 hz0 ⊢
      clear hW0
      have HZ0 : Hid (W0.heap.size = w.heap.size + 1) := hz0
      have hlt0 : w.heap.size < W0.heap.size := by omega
      clear hz0 s1 s2 s3
      have d0 := (HBOX.out W0 (Below.refl _ _)).c0
      go_wp2
      go_loopw [7, 8] (fun c i wr => ∃ j : Nat, j ≤ m ∧ i = .int .i64 j ∧ c = .int .i64 ((1 + sumTo (fun i => cntX (loopB) (A i)) j : Nat) : Int) ∧ Below (w.heap.size + 1) W0 wr) (fun c i _ => m - (intOf i).toNat)
      case atStart => exact ⟨0, Nat.zero_le _, rfl, rfl, Below.refl _ _⟩
      case round =>
        obtain ⟨j, hj, rfl, rfl, hbr⟩ := hrel
        have HBR : Hid (Below (w.heap.size + 1) W0 wr) := hbr
        have d10 := (HBOX.out wr hbr).c10
        have hltr : w.heap.size < wr.heap.size := by have := hbr.size; omega
        clear hbr
        by_cases hlt : j < m
        · have hji : (j : Int) < (m : Int) := by omega
          obtain ⟨b', off', rfl, hb', hA⟩ := HSL.out (by omega)
          have hB0 : B ≤ W0.heap.size := by have := HB0.out.size; omega
          have hAj : (A j).At wr B b' (off' + j * 11) := ((hA j hlt).below ((HB0.out).mono hB)).below (HBR.out.mono (by omega))
          obtain ⟨_, k1, it1, nm1, a1, n1, ax1, tk1, tn1, sl1, m1, cap1, hh, hV⟩ := hAj.val
          have CL : Hid (Calls Tryd.prog 9 #[.agg #[.int .i64 k1, .int .i64 it1.kind, .int .i64 it1.n, .string it1.s, .string nm1, .string a1, .int .i64 n1, .int .i64 ax1, .int .i64 tk1, .string tn1, .slice sl1 m1 cap1], .int .i64 5, .int .i64 6] wr fun e w' => e = .returned (.int .i64 (cntX (loopB) (A j))) ∧ Below wr.heap.size wr w') := HIH.out j wr _ hV (by omega) (HNP.out j hlt)
          have e0 := hh.c0
          have e1 := hh.c1
          have e2 := hh.c2
          have e3 := hh.c3
          have e4 := hh.c4
          have e5 := hh.c5
          have e6 := hh.c6
          have e7 := hh.c7
          have e8 := hh.c8
          have e9 := hh.c9
          have e10 := hh.c10
          have hbw : b' < wr.heap.size := by omega
          have HL1 := HLE.out (j + 1) (by omega)
          rw [sumTo_succ] at HL1
          have HSU : Hid (sumTo (fun i => cntX (loopB) (A i)) (j + 1) = sumTo (fun i => cntX (loopB) (A i)) j + cntX (loopB) (A j)) := rfl
          clear hh hV hA hAj
          generalize cntX (loopB) (A j) = c1 at *
          generalize sumTo (fun i => cntX (loopB) (A i)) j = sj at *
          go_wp2_with (go_at_call 9; refine CL.out.mono ?_; rintro e w1 ⟨rfl, hb1⟩; have HB1 : Hid (Below (w.heap.size + 1) W0 w1) := HBR.out.trans (hb1.mono (by omega)); clear hb1 e0 e1 e2 e3 e4 e5 e6 e7 e8 e9 e10 CL d10)
          go_roundw
          case rel => exact ⟨j + 1, by omega, by go_num, by rw [HSU.out]; go_num, HB1.out⟩
          case measure => simp [intOf]; omega
        · have e : j = m := by omega
          subst e
          have HL1 := HLE.out j (by omega)
          go_wp2
          go_ret
          exact ⟨by first | rfl | (apply ret_int; omega), HB0.out.trans (HBR.out.mono (by omega))⟩
  · have HLE2 : Hid (∀ j, j ≤ m → 0 + sumTo (fun i => cntX (loopB) (A i)) j ≤ 4294967296) := fun j hj => by have := HLE.out j hj; rw [if_neg hk] at this; exact this
    rw [if_neg hk]
    clear HLE
    have HLE := HLE2
    clear HLE2
    have hk' : ¬ (k = 5 ∨ k = 6) := by simpa [loopB] using hk
    have hk1 : (k == 5) = false := by simp; omega
    have hk2 : (k == 6) = false := by simp; omega
    clear hk hk'
    have HBOX : Hid (∀ W, Below (w.heap.size + 1) (w.alloc (.cells #[.int .i64 k, .int .i64 it.kind, .int .i64 it.n, .string it.s, .string nm, .string a, .int .i64 n, .int .i64 ax, .int .i64 tk, .string tn, .slice sl m cap] 28)) W → HeadAt W w.heap.size 0 k it nm a n ax tk tn (.slice sl m cap)) := fun W hW => (head_box w k it nm a n ax tk tn _ s1 s2 s3 _).keep (hW.block _ (by omega))
    have HB0 : Hid (Below w.heap.size w (w.alloc (.cells #[.int .i64 k, .int .i64 it.kind, .int .i64 it.n, .string it.s, .string nm, .string a, .int .i64 n, .int .i64 ax, .int .i64 tk, .string tn, .slice sl m cap] 28))) := (Below.refl _ _).alloc (Nat.le_refl _) _
    have hz0 : (w.alloc (.cells #[.int .i64 k, .int .i64 it.kind, .int .i64 it.n, .string it.s, .string nm, .string a, .int .i64 n, .int .i64 ax, .int .i64 tk, .string tn, .slice sl m cap] 28)).heap.size = w.heap.size + 1 := by simp
    go_enter Tryd.func9, Tryd.ntmps9
    go_upto_region 1 with fail
    obtain ⟨W0, hW0⟩ : ∃ W, W = w.alloc (.cells #[.int .i64 k, .int .i64 it.kind, .int .i64 it.n, .string it.s, .string nm, .string a, .int .i64 n, .int .i64 ax, .int .i64 tk, .string tn, .slice sl m cap] 28) := ⟨_, rfl⟩
    rw [← hW0] at HBOX HB0 hz0 ⊢
    clear hW0
    have HZ0 : Hid (W0.heap.size = w.heap.size + 1) := hz0
    have hlt0 : w.heap.size < W0.heap.size := by omega
    clear hz0 s1 s2 s3
    have d0 := (HBOX.out W0 (Below.refl _ _)).c0
    go_wp2
    go_loopw [7, 8] (fun c i wr => ∃ j : Nat, j ≤ m ∧ i = .int .i64 j ∧ c = .int .i64 ((0 + sumTo (fun i => cntX (loopB) (A i)) j : Nat) : Int) ∧ Below (w.heap.size + 1) W0 wr) (fun c i _ => m - (intOf i).toNat)
    case atStart => exact ⟨0, Nat.zero_le _, rfl, rfl, Below.refl _ _⟩
    case round =>
      obtain ⟨j, hj, rfl, rfl, hbr⟩ := hrel
      have HBR : Hid (Below (w.heap.size + 1) W0 wr) := hbr
      have d10 := (HBOX.out wr hbr).c10
      have hltr : w.heap.size < wr.heap.size := by have := hbr.size; omega
      clear hbr
      by_cases hlt : j < m
      · have hji : (j : Int) < (m : Int) := by omega
        obtain ⟨b', off', rfl, hb', hA⟩ := HSL.out (by omega)
        have hB0 : B ≤ W0.heap.size := by have := HB0.out.size; omega
        have hAj : (A j).At wr B b' (off' + j * 11) := ((hA j hlt).below ((HB0.out).mono hB)).below (HBR.out.mono (by omega))
        obtain ⟨_, k1, it1, nm1, a1, n1, ax1, tk1, tn1, sl1, m1, cap1, hh, hV⟩ := hAj.val
        have CL : Hid (Calls Tryd.prog 9 #[.agg #[.int .i64 k1, .int .i64 it1.kind, .int .i64 it1.n, .string it1.s, .string nm1, .string a1, .int .i64 n1, .int .i64 ax1, .int .i64 tk1, .string tn1, .slice sl1 m1 cap1], .int .i64 5, .int .i64 6] wr fun e w' => e = .returned (.int .i64 (cntX (loopB) (A j))) ∧ Below wr.heap.size wr w') := HIH.out j wr _ hV (by omega) (HNP.out j hlt)
        have e0 := hh.c0
        have e1 := hh.c1
        have e2 := hh.c2
        have e3 := hh.c3
        have e4 := hh.c4
        have e5 := hh.c5
        have e6 := hh.c6
        have e7 := hh.c7
        have e8 := hh.c8
        have e9 := hh.c9
        have e10 := hh.c10
        have hbw : b' < wr.heap.size := by omega
        have HL1 := HLE.out (j + 1) (by omega)
        rw [sumTo_succ] at HL1
        have HSU : Hid (sumTo (fun i => cntX (loopB) (A i)) (j + 1) = sumTo (fun i => cntX (loopB) (A i)) j + cntX (loopB) (A j)) := rfl
        clear hh hV hA hAj
        generalize cntX (loopB) (A j) = c1 at *
        generalize sumTo (fun i => cntX (loopB) (A i)) j = sj at *
        go_wp2_with (go_at_call 9; refine CL.out.mono ?_; rintro e w1 ⟨rfl, hb1⟩; have HB1 : Hid (Below (w.heap.size + 1) W0 w1) := HBR.out.trans (hb1.mono (by omega)); clear hb1 e0 e1 e2 e3 e4 e5 e6 e7 e8 e9 e10 CL d10)
        go_roundw
        case rel => exact ⟨j + 1, by omega, by go_num, by rw [HSU.out]; go_num, HB1.out⟩
        case measure => simp [intOf]; omega
      · have e : j = m := by omega
        subst e
        have HL1 := HLE.out j (by omega)
        go_wp2
        go_ret
        exact ⟨by first | rfl | (apply ret_int; omega), HB0.out.trans (HBR.out.mono (by omega))⟩
theorem loops_is (B : Nat) (x : Ex) : CountOk 9 (fun v => #[v, .int .i64 5, .int .i64 6]) B loopB x := by
  induction x with
  | no => exact fun w v h => h.elim
  | mk k it nm a n ax tk tn m A ih => exact loops_step B k it nm a n ax tk tn m A ih
set_option maxHeartbeats 3200000 in
theorem makes_step (B : Nat) (k : Int) (it : It) (nm a : ByteArray) (n ax tk : Int) (tn : ByteArray) (m : Nat) (A : Nat → Ex) (ih : ∀ i, CountOk 9 (fun v => #[v, .int .i64 10, .int .i64 10]) B (makeB) (A i)) : CountOk 9 (fun v => #[v, .int .i64 10, .int .i64 10]) B (makeB) (.mk k it nm a n ax tk tn m A) := by
  intro w v hv hB hN
  obtain ⟨sl, cap, rfl, s1, s2, s3, hmc, hcm, hsl⟩ := hv
  have HSL : Hid (0 < m → ∃ b' off', sl = some ⟨b', off', none⟩ ∧ b' < B ∧ ∀ i, i < m → (A i).At w B b' (off' + i * 11)) := hsl
  have HIH : Hid (∀ i, CountOk 9 (fun v => #[v, .int .i64 10, .int .i64 10]) B (makeB) (A i)) := ih
  rw [nodes_is] at hN
  have HLE : Hid (∀ j, j ≤ m → (if (makeB) k = true then 1 else 0) + sumTo (fun i => cntX (makeB) (A i)) j ≤ 4294967296) := fun j hj => by
    have h1 := sumTo_le (f := fun i => cntX (makeB) (A i)) (g := fun i => nodesX (A i)) (fun i => cntX_le _ (A i)) j
    have h2 := sumTo_mono (fun i => nodesX (A i)) hj
    split <;> omega
  have HNP : Hid (∀ j, j < m → nodesX (A j) ≤ 4294967296) := fun j hj => by have := nodes_part (A := A) hj; omega
  have HRES : Hid (cntX (makeB) (.mk k it nm a n ax tk tn m A) = (if (makeB) k = true then 1 else 0) + sumTo (fun i => cntX (makeB) (A i)) m) := rfl
  rw [HRES.out]
  have hmm : m ≤ 4294967296 := by have := nodes_len m A; omega
  unfold maxLen at hcm
  clear hsl ih hN HRES
  by_cases hk : makeB k = true
  · have HLE2 : Hid (∀ j, j ≤ m → 1 + sumTo (fun i => cntX (makeB) (A i)) j ≤ 4294967296) := fun j hj => by have := HLE.out j hj; rw [if_pos hk] at this; exact this
    rw [if_pos hk]
    clear HLE
    have HLE := HLE2
    clear HLE2
    have hk' : k = 10 := by simpa [makeB] using hk
    clear hk
    subst hk'
    have HBOX : Hid (∀ W, Below (w.heap.size + 1) (w.alloc (.cells #[.int .i64 10, .int .i64 it.kind, .int .i64 it.n, .string it.s, .string nm, .string a, .int .i64 n, .int .i64 ax, .int .i64 tk, .string tn, .slice sl m cap] 28)) W → HeadAt W w.heap.size 0 10 it nm a n ax tk tn (.slice sl m cap)) := fun W hW => (head_box w 10 it nm a n ax tk tn _ s1 s2 s3 _).keep (hW.block _ (by omega))
    have HB0 : Hid (Below w.heap.size w (w.alloc (.cells #[.int .i64 10, .int .i64 it.kind, .int .i64 it.n, .string it.s, .string nm, .string a, .int .i64 n, .int .i64 ax, .int .i64 tk, .string tn, .slice sl m cap] 28))) := (Below.refl _ _).alloc (Nat.le_refl _) _
    have hz0 : (w.alloc (.cells #[.int .i64 10, .int .i64 it.kind, .int .i64 it.n, .string it.s, .string nm, .string a, .int .i64 n, .int .i64 ax, .int .i64 tk, .string tn, .slice sl m cap] 28)).heap.size = w.heap.size + 1 := by simp
    go_enter Tryd.func9, Tryd.ntmps9
    go_upto_region 1 with fail
    obtain ⟨W0, hW0⟩ : ∃ W, W = w.alloc (.cells #[.int .i64 10, .int .i64 it.kind, .int .i64 it.n, .string it.s, .string nm, .string a, .int .i64 n, .int .i64 ax, .int .i64 tk, .string tn, .slice sl m cap] 28) := ⟨_, rfl⟩
    rw [← hW0] at HBOX HB0 hz0 ⊢
    clear hW0
    have HZ0 : Hid (W0.heap.size = w.heap.size + 1) := hz0
    have hlt0 : w.heap.size < W0.heap.size := by omega
    clear hz0 s1 s2 s3
    have d0 := (HBOX.out W0 (Below.refl _ _)).c0
    go_wp2
    go_loopw [7, 8] (fun c i wr => ∃ j : Nat, j ≤ m ∧ i = .int .i64 j ∧ c = .int .i64 ((1 + sumTo (fun i => cntX (makeB) (A i)) j : Nat) : Int) ∧ Below (w.heap.size + 1) W0 wr) (fun c i _ => m - (intOf i).toNat)
    case atStart => exact ⟨0, Nat.zero_le _, rfl, rfl, Below.refl _ _⟩
    case round =>
      obtain ⟨j, hj, rfl, rfl, hbr⟩ := hrel
      have HBR : Hid (Below (w.heap.size + 1) W0 wr) := hbr
      have d10 := (HBOX.out wr hbr).c10
      have hltr : w.heap.size < wr.heap.size := by have := hbr.size; omega
      clear hbr
      by_cases hlt : j < m
      · have hji : (j : Int) < (m : Int) := by omega
        obtain ⟨b', off', rfl, hb', hA⟩ := HSL.out (by omega)
        have hB0 : B ≤ W0.heap.size := by have := HB0.out.size; omega
        have hAj : (A j).At wr B b' (off' + j * 11) := ((hA j hlt).below ((HB0.out).mono hB)).below (HBR.out.mono (by omega))
        obtain ⟨_, k1, it1, nm1, a1, n1, ax1, tk1, tn1, sl1, m1, cap1, hh, hV⟩ := hAj.val
        have CL : Hid (Calls Tryd.prog 9 #[.agg #[.int .i64 k1, .int .i64 it1.kind, .int .i64 it1.n, .string it1.s, .string nm1, .string a1, .int .i64 n1, .int .i64 ax1, .int .i64 tk1, .string tn1, .slice sl1 m1 cap1], .int .i64 10, .int .i64 10] wr fun e w' => e = .returned (.int .i64 (cntX (makeB) (A j))) ∧ Below wr.heap.size wr w') := HIH.out j wr _ hV (by omega) (HNP.out j hlt)
        have e0 := hh.c0
        have e1 := hh.c1
        have e2 := hh.c2
        have e3 := hh.c3
        have e4 := hh.c4
        have e5 := hh.c5
        have e6 := hh.c6
        have e7 := hh.c7
        have e8 := hh.c8
        have e9 := hh.c9
        have e10 := hh.c10
        have hbw : b' < wr.heap.size := by omega
        have HL1 := HLE.out (j + 1) (by omega)
        rw [sumTo_succ] at HL1
        have HSU : Hid (sumTo (fun i => cntX (makeB) (A i)) (j + 1) = sumTo (fun i => cntX (makeB) (A i)) j + cntX (makeB) (A j)) := rfl
        clear hh hV hA hAj
        generalize cntX (makeB) (A j) = c1 at *
        generalize sumTo (fun i => cntX (makeB) (A i)) j = sj at *
        go_wp2_with (go_at_call 9; refine CL.out.mono ?_; rintro e w1 ⟨rfl, hb1⟩; have HB1 : Hid (Below (w.heap.size + 1) W0 w1) := HBR.out.trans (hb1.mono (by omega)); clear hb1 e0 e1 e2 e3 e4 e5 e6 e7 e8 e9 e10 CL d10)
        go_roundw
        case rel => exact ⟨j + 1, by omega, by go_num, by rw [HSU.out]; go_num, HB1.out⟩
        case measure => simp [intOf]; omega
      · have e : j = m := by omega
        subst e
        have HL1 := HLE.out j (by omega)
        go_wp2
        go_ret
        exact ⟨by first | rfl | (apply ret_int; omega), HB0.out.trans (HBR.out.mono (by omega))⟩
  · have HLE2 : Hid (∀ j, j ≤ m → 0 + sumTo (fun i => cntX (makeB) (A i)) j ≤ 4294967296) := fun j hj => by have := HLE.out j hj; rw [if_neg hk] at this; exact this
    rw [if_neg hk]
    clear HLE
    have HLE := HLE2
    clear HLE2
    have hk' : ¬ (k = 10) := by simpa [makeB] using hk
    have hk1 : (k == 10) = false := by simp; omega
    have hk2 : (k == 10) = false := by simp; omega
    clear hk hk'
    have HBOX : Hid (∀ W, Below (w.heap.size + 1) (w.alloc (.cells #[.int .i64 k, .int .i64 it.kind, .int .i64 it.n, .string it.s, .string nm, .string a, .int .i64 n, .int .i64 ax, .int .i64 tk, .string tn, .slice sl m cap] 28)) W → HeadAt W w.heap.size 0 k it nm a n ax tk tn (.slice sl m cap)) := fun W hW => (head_box w k it nm a n ax tk tn _ s1 s2 s3 _).keep (hW.block _ (by omega))
    have HB0 : Hid (Below w.heap.size w (w.alloc (.cells #[.int .i64 k, .int .i64 it.kind, .int .i64 it.n, .string it.s, .string nm, .string a, .int .i64 n, .int .i64 ax, .int .i64 tk, .string tn, .slice sl m cap] 28))) := (Below.refl _ _).alloc (Nat.le_refl _) _
    have hz0 : (w.alloc (.cells #[.int .i64 k, .int .i64 it.kind, .int .i64 it.n, .string it.s, .string nm, .string a, .int .i64 n, .int .i64 ax, .int .i64 tk, .string tn, .slice sl m cap] 28)).heap.size = w.heap.size + 1 := by simp
    go_enter Tryd.func9, Tryd.ntmps9
    go_upto_region 1 with fail
    obtain ⟨W0, hW0⟩ : ∃ W, W = w.alloc (.cells #[.int .i64 k, .int .i64 it.kind, .int .i64 it.n, .string it.s, .string nm, .string a, .int .i64 n, .int .i64 ax, .int .i64 tk, .string tn, .slice sl m cap] 28) := ⟨_, rfl⟩
    rw [← hW0] at HBOX HB0 hz0 ⊢
    clear hW0
    have HZ0 : Hid (W0.heap.size = w.heap.size + 1) := hz0
    have hlt0 : w.heap.size < W0.heap.size := by omega
    clear hz0 s1 s2 s3
    have d0 := (HBOX.out W0 (Below.refl _ _)).c0
    go_wp2
    go_loopw [7, 8] (fun c i wr => ∃ j : Nat, j ≤ m ∧ i = .int .i64 j ∧ c = .int .i64 ((0 + sumTo (fun i => cntX (makeB) (A i)) j : Nat) : Int) ∧ Below (w.heap.size + 1) W0 wr) (fun c i _ => m - (intOf i).toNat)
    case atStart => exact ⟨0, Nat.zero_le _, rfl, rfl, Below.refl _ _⟩
    case round =>
      obtain ⟨j, hj, rfl, rfl, hbr⟩ := hrel
      have HBR : Hid (Below (w.heap.size + 1) W0 wr) := hbr
      have d10 := (HBOX.out wr hbr).c10
      have hltr : w.heap.size < wr.heap.size := by have := hbr.size; omega
      clear hbr
      by_cases hlt : j < m
      · have hji : (j : Int) < (m : Int) := by omega
        obtain ⟨b', off', rfl, hb', hA⟩ := HSL.out (by omega)
        have hB0 : B ≤ W0.heap.size := by have := HB0.out.size; omega
        have hAj : (A j).At wr B b' (off' + j * 11) := ((hA j hlt).below ((HB0.out).mono hB)).below (HBR.out.mono (by omega))
        obtain ⟨_, k1, it1, nm1, a1, n1, ax1, tk1, tn1, sl1, m1, cap1, hh, hV⟩ := hAj.val
        have CL : Hid (Calls Tryd.prog 9 #[.agg #[.int .i64 k1, .int .i64 it1.kind, .int .i64 it1.n, .string it1.s, .string nm1, .string a1, .int .i64 n1, .int .i64 ax1, .int .i64 tk1, .string tn1, .slice sl1 m1 cap1], .int .i64 10, .int .i64 10] wr fun e w' => e = .returned (.int .i64 (cntX (makeB) (A j))) ∧ Below wr.heap.size wr w') := HIH.out j wr _ hV (by omega) (HNP.out j hlt)
        have e0 := hh.c0
        have e1 := hh.c1
        have e2 := hh.c2
        have e3 := hh.c3
        have e4 := hh.c4
        have e5 := hh.c5
        have e6 := hh.c6
        have e7 := hh.c7
        have e8 := hh.c8
        have e9 := hh.c9
        have e10 := hh.c10
        have hbw : b' < wr.heap.size := by omega
        have HL1 := HLE.out (j + 1) (by omega)
        rw [sumTo_succ] at HL1
        have HSU : Hid (sumTo (fun i => cntX (makeB) (A i)) (j + 1) = sumTo (fun i => cntX (makeB) (A i)) j + cntX (makeB) (A j)) := rfl
        clear hh hV hA hAj
        generalize cntX (makeB) (A j) = c1 at *
        generalize sumTo (fun i => cntX (makeB) (A i)) j = sj at *
        go_wp2_with (go_at_call 9; refine CL.out.mono ?_; rintro e w1 ⟨rfl, hb1⟩; have HB1 : Hid (Below (w.heap.size + 1) W0 w1) := HBR.out.trans (hb1.mono (by omega)); clear hb1 e0 e1 e2 e3 e4 e5 e6 e7 e8 e9 e10 CL d10)
        go_roundw
        case rel => exact ⟨j + 1, by omega, by go_num, by rw [HSU.out]; go_num, HB1.out⟩
        case measure => simp [intOf]; omega
      · have e : j = m := by omega
        subst e
        have HL1 := HLE.out j (by omega)
        go_wp2
        go_ret
        exact ⟨by first | rfl | (apply ret_int; omega), HB0.out.trans (HBR.out.mono (by omega))⟩
theorem makes_is (B : Nat) (x : Ex) : CountOk 9 (fun v => #[v, .int .i64 10, .int .i64 10]) B makeB x := by
  induction x with
  | no => exact fun w v h => h.elim
  | mk k it nm a n ax tk tn m A ih => exact makes_step B k it nm a n ax tk tn m A ih
end Go.Proofs.YtlllgelolmkapaaDoor
