/-
  TABLES OF THE PARSER: operators, tests of a kind, axes; operatorNext, kindTestOf, axisOf, whatever is looked for.
-/
import Derived.Test.YtcbpjgnbdpfiiaaGreatDoorTkOpen
import Derived.Laws.OwnMore
set_option linter.unusedVariables false
namespace Go.Proofs.YtcbpjgnbdpfiiaaGreatDoor
set_option maxRecDepth 100000
open Go.RowKit

def opCells : Array Value := #[.string ⟨#[111, 114]⟩, .int .i64 0, .string ⟨#[97, 110, 100]⟩, .int .i64 1, .string ⟨#[61]⟩, .int .i64 2, .string ⟨#[33, 61]⟩, .int .i64 2, .string ⟨#[60]⟩, .int .i64 2, .string ⟨#[60, 61]⟩, .int .i64 2, .string ⟨#[62]⟩, .int .i64 2, .string ⟨#[62, 61]⟩, .int .i64 2, .string ⟨#[105, 115]⟩, .int .i64 2, .string ⟨#[60, 60]⟩, .int .i64 2, .string ⟨#[62, 62]⟩, .int .i64 2, .string ⟨#[116, 111]⟩, .int .i64 3, .string ⟨#[43]⟩, .int .i64 4, .string ⟨#[45]⟩, .int .i64 4, .string ⟨#[42]⟩, .int .i64 5, .string ⟨#[100, 105, 118]⟩, .int .i64 5, .string ⟨#[109, 111, 100]⟩, .int .i64 5, .string ⟨#[124]⟩, .int .i64 6, .string ⟨#[117, 110, 105, 111, 110]⟩, .int .i64 6, .string ⟨#[105, 110, 116, 101, 114, 115, 101, 99, 116]⟩, .int .i64 7, .string ⟨#[101, 120, 99, 101, 112, 116]⟩, .int .i64 7]
def opNames : List ByteArray := [⟨#[111, 114]⟩, ⟨#[97, 110, 100]⟩, ⟨#[61]⟩, ⟨#[33, 61]⟩, ⟨#[60]⟩, ⟨#[60, 61]⟩, ⟨#[62]⟩, ⟨#[62, 61]⟩, ⟨#[105, 115]⟩, ⟨#[60, 60]⟩, ⟨#[62, 62]⟩, ⟨#[116, 111]⟩, ⟨#[43]⟩, ⟨#[45]⟩, ⟨#[42]⟩, ⟨#[100, 105, 118]⟩, ⟨#[109, 111, 100]⟩, ⟨#[124]⟩, ⟨#[117, 110, 105, 111, 110]⟩, ⟨#[105, 110, 116, 101, 114, 115, 101, 99, 116]⟩, ⟨#[101, 120, 99, 101, 112, 116]⟩]
def opN (k : Nat) : ByteArray := opNames.getD k ⟨#[]⟩
def opBinds : List Int := [0, 1, 2, 2, 2, 2, 2, 2, 2, 2, 2, 3, 4, 4, 5, 5, 5, 6, 6, 7, 7]
def opB (k : Nat) : Int := opBinds.getD k 0
def OpTab (w : World) : Prop := ∃ t fr, w.heap[4]? = some (.cells opCells t fr)
theorem OpTab.below {w w' : World} (h : OpTab w) (hb : Below w.heap.size w w') : OpTab w' := by
  obtain ⟨t, fr, h⟩ := h
  exact ⟨t, fr, (hb.block _ (Array.getElem?_eq_some_iff.1 h).1).trans h⟩
theorem OpTab.grow {w w' : World} {pb : Nat} (h : OpTab w) (hg : GrowA pb w w') (hp : 4 ≠ pb) : OpTab w' := by
  obtain ⟨t, fr, h⟩ := h
  exact ⟨t, fr, (hg.2.2.2.2 _ (Array.getElem?_eq_some_iff.1 h).1 hp).trans h⟩
theorem op_index : ∀ (k : Nat), k < 21 → ∀ w, (Instr.index 189 (.agg opCells) (.int .i64 (k : Int))).run Tryz.prog w = .ok (.agg #[.string (opN k), .int .i64 (opB k)]) w := by
  intro k hk
  have : k = 0 ∨ k = 1 ∨ k = 2 ∨ k = 3 ∨ k = 4 ∨ k = 5 ∨ k = 6 ∨ k = 7 ∨ k = 8 ∨ k = 9 ∨ k = 10 ∨ k = 11 ∨ k = 12 ∨ k = 13 ∨ k = 14 ∨ k = 15 ∨ k = 16 ∨ k = 17 ∨ k = 18 ∨ k = 19 ∨ k = 20 := by omega
  rcases this with rfl | rfl | rfl | rfl | rfl | rfl | rfl | rfl | rfl | rfl | rfl | rfl | rfl | rfl | rfl | rfl | rfl | rfl | rfl | rfl | rfl <;> exact fun _ => by kernel_rfl
def ktCells : Array Value := #[.string ⟨#[]⟩, .string ⟨#[110, 111, 100, 101]⟩, .string ⟨#[116, 101, 120, 116]⟩, .string ⟨#[99, 111, 109, 109, 101, 110, 116]⟩]
def ktNames : List ByteArray := [⟨#[]⟩, ⟨#[110, 111, 100, 101]⟩, ⟨#[116, 101, 120, 116]⟩, ⟨#[99, 111, 109, 109, 101, 110, 116]⟩]
def ktN (k : Nat) : ByteArray := ktNames.getD k ⟨#[]⟩
def KtTab (w : World) : Prop := ∃ t fr, w.heap[6]? = some (.cells ktCells t fr)
theorem KtTab.below {w w' : World} (h : KtTab w) (hb : Below w.heap.size w w') : KtTab w' := by
  obtain ⟨t, fr, h⟩ := h
  exact ⟨t, fr, (hb.block _ (Array.getElem?_eq_some_iff.1 h).1).trans h⟩
theorem KtTab.grow {w w' : World} {pb : Nat} (h : KtTab w) (hg : GrowA pb w w') (hp : 6 ≠ pb) : KtTab w' := by
  obtain ⟨t, fr, h⟩ := h
  exact ⟨t, fr, (hg.2.2.2.2 _ (Array.getElem?_eq_some_iff.1 h).1 hp).trans h⟩
theorem kt_index : ∀ (k : Nat), k < 4 → ∀ w, (Instr.index 197 (.agg ktCells) (.int .i64 (k : Int))).run Tryz.prog w = .ok (.string (ktN k)) w := by
  intro k hk
  have : k = 0 ∨ k = 1 ∨ k = 2 ∨ k = 3 := by omega
  rcases this with rfl | rfl | rfl | rfl <;> exact fun _ => by kernel_rfl
def axCells : Array Value := #[.string ⟨#[]⟩, .string ⟨#[99, 104, 105, 108, 100]⟩, .string ⟨#[100, 101, 115, 99, 101, 110, 100, 97, 110, 116]⟩, .string ⟨#[100, 101, 115, 99, 101, 110, 100, 97, 110, 116, 45, 111, 114, 45, 115, 101, 108, 102]⟩, .string ⟨#[115, 101, 108, 102]⟩, .string ⟨#[112, 97, 114, 101, 110, 116]⟩, .string ⟨#[97, 110, 99, 101, 115, 116, 111, 114]⟩, .string ⟨#[97, 110, 99, 101, 115, 116, 111, 114, 45, 111, 114, 45, 115, 101, 108, 102]⟩, .string ⟨#[102, 111, 108, 108, 111, 119, 105, 110, 103]⟩, .string ⟨#[112, 114, 101, 99, 101, 100, 105, 110, 103]⟩, .string ⟨#[102, 111, 108, 108, 111, 119, 105, 110, 103, 45, 115, 105, 98, 108, 105, 110, 103]⟩, .string ⟨#[112, 114, 101, 99, 101, 100, 105, 110, 103, 45, 115, 105, 98, 108, 105, 110, 103]⟩, .string ⟨#[97, 116, 116, 114, 105, 98, 117, 116, 101]⟩]
def axNames : List ByteArray := [⟨#[]⟩, ⟨#[99, 104, 105, 108, 100]⟩, ⟨#[100, 101, 115, 99, 101, 110, 100, 97, 110, 116]⟩, ⟨#[100, 101, 115, 99, 101, 110, 100, 97, 110, 116, 45, 111, 114, 45, 115, 101, 108, 102]⟩, ⟨#[115, 101, 108, 102]⟩, ⟨#[112, 97, 114, 101, 110, 116]⟩, ⟨#[97, 110, 99, 101, 115, 116, 111, 114]⟩, ⟨#[97, 110, 99, 101, 115, 116, 111, 114, 45, 111, 114, 45, 115, 101, 108, 102]⟩, ⟨#[102, 111, 108, 108, 111, 119, 105, 110, 103]⟩, ⟨#[112, 114, 101, 99, 101, 100, 105, 110, 103]⟩, ⟨#[102, 111, 108, 108, 111, 119, 105, 110, 103, 45, 115, 105, 98, 108, 105, 110, 103]⟩, ⟨#[112, 114, 101, 99, 101, 100, 105, 110, 103, 45, 115, 105, 98, 108, 105, 110, 103]⟩, ⟨#[97, 116, 116, 114, 105, 98, 117, 116, 101]⟩]
def axN (k : Nat) : ByteArray := axNames.getD k ⟨#[]⟩
def AxTab (w : World) : Prop := ∃ t fr, w.heap[5]? = some (.cells axCells t fr)
theorem AxTab.below {w w' : World} (h : AxTab w) (hb : Below w.heap.size w w') : AxTab w' := by
  obtain ⟨t, fr, h⟩ := h
  exact ⟨t, fr, (hb.block _ (Array.getElem?_eq_some_iff.1 h).1).trans h⟩
theorem AxTab.grow {w w' : World} {pb : Nat} (h : AxTab w) (hg : GrowA pb w w') (hp : 5 ≠ pb) : AxTab w' := by
  obtain ⟨t, fr, h⟩ := h
  exact ⟨t, fr, (hg.2.2.2.2 _ (Array.getElem?_eq_some_iff.1 h).1 hp).trans h⟩
/-- which is the first one that fits, from k on, of so many; none: e -/
def goF (N : Nat → ByteArray) (V : Nat → Int) (e : Int) (s : ByteArray) : Nat → Nat → Int
  | 0, _ => e
  | n + 1, k => if ((N k).toList == s.toList) = true then V k else goF N V e s n (k + 1)
theorem goF_skip {N : Nat → ByteArray} {V : Nat → Int} {e : Int} {s : ByteArray} : ∀ (k m : Nat), (∀ j, j < k → ((N j).toList == s.toList) = false) → goF N V e s (k + m) 0 = goF N V e s m k := by
  intro k
  induction k with
  | zero => intro m h; simp
  | succ k ih =>
    intro m h
    have := ih (m + 1) (fun j hj => h j (by omega))
    rw [show k + 1 + m = k + (m + 1) by omega, this]
    simp only [goF]
    rw [h k (by omega)]
    rfl
theorem goF_at {N : Nat → ByteArray} {V : Nat → Int} {e : Int} {s : ByteArray} {n k : Nat} (hk : k < n) (h : ∀ j, j < k → ((N j).toList == s.toList) = false) (hy : ((N k).toList == s.toList) = true) : goF N V e s n 0 = V k := by
  obtain ⟨m, rfl⟩ : ∃ m, n = k + (m + 1) := ⟨n - k - 1, by omega⟩
  rw [goF_skip k (m + 1) h]
  simp only [goF]
  rw [hy]
  rfl
theorem goF_none {N : Nat → ByteArray} {V : Nat → Int} {e : Int} {s : ByteArray} {n : Nat} (h : ∀ j, j < n → ((N j).toList == s.toList) = false) : goF N V e s n 0 = e := by
  have := goF_skip (V := V) (e := e) n 0 h
  rwa [Nat.add_zero] at this
/-- how an operator binds; -1: there is none -/
def opOf (s : ByteArray) : Int := goF opN opB (-1) s 21 0
def ktOf (s : ByteArray) : Int := goF ktN (fun k => (k : Int)) 0 s 4 0
def opNext (u : Tok) (bd : Int) : Bool := (u.kind == 1 || u.kind == 5) && (decide (0 ≤ opOf u.s) && (opOf u.s == bd))
theorem opB_pos : ∀ k, 0 ≤ opB k := by
  intro k
  by_cases h : k < 21
  · exact (by decide : ∀ k : Fin 21, 0 ≤ opB k) ⟨k, h⟩
  · show 0 ≤ opBinds.getD k 0
    rw [List.getD_eq_getElem?_getD, List.getElem?_eq_none (by simp [opBinds]; omega)]
    simp
set_option maxHeartbeats 1600000 in
theorem kindTestOf_is (s : ByteArray) (w : World) (ho : KtTab w) : Calls Tryz.prog 168 #[.string s] w fun e w' => e = .returned (.int .i64 (ktOf s)) ∧ Below w.heap.size w w' := by
  obtain ⟨tt, fr, hgt⟩ := ho
  have HGT : Hid (w.heap[6]? = some (.cells ktCells tt fr)) := hgt
  clear hgt
  obtain ⟨R, hR⟩ : ∃ R, R = ktOf s := ⟨_, rfl⟩
  rw [← hR]
  replace hR : Hid (R = ktOf s) := hR
  go_enter Tryz.func168, Tryz.ntmps168
  go_wp2_with (refine wpList_load_row rfl 197 _ rfl 6 rfl tt _ fr _ HGT.out Tryz.underlying197 rfl (by kernel_rfl) ?_)
  go_loopw [6] (fun i wr => ∃ k : Nat, k ≤ 4 ∧ i = .int .i64 k ∧ Below w.heap.size w wr ∧ Hid (∀ j, j < k → ((ktN j).toList == s.toList) = false)) (fun i _ => 4 - (intOf i).toNat)
  case atStart => exact ⟨0, by omega, rfl, Below.refl _ _, fun j hj => absurd hj (by omega)⟩
  case round =>
    obtain ⟨k, hk, rfl, hbw, HN⟩ := hrel
    have HBW : Hid (Below w.heap.size w wr) := hbw
    clear hbw
    by_cases hlt : k < 4
    · have hI := kt_index k hlt
      have hki : (k : Int) < 4 := by omega
      cases hy : (ktN k).toList == s.toList
      · have HN2 : Hid (∀ j, j < k + 1 → ((ktN j).toList == s.toList) = false) := fun j hj => by
          by_cases e : j = k
          · rw [e]; exact hy
          · exact HN.out j (by omega)
        generalize ktN k = on at hI hy
        go_wp2
        go_roundw
        case rel => exact ⟨k + 1, by omega, by go_num, (by first | exact HBW.out | exact HBW.out.alloc HBW.out.size _), HN2⟩
        case measure => simp [intOf]; omega
      · have HV : Hid (R = (k : Int)) := hR.out.trans (goF_at hlt HN.out hy)
        generalize ktN k = on at hI hy
        go_wp2
        go_ret
        exact ⟨by rw [HV.out]; rfl, by first | exact HBW.out | exact HBW.out.alloc HBW.out.size _⟩
    · have hki : ¬ ((k : Int) < 4) := by omega
      obtain rfl : k = 4 := by omega
      have HV : Hid (R = 0) := hR.out.trans (goF_none HN.out)
      go_wp2
      go_ret
      exact ⟨by rw [HV.out]; rfl, HBW.out⟩
end Go.Proofs.YtcbpjgnbdpfiiaaGreatDoor
