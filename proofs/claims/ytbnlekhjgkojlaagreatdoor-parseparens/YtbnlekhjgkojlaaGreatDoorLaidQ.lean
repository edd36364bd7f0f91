import Derived.Test.YtbnlekhjgkojlaaGreatDoorPkPick
import Derived.Test.YtbnlekhjgkojlaaGreatDoorTie
import Derived.ProofKit
import Derived.Lib.LaidTab
import Derived.Lib.LaidIn
import Derived.Lib.LaidU8T
import Derived.PinnedBridge
import Derived.Test.YtbnlekhjgkojlaaGreatDoorPtStep
import Derived.Laws.OwnMore
import Derived.Test.YtbnlekhjgkojlaaGreatDoorTcCode
import Derived.Laws.AppendOwnNone
import Derived.Maps.AppendAt
import Derived.OwnWalk
import Derived.Test.YtbnlekhjgkojlaaGreatDoorPoEat
import Derived.Deep.RegionHeld3
import Derived.Sort.AtCall
import Derived.Laws.Concat
import Derived.Deep.Strs
import Derived.Deep.Slices
import Derived.WalkKit
import Derived.SizedLaws
import Derived.OpenShut
import Derived.Lib.LaidU8
namespace Go.Proofs.YtbnlekhjgkojlaaGreatDoor
open Go.ChangeShapes Go.WideShapes Go.ChangeAt Go.RowKit
theorem accept_eq : (Rows.laid_unicode_utf8_acceptRanges : DataW Unit) = Lib.acceptData := by kernel_rfl
theorem first_eq : Rows.laid_unicode_utf8_first = Lib.firstData := Pinned.utf8First_eq
theorem tabs_of {W : World} {l : List (String × DataW Unit)} (hL : laidMet Tryz.prog l W) (hf : ("unicode/utf8.first", Rows.laid_unicode_utf8_first) ∈ l) (ha : ("unicode/utf8.acceptRanges", Rows.laid_unicode_utf8_acceptRanges) ∈ l) : Tabs W := by
 have h1 : Lib.VarReads Tryz.prog W "unicode/utf8.first" Rows.laid_unicode_utf8_first := Lib.laidMet.reads hL hf
 have h2 : Lib.VarReads Tryz.prog W "unicode/utf8.acceptRanges" Rows.laid_unicode_utf8_acceptRanges := Lib.laidMet.reads hL ha
 rw [first_eq] at h1
 rw [accept_eq] at h2
 exact utf8Tabs_of_readsT (U8Types.of196 Tryz.laysValid) ⟨by kernel_rfl, by kernel_rfl, by kernel_rfl, by kernel_rfl, by kernel_rfl, by kernel_rfl, by kernel_rfl⟩ h1 h2
set_option linter.unusedVariables false
set_option maxRecDepth 100000
open Go.RowKit
theorem eqT_run {k n k' n' : Int} {s s' : ByteArray} {v : Bool} (h : eqT ⟨k, s, n⟩ ⟨k', s', n'⟩ = v) (W : World) : Sem.run Tryz.prog (binOp .eql 41 (.agg #[.int .i64 k, .string s, .int .i64 n]) (.agg #[.int .i64 k', .string s', .int .i64 n'])) W = .ok (.bool v) W := by
 subst h
 by_cases h1 : k = k'
 · by_cases h2 : s = s'
   · by_cases h3 : n = n'
     · subst h1 h2 h3; simp [eqT, go_sem]
     · have := beq_eq_false_iff_ne.2 h3
       subst h1 h2; simp [eqT, go_sem, h3]
   · have h2' : (s.toList == s'.toList) = false := by rw [toL_eq, decide_eq_false h2]
     subst h1; simp [eqT, go_sem, h2, h2']
 · simp [eqT, go_sem, h1]
open Go.RowKit
def opCells : Array Value := #[.string ⟨#[111, 114]⟩, .int .i64 0, .string ⟨#[97, 110, 100]⟩, .int .i64 1, .string ⟨#[61]⟩, .int .i64 2, .string ⟨#[33, 61]⟩, .int .i64 2, .string ⟨#[60]⟩, .int .i64 2, .string ⟨#[60, 61]⟩, .int .i64 2, .string ⟨#[62]⟩, .int .i64 2, .string ⟨#[62, 61]⟩, .int .i64 2, .string ⟨#[105, 115]⟩, .int .i64 2, .string ⟨#[60, 60]⟩, .int .i64 2, .string ⟨#[62, 62]⟩, .int .i64 2, .string ⟨#[116, 111]⟩, .int .i64 3, .string ⟨#[43]⟩, .int .i64 4, .string ⟨#[45]⟩, .int .i64 4, .string ⟨#[42]⟩, .int .i64 5, .string ⟨#[100, 105, 118]⟩, .int .i64 5, .string ⟨#[109, 111, 100]⟩, .int .i64 5, .string ⟨#[124]⟩, .int .i64 6, .string ⟨#[117, 110, 105, 111, 110]⟩, .int .i64 6, .string ⟨#[105, 110, 116, 101, 114, 115, 101, 99, 116]⟩, .int .i64 7, .string ⟨#[101, 120, 99, 101, 112, 116]⟩, .int .i64 7]
def opNames : List ByteArray := [⟨#[111, 114]⟩, ⟨#[97, 110, 100]⟩, ⟨#[61]⟩, ⟨#[33, 61]⟩, ⟨#[60]⟩, ⟨#[60, 61]⟩, ⟨#[62]⟩, ⟨#[62, 61]⟩, ⟨#[105, 115]⟩, ⟨#[60, 60]⟩, ⟨#[62, 62]⟩, ⟨#[116, 111]⟩, ⟨#[43]⟩, ⟨#[45]⟩, ⟨#[42]⟩, ⟨#[100, 105, 118]⟩, ⟨#[109, 111, 100]⟩, ⟨#[124]⟩, ⟨#[117, 110, 105, 111, 110]⟩, ⟨#[105, 110, 116, 101, 114, 115, 101, 99, 116]⟩, ⟨#[101, 120, 99, 101, 112, 116]⟩]
def opN (k : Nat) : ByteArray := opNames.getD k ⟨#[]⟩
def opBinds : List Int := [0, 1, 2, 2, 2, 2, 2, 2, 2, 2, 2, 3, 4, 4, 5, 5, 5, 6, 6, 7, 7]
def opB (k : Nat) : Int := opBinds.getD k 0
def OpTab (w : World) : Prop := ∃ t fr, w.heap[5]? = some (.cells opCells t fr)
theorem OpTab.below {w w' : World} (h : OpTab w) (hb : Below w.heap.size w w') : OpTab w' := by
 obtain ⟨t, fr, h⟩ := h
 exact ⟨t, fr, (hb.block _ (Array.getElem?_eq_some_iff.1 h).1).trans h⟩
theorem OpTab.grow {w w' : World} {pb : Nat} (h : OpTab w) (hg : GrowA pb w w') (hp : 5 ≠ pb) : OpTab w' := by
 obtain ⟨t, fr, h⟩ := h
 exact ⟨t, fr, (hg.2.2.2.2 _ (Array.getElem?_eq_some_iff.1 h).1 hp).trans h⟩
theorem op_index : ∀ (k : Nat), k < 21 → ∀ w, (Instr.index 146 (.agg opCells) (.int .i64 (k : Int))).run Tryz.prog w = .ok (.agg #[.string (opN k), .int .i64 (opB k)]) w := by
 intro k hk
 have : k = 0 ∨ k = 1 ∨ k = 2 ∨ k = 3 ∨ k = 4 ∨ k = 5 ∨ k = 6 ∨ k = 7 ∨ k = 8 ∨ k = 9 ∨ k = 10 ∨ k = 11 ∨ k = 12 ∨ k = 13 ∨ k = 14 ∨ k = 15 ∨ k = 16 ∨ k = 17 ∨ k = 18 ∨ k = 19 ∨ k = 20 := by omega
 rcases this with rfl | rfl | rfl | rfl | rfl | rfl | rfl | rfl | rfl | rfl | rfl | rfl | rfl | rfl | rfl | rfl | rfl | rfl | rfl | rfl | rfl <;> exact fun _ => by kernel_rfl
def ktCells : Array Value := #[.string ⟨#[]⟩, .string ⟨#[110, 111, 100, 101]⟩, .string ⟨#[116, 101, 120, 116]⟩, .string ⟨#[99, 111, 109, 109, 101, 110, 116]⟩]
def ktNames : List ByteArray := [⟨#[]⟩, ⟨#[110, 111, 100, 101]⟩, ⟨#[116, 101, 120, 116]⟩, ⟨#[99, 111, 109, 109, 101, 110, 116]⟩]
def ktN (k : Nat) : ByteArray := ktNames.getD k ⟨#[]⟩
def KtTab (w : World) : Prop := ∃ t fr, w.heap[9]? = some (.cells ktCells t fr)
theorem KtTab.below {w w' : World} (h : KtTab w) (hb : Below w.heap.size w w') : KtTab w' := by
 obtain ⟨t, fr, h⟩ := h
 exact ⟨t, fr, (hb.block _ (Array.getElem?_eq_some_iff.1 h).1).trans h⟩
theorem KtTab.grow {w w' : World} {pb : Nat} (h : KtTab w) (hg : GrowA pb w w') (hp : 9 ≠ pb) : KtTab w' := by
 obtain ⟨t, fr, h⟩ := h
 exact ⟨t, fr, (hg.2.2.2.2 _ (Array.getElem?_eq_some_iff.1 h).1 hp).trans h⟩
theorem kt_index : ∀ (k : Nat), k < 4 → ∀ w, (Instr.index 157 (.agg ktCells) (.int .i64 (k : Int))).run Tryz.prog w = .ok (.string (ktN k)) w := by
 intro k hk
 have : k = 0 ∨ k = 1 ∨ k = 2 ∨ k = 3 := by omega
 rcases this with rfl | rfl | rfl | rfl <;> exact fun _ => by kernel_rfl
def axCells : Array Value := #[.string ⟨#[]⟩, .string ⟨#[99, 104, 105, 108, 100]⟩, .string ⟨#[100, 101, 115, 99, 101, 110, 100, 97, 110, 116]⟩, .string ⟨#[100, 101, 115, 99, 101, 110, 100, 97, 110, 116, 45, 111, 114, 45, 115, 101, 108, 102]⟩, .string ⟨#[115, 101, 108, 102]⟩, .string ⟨#[112, 97, 114, 101, 110, 116]⟩, .string ⟨#[97, 110, 99, 101, 115, 116, 111, 114]⟩, .string ⟨#[97, 110, 99, 101, 115, 116, 111, 114, 45, 111, 114, 45, 115, 101, 108, 102]⟩, .string ⟨#[102, 111, 108, 108, 111, 119, 105, 110, 103]⟩, .string ⟨#[112, 114, 101, 99, 101, 100, 105, 110, 103]⟩, .string ⟨#[102, 111, 108, 108, 111, 119, 105, 110, 103, 45, 115, 105, 98, 108, 105, 110, 103]⟩, .string ⟨#[112, 114, 101, 99, 101, 100, 105, 110, 103, 45, 115, 105, 98, 108, 105, 110, 103]⟩, .string ⟨#[97, 116, 116, 114, 105, 98, 117, 116, 101]⟩]
def axNames : List ByteArray := [⟨#[]⟩, ⟨#[99, 104, 105, 108, 100]⟩, ⟨#[100, 101, 115, 99, 101, 110, 100, 97, 110, 116]⟩, ⟨#[100, 101, 115, 99, 101, 110, 100, 97, 110, 116, 45, 111, 114, 45, 115, 101, 108, 102]⟩, ⟨#[115, 101, 108, 102]⟩, ⟨#[112, 97, 114, 101, 110, 116]⟩, ⟨#[97, 110, 99, 101, 115, 116, 111, 114]⟩, ⟨#[97, 110, 99, 101, 115, 116, 111, 114, 45, 111, 114, 45, 115, 101, 108, 102]⟩, ⟨#[102, 111, 108, 108, 111, 119, 105, 110, 103]⟩, ⟨#[112, 114, 101, 99, 101, 100, 105, 110, 103]⟩, ⟨#[102, 111, 108, 108, 111, 119, 105, 110, 103, 45, 115, 105, 98, 108, 105, 110, 103]⟩, ⟨#[112, 114, 101, 99, 101, 100, 105, 110, 103, 45, 115, 105, 98, 108, 105, 110, 103]⟩, ⟨#[97, 116, 116, 114, 105, 98, 117, 116, 101]⟩]
def axN (k : Nat) : ByteArray := axNames.getD k ⟨#[]⟩
def AxTab (w : World) : Prop := ∃ t fr, w.heap[8]? = some (.cells axCells t fr)
theorem AxTab.below {w w' : World} (h : AxTab w) (hb : Below w.heap.size w w') : AxTab w' := by
 obtain ⟨t, fr, h⟩ := h
 exact ⟨t, fr, (hb.block _ (Array.getElem?_eq_some_iff.1 h).1).trans h⟩
theorem AxTab.grow {w w' : World} {pb : Nat} (h : AxTab w) (hg : GrowA pb w w') (hp : 8 ≠ pb) : AxTab w' := by
 obtain ⟨t, fr, h⟩ := h
 exact ⟨t, fr, (hg.2.2.2.2 _ (Array.getElem?_eq_some_iff.1 h).1 hp).trans h⟩
theorem ax_index : ∀ (k : Nat), k < 13 → ∀ w, (Instr.index 156 (.agg axCells) (.int .i64 (k : Int))).run Tryz.prog w = .ok (.string (axN k)) w := by
 intro k hk
 have : k = 0 ∨ k = 1 ∨ k = 2 ∨ k = 3 ∨ k = 4 ∨ k = 5 ∨ k = 6 ∨ k = 7 ∨ k = 8 ∨ k = 9 ∨ k = 10 ∨ k = 11 ∨ k = 12 := by omega
 rcases this with rfl | rfl | rfl | rfl | rfl | rfl | rfl | rfl | rfl | rfl | rfl | rfl | rfl <;> exact fun _ => by kernel_rfl
def goF (N : Nat → ByteArray) (V : Nat → Int) (e : Int) (s : ByteArray) : Nat → Nat → Int
 | 0, _ => e
 | n + 1, k => if ((N k).toList == s.toList) = true then V k else goF N V e s n (k + 1)
theorem goF_skip {N : Nat → ByteArray} {V : Nat → Int} {e : Int} {s : ByteArray} : ∀ (k m : Nat), (∀ j, j < k → ((N j).toList == s.toList) = false) → goF N V e s (k + m) 0 = goF N V e s m k := by
 intro k
 induction k with
 | zero => intro m h; simp
 | succ k ih =>
  intro m h
  have := ih (m + 1) (fun j hj => h j (by omega))
  rw [show k + 1 + m = k + (m + 1) by omega, this]
  simp only [goF]
  rw [h k (by omega)]
  rfl
theorem goF_at {N : Nat → ByteArray} {V : Nat → Int} {e : Int} {s : ByteArray} {n k : Nat} (hk : k < n) (h : ∀ j, j < k → ((N j).toList == s.toList) = false) (hy : ((N k).toList == s.toList) = true) : goF N V e s n 0 = V k := by
 obtain ⟨m, rfl⟩ : ∃ m, n = k + (m + 1) := ⟨n - k - 1, by omega⟩
 rw [goF_skip k (m + 1) h]
 simp only [goF]
 rw [hy]
 rfl
theorem goF_none {N : Nat → ByteArray} {V : Nat → Int} {e : Int} {s : ByteArray} {n : Nat} (h : ∀ j, j < n → ((N j).toList == s.toList) = false) : goF N V e s n 0 = e := by
 have := goF_skip (V := V) (e := e) n 0 h
 rwa [Nat.add_zero] at this
def opOf (s : ByteArray) : Int := goF opN opB (-1) s 21 0
def ktOf (s : ByteArray) : Int := goF ktN (fun k => (k : Int)) 0 s 4 0
def axOf (s : ByteArray) : Int := goF axN (fun k => (k : Int)) 0 s 13 0
def opNext (u : Tok) (bd : Int) : Bool := (u.kind == 1 || u.kind == 5) && (decide (0 ≤ opOf u.s) && (opOf u.s == bd))
theorem opB_pos : ∀ k, 0 ≤ opB k := by
 intro k
 by_cases h : k < 21
 · exact (by decide : ∀ k : Fin 21, 0 ≤ opB k) ⟨k, h⟩
 · show 0 ≤ opBinds.getD k 0
   rw [List.getD_eq_getElem?_getD, List.getElem?_eq_none (by simp [opBinds]; omega)]
   simp
set_option maxHeartbeats 1600000 in
theorem kindTestOf_is (s : ByteArray) (w : World) (ho : KtTab w) : Calls Tryz.prog 128 #[.string s] w fun e w' => e = .returned (.int .i64 (ktOf s)) ∧ Below w.heap.size w w' := by
 obtain ⟨tt, fr, hgt⟩ := ho
 have HGT : Hid (w.heap[9]? = some (.cells ktCells tt fr)) := hgt
 clear hgt
 obtain ⟨R, hR⟩ : ∃ R, R = ktOf s := ⟨_, rfl⟩
 rw [← hR]
 replace hR : Hid (R = ktOf s) := hR
 go_enter Tryz.func128, Tryz.ntmps128
 go_wp2_with (refine wpList_load_row rfl 157 _ rfl 9 rfl tt _ fr _ HGT.out Tryz.underlying157 rfl (by kernel_rfl) ?_)
 go_loopw [6] (fun i wr => ∃ k : Nat, k ≤ 4 ∧ i = .int .i64 k ∧ Below w.heap.size w wr ∧ Hid (∀ j, j < k → ((ktN j).toList == s.toList) = false)) (fun i _ => 4 - (intOf i).toNat)
 case atStart => exact ⟨0, by omega, rfl, Below.refl _ _, fun j hj => absurd hj (by omega)⟩
 case round =>
  obtain ⟨k, hk, rfl, hbw, HN⟩ := hrel
  have HBW : Hid (Below w.heap.size w wr) := hbw
  clear hbw
  by_cases hlt : k < 4
  · have hI := kt_index k hlt
    have hki : (k : Int) < 4 := by omega
    cases hy : (ktN k).toList == s.toList
    · have HN2 : Hid (∀ j, j < k + 1 → ((ktN j).toList == s.toList) = false) := fun j hj => by
       by_cases e : j = k
       · rw [e]; exact hy
       · exact HN.out j (by omega)
      generalize ktN k = on at hI hy
      go_wp2
      go_roundw
      case rel => exact ⟨k + 1, by omega, by go_num, (HBW.out), HN2⟩
      case measure => simp [intOf]; omega
    · have HV : Hid (R = (k : Int)) := hR.out.trans (goF_at hlt HN.out hy)
      generalize ktN k = on at hI hy
      go_wp2
      go_ret
      exact ⟨by rw [HV.out]; rfl, by first | exact HBW.out | exact HBW.out.alloc HBW.out.size _⟩
  · have hki : ¬ ((k : Int) < 4) := by omega
    obtain rfl : k = 4 := by omega
    have HV : Hid (R = 0) := hR.out.trans (goF_none HN.out)
    go_wp2
    go_ret
    exact ⟨by rw [HV.out]; rfl, HBW.out⟩
set_option maxHeartbeats 1600000 in
theorem axisOf_is (s : ByteArray) (w : World) (ho : AxTab w) : Calls Tryz.prog 127 #[.string s] w fun e w' => e = .returned (.int .i64 (axOf s)) ∧ Below w.heap.size w w' := by
 obtain ⟨tt, fr, hgt⟩ := ho
 have HGT : Hid (w.heap[8]? = some (.cells axCells tt fr)) := hgt
 clear hgt
 obtain ⟨R, hR⟩ : ∃ R, R = axOf s := ⟨_, rfl⟩
 rw [← hR]
 replace hR : Hid (R = axOf s) := hR
 go_enter Tryz.func127, Tryz.ntmps127
 go_wp2_with (refine wpList_load_row rfl 156 _ rfl 8 rfl tt _ fr _ HGT.out Tryz.underlying156 rfl (by kernel_rfl) ?_)
 go_loopw [6] (fun i wr => ∃ k : Nat, k ≤ 13 ∧ i = .int .i64 k ∧ Below w.heap.size w wr ∧ Hid (∀ j, j < k → ((axN j).toList == s.toList) = false)) (fun i _ => 13 - (intOf i).toNat)
 case atStart => exact ⟨0, by omega, rfl, Below.refl _ _, fun j hj => absurd hj (by omega)⟩
 case round =>
  obtain ⟨k, hk, rfl, hbw, HN⟩ := hrel
  have HBW : Hid (Below w.heap.size w wr) := hbw
  clear hbw
  by_cases hlt : k < 13
  · have hI := ax_index k hlt
    have hki : (k : Int) < 13 := by omega
    cases hy : (axN k).toList == s.toList
    · have HN2 : Hid (∀ j, j < k + 1 → ((axN j).toList == s.toList) = false) := fun j hj => by
       by_cases e : j = k
       · rw [e]; exact hy
       · exact HN.out j (by omega)
      generalize axN k = on at hI hy
      go_wp2
      go_roundw
      case rel => exact ⟨k + 1, by omega, by go_num, (HBW.out), HN2⟩
      case measure => simp [intOf]; omega
    · have HV : Hid (R = (k : Int)) := hR.out.trans (goF_at hlt HN.out hy)
      generalize axN k = on at hI hy
      go_wp2
      go_ret
      exact ⟨by rw [HV.out]; rfl, by first | exact HBW.out | exact HBW.out.alloc HBW.out.size _⟩
  · have hki : ¬ ((k : Int) < 13) := by omega
    obtain rfl : k = 13 := by omega
    have HV : Hid (R = 0) := hR.out.trans (goF_none HN.out)
    go_wp2
    go_ret
    exact ⟨by rw [HV.out]; rfl, HBW.out⟩
open Go.RowKit
def singleB (u : Tok) : Bool := eqT u ⟨5, ⟨#[45]⟩, 0⟩ || eqT u ⟨5, ⟨#[47]⟩, 0⟩ || eqT u ⟨5, ⟨#[47, 47]⟩, 0⟩ || stepB u
set_option maxHeartbeats 800000 in
theorem singleBegins_m0 {w : World} {pb b c : Nat} {T : List Tok} {st : Pst} (h : PaS w pb b c T st) (hT : T.length ≤ 200) (hat : st.at' ≤ 300) {us : ByteArray} {uk un : Int} (hu : seeM T st 0 = ⟨uk, us, un⟩) (c0 : eqT ⟨uk, us, un⟩ ⟨5, ⟨#[45]⟩, 0⟩ = true) :
 Calls Tryz.prog 43 #[.pointer (some ⟨pb, 0, none⟩)] w fun e w' => e = .returned (.bool true) ∧ Below w.heap.size w w' := by
 have CS : Hid (∀ W, Below w.heap.size w W → Calls Tryz.prog 65 #[.pointer (some ⟨pb, 0, none⟩), .int .i64 0] W fun e w' => e = .returned (.agg #[.int .i64 uk, .string us, .int .i64 un]) ∧ Below w.heap.size w w') := fun W hW => (see_lit (h.below hW) 0 (by omega) hT hat hu).mono fun e w' ⟨k1, k2⟩ => ⟨k1, hW.trans (k2.mono hW.size)⟩
 have E0 := eqT_run (k := uk) (s := us) (n := un) (k' := 5) (s' := ⟨#[45]⟩) (n' := 0) c0
 have HB0 : Hid (Below w.heap.size w w) := Below.refl _ _
 clear h
 go_enter Tryz.func43, Tryz.ntmps43
 go_wp2_with (first
  | (go_at_call 65; have HNX := HB0; (refine (CS.out _ HB0.out).mono ?_); rintro e w1 ⟨rfl, hb⟩; have HB1 : Hid (Below w.heap.size w w1) := hb; clear hb HNX HB0)
  | (go_at_call 66; have HNX := HB1; refine (mark_is _ _).mono ?_; rintro e w2 ⟨rfl, hb⟩; have HB2 : Hid (Below w.heap.size w w2) := (HB1.out.trans (hb.mono HB1.out.size)); clear hb HNX HB1))
 go_ret
 exact ⟨rfl, by first | exact HB2.out | exact HB2.out.alloc HB2.out.size _⟩
set_option maxHeartbeats 800000 in
theorem singleBegins_m1 {w : World} {pb b c : Nat} {T : List Tok} {st : Pst} (h : PaS w pb b c T st) (hT : T.length ≤ 200) (hat : st.at' ≤ 300) {us : ByteArray} {uk un : Int} (hu : seeM T st 0 = ⟨uk, us, un⟩) (c0 : eqT ⟨uk, us, un⟩ ⟨5, ⟨#[45]⟩, 0⟩ = false) (c1 : eqT ⟨uk, us, un⟩ ⟨5, ⟨#[47]⟩, 0⟩ = true) :
 Calls Tryz.prog 43 #[.pointer (some ⟨pb, 0, none⟩)] w fun e w' => e = .returned (.bool true) ∧ Below w.heap.size w w' := by
 have CS : Hid (∀ W, Below w.heap.size w W → Calls Tryz.prog 65 #[.pointer (some ⟨pb, 0, none⟩), .int .i64 0] W fun e w' => e = .returned (.agg #[.int .i64 uk, .string us, .int .i64 un]) ∧ Below w.heap.size w w') := fun W hW => (see_lit (h.below hW) 0 (by omega) hT hat hu).mono fun e w' ⟨k1, k2⟩ => ⟨k1, hW.trans (k2.mono hW.size)⟩
 have E0 := eqT_run (k := uk) (s := us) (n := un) (k' := 5) (s' := ⟨#[45]⟩) (n' := 0) c0
 have E1 := eqT_run (k := uk) (s := us) (n := un) (k' := 5) (s' := ⟨#[47]⟩) (n' := 0) c1
 have HB0 : Hid (Below w.heap.size w w) := Below.refl _ _
 clear h
 go_enter Tryz.func43, Tryz.ntmps43
 go_wp2_with (first
  | (go_at_call 65; have HNX := HB0; (refine (CS.out _ HB0.out).mono ?_); rintro e w1 ⟨rfl, hb⟩; have HB1 : Hid (Below w.heap.size w w1) := hb; clear hb HNX HB0)
  | (go_at_call 66; have HNX := HB1; refine (mark_is _ _).mono ?_; rintro e w2 ⟨rfl, hb⟩; have HB2 : Hid (Below w.heap.size w w2) := (HB1.out.trans (hb.mono HB1.out.size)); clear hb HNX HB1)
  | (go_at_call 66; have HNX := HB2; refine (mark_is _ _).mono ?_; rintro e w3 ⟨rfl, hb⟩; have HB3 : Hid (Below w.heap.size w w3) := (HB2.out.trans (hb.mono HB2.out.size)); clear hb HNX HB2))
 go_ret
 exact ⟨rfl, by first | exact HB3.out | exact HB3.out.alloc HB3.out.size _⟩
set_option maxHeartbeats 800000 in
theorem singleBegins_m2 {w : World} {pb b c : Nat} {T : List Tok} {st : Pst} (h : PaS w pb b c T st) (hT : T.length ≤ 200) (hat : st.at' ≤ 300) {us : ByteArray} {uk un : Int} (hu : seeM T st 0 = ⟨uk, us, un⟩) (c0 : eqT ⟨uk, us, un⟩ ⟨5, ⟨#[45]⟩, 0⟩ = false) (c1 : eqT ⟨uk, us, un⟩ ⟨5, ⟨#[47]⟩, 0⟩ = false) (c2 : eqT ⟨uk, us, un⟩ ⟨5, ⟨#[47, 47]⟩, 0⟩ = true) :
 Calls Tryz.prog 43 #[.pointer (some ⟨pb, 0, none⟩)] w fun e w' => e = .returned (.bool true) ∧ Below w.heap.size w w' := by
 have CS : Hid (∀ W, Below w.heap.size w W → Calls Tryz.prog 65 #[.pointer (some ⟨pb, 0, none⟩), .int .i64 0] W fun e w' => e = .returned (.agg #[.int .i64 uk, .string us, .int .i64 un]) ∧ Below w.heap.size w w') := fun W hW => (see_lit (h.below hW) 0 (by omega) hT hat hu).mono fun e w' ⟨k1, k2⟩ => ⟨k1, hW.trans (k2.mono hW.size)⟩
 have E0 := eqT_run (k := uk) (s := us) (n := un) (k' := 5) (s' := ⟨#[45]⟩) (n' := 0) c0
 have E1 := eqT_run (k := uk) (s := us) (n := un) (k' := 5) (s' := ⟨#[47]⟩) (n' := 0) c1
 have E2 := eqT_run (k := uk) (s := us) (n := un) (k' := 5) (s' := ⟨#[47, 47]⟩) (n' := 0) c2
 have HB0 : Hid (Below w.heap.size w w) := Below.refl _ _
 clear h
 go_enter Tryz.func43, Tryz.ntmps43
 go_wp2_with (first
  | (go_at_call 65; have HNX := HB0; (refine (CS.out _ HB0.out).mono ?_); rintro e w1 ⟨rfl, hb⟩; have HB1 : Hid (Below w.heap.size w w1) := hb; clear hb HNX HB0)
  | (go_at_call 66; have HNX := HB1; refine (mark_is _ _).mono ?_; rintro e w2 ⟨rfl, hb⟩; have HB2 : Hid (Below w.heap.size w w2) := (HB1.out.trans (hb.mono HB1.out.size)); clear hb HNX HB1)
  | (go_at_call 66; have HNX := HB2; refine (mark_is _ _).mono ?_; rintro e w3 ⟨rfl, hb⟩; have HB3 : Hid (Below w.heap.size w w3) := (HB2.out.trans (hb.mono HB2.out.size)); clear hb HNX HB2)
  | (go_at_call 66; have HNX := HB3; refine (mark_is _ _).mono ?_; rintro e w4 ⟨rfl, hb⟩; have HB4 : Hid (Below w.heap.size w w4) := (HB3.out.trans (hb.mono HB3.out.size)); clear hb HNX HB3))
 go_ret
 exact ⟨rfl, by first | exact HB4.out | exact HB4.out.alloc HB4.out.size _⟩
set_option maxHeartbeats 800000 in
theorem singleBegins_m3 {w : World} {pb b c : Nat} {T : List Tok} {st : Pst} (h : PaS w pb b c T st) (hT : T.length ≤ 200) (hat : st.at' ≤ 300) {us : ByteArray} {uk un : Int} (hu : seeM T st 0 = ⟨uk, us, un⟩) (c0 : eqT ⟨uk, us, un⟩ ⟨5, ⟨#[45]⟩, 0⟩ = false) (c1 : eqT ⟨uk, us, un⟩ ⟨5, ⟨#[47]⟩, 0⟩ = false) (c2 : eqT ⟨uk, us, un⟩ ⟨5, ⟨#[47, 47]⟩, 0⟩ = false) :
 Calls Tryz.prog 43 #[.pointer (some ⟨pb, 0, none⟩)] w fun e w' => e = .returned (.bool (stepB ⟨uk, us, un⟩)) ∧ Below w.heap.size w w' := by
 have CS : Hid (∀ W, Below w.heap.size w W → Calls Tryz.prog 65 #[.pointer (some ⟨pb, 0, none⟩), .int .i64 0] W fun e w' => e = .returned (.agg #[.int .i64 uk, .string us, .int .i64 un]) ∧ Below w.heap.size w w') := fun W hW => (see_lit (h.below hW) 0 (by omega) hT hat hu).mono fun e w' ⟨k1, k2⟩ => ⟨k1, hW.trans (k2.mono hW.size)⟩
 have CB : Hid (∀ W, Below w.heap.size w W → Calls Tryz.prog 67 #[.pointer (some ⟨pb, 0, none⟩)] W fun e w' => e = .returned (.bool (stepB ⟨uk, us, un⟩)) ∧ Below W.heap.size W w') := fun W hW => by have := stepBegins_any (h.below hW) hT hat; rwa [hu] at this
 generalize stepB ⟨uk, us, un⟩ = sb at CB ⊢
 have E0 := eqT_run (k := uk) (s := us) (n := un) (k' := 5) (s' := ⟨#[45]⟩) (n' := 0) c0
 have E1 := eqT_run (k := uk) (s := us) (n := un) (k' := 5) (s' := ⟨#[47]⟩) (n' := 0) c1
 have E2 := eqT_run (k := uk) (s := us) (n := un) (k' := 5) (s' := ⟨#[47, 47]⟩) (n' := 0) c2
 have HB0 : Hid (Below w.heap.size w w) := Below.refl _ _
 clear h
 go_enter Tryz.func43, Tryz.ntmps43
 go_wp2_with (first
  | (go_at_call 65; have HNX := HB0; (refine (CS.out _ HB0.out).mono ?_); rintro e w1 ⟨rfl, hb⟩; have HB1 : Hid (Below w.heap.size w w1) := hb; clear hb HNX HB0)
  | (go_at_call 66; have HNX := HB1; refine (mark_is _ _).mono ?_; rintro e w2 ⟨rfl, hb⟩; have HB2 : Hid (Below w.heap.size w w2) := (HB1.out.trans (hb.mono HB1.out.size)); clear hb HNX HB1)
  | (go_at_call 66; have HNX := HB2; refine (mark_is _ _).mono ?_; rintro e w3 ⟨rfl, hb⟩; have HB3 : Hid (Below w.heap.size w w3) := (HB2.out.trans (hb.mono HB2.out.size)); clear hb HNX HB2)
  | (go_at_call 66; have HNX := HB3; refine (mark_is _ _).mono ?_; rintro e w4 ⟨rfl, hb⟩; have HB4 : Hid (Below w.heap.size w w4) := (HB3.out.trans (hb.mono HB3.out.size)); clear hb HNX HB3)
  | (go_at_call 67; (refine (CB.out _ HB4.out).mono ?_); rintro e w5 ⟨rfl, hb⟩; have HB5 : Hid (Below w.heap.size w w5) := (HB4.out.trans (hb.mono HB4.out.size)); clear hb HB4))
 go_ret
 exact ⟨rfl, by first | exact HB5.out | exact HB5.out.alloc HB5.out.size _⟩
theorem singleBegins_any {w : World} {pb b c : Nat} {T : List Tok} {st : Pst} (h : PaS w pb b c T st) (hT : T.length ≤ 200) (hat : st.at' ≤ 300) : Calls Tryz.prog 43 #[.pointer (some ⟨pb, 0, none⟩)] w fun e w' => e = .returned (.bool (singleB (seeM T st 0))) ∧ Below w.heap.size w w' := by
 obtain ⟨⟨uk, us, un⟩, hu⟩ : ∃ u, seeM T st 0 = u := ⟨_, rfl⟩
 rw [hu]
 unfold singleB
 cases c0 : eqT ⟨uk, us, un⟩ ⟨5, ⟨#[45]⟩, 0⟩
 case true => simpa using singleBegins_m0 h hT hat hu c0
 cases c1 : eqT ⟨uk, us, un⟩ ⟨5, ⟨#[47]⟩, 0⟩
 case true => simpa using singleBegins_m1 h hT hat hu c0 c1
 cases c2 : eqT ⟨uk, us, un⟩ ⟨5, ⟨#[47, 47]⟩, 0⟩
 case true => simpa using singleBegins_m2 h hT hat hu c0 c1 c2
 simpa using singleBegins_m3 h hT hat hu c0 c1 c2
open Go.RowKit
theorem tk_word {l : List UInt8} (h : lett (bAt l 0) = true) (hl : 0 < l.length) : tk l = nameR 1 (l.drop 0) 0 := by
 have := wl_pos h hl
 unfold tk nameR
 rw [if_pos h, List.drop_zero, Nat.zero_add]
 by_cases h1 : wl l true ≤ 20
 · rw [if_pos h1, if_pos ⟨this, h1⟩]
 · rw [if_neg h1, if_neg (fun h => h1 h.2)]
theorem lett_no {c : Int} (h : c = 36 ∨ c = 34 ∨ dgt c = true) : lett c = false := by
 rw [Bool.eq_false_iff]
 intro h'
 have h2 := of_decide_eq_true h'
 rcases h with h | h | h
 · omega
 · omega
 · have := dgt_iff.1 h; omega
theorem tk_var {l : List UInt8} (h : bAt l 0 = 36) : tk l = nameR 4 (l.drop 1) 1 := by
 unfold tk nameR
 rw [if_neg (by rw [lett_no (.inl h)]; decide), if_pos h]
theorem tk_num {l : List UInt8} (h : dgt (bAt l 0) = true) : tk l = numR l := by
 unfold tk numR
 rw [if_neg (by rw [lett_no (.inr (.inr h))]; decide), if_neg (by have := dgt_iff.1 h; omega), if_pos h]
theorem dgt_no {c : Int} (h : c = 34 ∨ c = 36) : dgt c = false := by
 rw [Bool.eq_false_iff]
 intro h'
 have := dgt_iff.1 h'
 omega
theorem tk_quo {l : List UInt8} (h : bAt l 0 = 34) : tk l = quoR (l.drop 1) := by
 unfold tk quoR
 rw [if_neg (by rw [lett_no (.inr (.inl h))]; decide), if_neg (by omega), if_neg (by rw [dgt_no (.inl h)]; decide), if_pos h]
theorem tk_mark {l : List UInt8} (h1 : lett (bAt l 0) = false) (h2 : ¬ bAt l 0 = 36) (h3 : dgt (bAt l 0) = false) (h4 : ¬ bAt l 0 = 34) : tk l = if fm l = [] then (4, tok0, 0) else (0, ⟨5, bs (fm l), 0⟩, (fm l).length) := by
 unfold tk
 rw [if_neg (by rw [h1]; decide), if_neg h2, if_neg (by rw [h3]; decide), if_neg h4]
set_option maxHeartbeats 1600000 in
theorem firstToken_any (s : ByteArray) (w : World) (hs : s.size ≤ 1000) (h0 : 1 ≤ s.size) (hT : Tabs w) (hm : MaxL w) (hM : MarkTab w) (hg : 0 < w.heap.size) :
 Calls Tryz.prog 15 #[.string s] w fun e w' => e = .returned (resV (tk s.data.toList)) ∧ Below w.heap.size w w' := by
 have h0' : 0 < s.size := h0
 have hbe : bAt s.data.toList 0 = (s[0].toNat : Int) := by rw [← byteAt_bAt, byteAt_eq s 0 h0']
 have hBel : ∀ o, Below w.heap.size w (w.alloc o) := fun o => (Below.refl _ _).alloc (Nat.le_refl _) o
 by_cases c1 : lett (s[0].toNat : Int) = true
 · have HR : Hid (tk s.data.toList = nameR 1 (s.data.toList.drop 0) 0) := tk_word (by rw [hbe]; exact c1) h0'
   have CN : Hid (∀ o, Calls Tryz.prog 29 #[.int .i64 1, .string s, .int .i64 0] (w.alloc o) fun e w' => e = .returned (resV (nameR 1 (s.data.toList.drop 0) 0)) ∧ Below (w.alloc o).heap.size (w.alloc o) w') := fun o => name_any 1 s 0 _ hs (Nat.zero_le _)
   generalize nameR 1 (s.data.toList.drop 0) 0 = r at *
   obtain ⟨E, ⟨K, S, N⟩, Z⟩ := r
   simp only [resV, tokV] at CN
   clear hT hm hM hbe hBel
   go_enter Tryz.func15, Tryz.ntmps15
   go_wp2_with (first
    | (go_at_call 28; refine (isLetter_any _ _).mono ?_; rintro e w' ⟨rfl, rfl⟩)
    | (go_at_call 29; refine (CN.out _).mono ?_; rintro e w1 ⟨rfl, hb1⟩; have HB1 : Hid (Below w.heap.size w w1) := ((Below.refl _ _).alloc (Nat.le_refl _) _).trans (hb1.mono (by simp)); obtain ⟨hc1, hf1⟩ := bcell hb1; clear hb1))
   exact bodyPost_ret (v := .tuple #[.agg #[.int .i64 K, .string S, .int .i64 N], .int .i64 Z, .int .i64 E]) (by simp [results, Tryz.results15, go_sem, hc1]) rfl ⟨by rw [HR.out]; rfl, ((HB1.out.setCell (by simp) _).setCell (by simp) _).setCell (by simp) _⟩
 have c1' : lett (s[0].toNat : Int) = false := by simpa using c1
 clear c1
 by_cases c2 : (s[0].toNat : Int) = 36
 · have HR : Hid (tk s.data.toList = nameR 4 (s.data.toList.drop 1) 1) := tk_var (by rw [hbe]; exact c2)
   have CN : Hid (∀ o, Calls Tryz.prog 29 #[.int .i64 4, .string s, .int .i64 1] (w.alloc o) fun e w' => e = .returned (resV (nameR 4 (s.data.toList.drop 1) 1)) ∧ Below (w.alloc o).heap.size (w.alloc o) w') := fun o => name_any 4 s 1 _ hs h0
   generalize nameR 4 (s.data.toList.drop 1) 1 = r at *
   obtain ⟨E, ⟨K, S, N⟩, Z⟩ := r
   simp only [resV, tokV] at CN
   have c2' : ((s[0].toNat : Int) == 36) = true := by simpa using c2
   clear hT hm hM hbe hBel c2
   go_enter Tryz.func15, Tryz.ntmps15
   go_wp2_with (first
    | (go_at_call 28; refine (isLetter_any _ _).mono ?_; rintro e w' ⟨rfl, rfl⟩)
    | (go_at_call 29; refine (CN.out _).mono ?_; rintro e w1 ⟨rfl, hb1⟩; have HB1 : Hid (Below w.heap.size w w1) := ((Below.refl _ _).alloc (Nat.le_refl _) _).trans (hb1.mono (by simp)); obtain ⟨hc1, hf1⟩ := bcell hb1; clear hb1))
   exact bodyPost_ret (v := .tuple #[.agg #[.int .i64 K, .string S, .int .i64 N], .int .i64 Z, .int .i64 E]) (by simp [results, Tryz.results15, go_sem, hc1]) rfl ⟨by rw [HR.out]; rfl, ((HB1.out.setCell (by simp) _).setCell (by simp) _).setCell (by simp) _⟩
 have c2' : ((s[0].toNat : Int) == 36) = false := by simpa using c2
 by_cases c3 : dgt (s[0].toNat : Int) = true
 · have HR : Hid (tk s.data.toList = numR s.data.toList) := tk_num (by rw [hbe]; exact c3)
   have CN : Hid (∀ o, Calls Tryz.prog 31 #[.string s] (w.alloc o) fun e w' => e = .returned (resV (numR s.data.toList)) ∧ Below (w.alloc o).heap.size (w.alloc o) w') := fun o => number_any s _ hs
   generalize numR s.data.toList = r at *
   obtain ⟨E, ⟨K, S, N⟩, Z⟩ := r
   simp only [resV, tokV] at CN
   clear hT hm hM hbe hBel c2
   go_enter Tryz.func15, Tryz.ntmps15
   go_wp2_with (first
    | (go_at_call 28; refine (isLetter_any _ _).mono ?_; rintro e w' ⟨rfl, rfl⟩)
    | (go_at_call 30; refine (isDigit_any _ _).mono ?_; rintro e w' ⟨rfl, rfl⟩)
    | (go_at_call 31; refine (CN.out _).mono ?_; rintro e w1 ⟨rfl, hb1⟩; have HB1 : Hid (Below w.heap.size w w1) := ((Below.refl _ _).alloc (Nat.le_refl _) _).trans (hb1.mono (by simp)); obtain ⟨hc1, hf1⟩ := bcell hb1; clear hb1))
   exact bodyPost_ret (v := .tuple #[.agg #[.int .i64 K, .string S, .int .i64 N], .int .i64 Z, .int .i64 E]) (by simp [results, Tryz.results15, go_sem, hc1]) rfl ⟨by rw [HR.out]; rfl, ((HB1.out.setCell (by simp) _).setCell (by simp) _).setCell (by simp) _⟩
 have c3' : dgt (s[0].toNat : Int) = false := by simpa using c3
 clear c3
 by_cases c4 : (s[0].toNat : Int) = 34
 · have HR : Hid (tk s.data.toList = quoR (s.data.toList.drop 1)) := tk_quo (by rw [hbe]; exact c4)
   have CN : Hid (∀ o, Calls Tryz.prog 32 #[.string s] (w.alloc o) fun e w' => e = .returned (resV (quoR (s.data.toList.drop 1))) ∧ Below (w.alloc o).heap.size (w.alloc o) w') := fun o => quoted_any s _ hs h0 (Utf8Tabs_below hT (hBel o)) (hm.below (hBel o))
   generalize quoR (s.data.toList.drop 1) = r at *
   obtain ⟨E, ⟨K, S, N⟩, Z⟩ := r
   simp only [resV, tokV] at CN
   have c4' : ((s[0].toNat : Int) == 34) = true := by simpa using c4
   clear hT hm hM hbe hBel c2 c4
   go_enter Tryz.func15, Tryz.ntmps15
   go_wp2_with (first
    | (go_at_call 28; refine (isLetter_any _ _).mono ?_; rintro e w' ⟨rfl, rfl⟩)
    | (go_at_call 30; refine (isDigit_any _ _).mono ?_; rintro e w' ⟨rfl, rfl⟩)
    | (go_at_call 32; refine (CN.out _).mono ?_; rintro e w1 ⟨rfl, hb1⟩; have HB1 : Hid (Below w.heap.size w w1) := ((Below.refl _ _).alloc (Nat.le_refl _) _).trans (hb1.mono (by simp)); obtain ⟨hc1, hf1⟩ := bcell hb1; clear hb1))
   exact bodyPost_ret (v := .tuple #[.agg #[.int .i64 K, .string S, .int .i64 N], .int .i64 Z, .int .i64 E]) (by simp [results, Tryz.results15, go_sem, hc1]) rfl ⟨by rw [HR.out]; rfl, ((HB1.out.setCell (by simp) _).setCell (by simp) _).setCell (by simp) _⟩
 have c4' : ((s[0].toNat : Int) == 34) = false := by simpa using c4
 have HF : Hid (tk s.data.toList = if fm s.data.toList = [] then (4, tok0, 0) else (0, ⟨5, bs (fm s.data.toList), 0⟩, (fm s.data.toList).length)) := tk_mark (by rw [hbe]; exact c1') (by rw [hbe]; exact c2) (by rw [hbe]; exact c3') (by rw [hbe]; exact c4)
 have CN : Hid (∀ o, Calls Tryz.prog 33 #[.string s] (w.alloc o) fun e w' => e = .returned (.string (bs (fm s.data.toList))) ∧ w' = w.alloc o) := fun o => firstMark_any s _ (hM.below (hBel o) hg)
 have hsz : (bs (fm s.data.toList)).size = (fm s.data.toList).length := bs_size _
 have hln : (fm s.data.toList).length ≤ 1000 := by
  by_cases hf : fm s.data.toList = []
  · rw [hf]; simp
  · have := (fm_len hf).2
    have e : s.data.toList.length = s.size := rfl
    omega
 generalize tk s.data.toList = F at HF
 clear hT hm hM hbe hBel c2 c4
 by_cases hf : fm s.data.toList = []
 · have HR : Hid (F = (4, tok0, 0)) := HF.out.trans (if_pos hf)
   have he : (bs (fm s.data.toList)).toList.isEmpty = true := isEmptyT_yes (by rw [hsz, hf]; rfl)
   clear HF hf hsz hln
   generalize bs (fm s.data.toList) = T at *
   go_enter Tryz.func15, Tryz.ntmps15
   go_wp2_with (first
    | (go_at_call 28; refine (isLetter_any _ _).mono ?_; rintro e w' ⟨rfl, rfl⟩)
    | (go_at_call 30; refine (isDigit_any _ _).mono ?_; rintro e w' ⟨rfl, rfl⟩)
    | (go_at_call 33; refine (CN.out _).mono ?_; rintro e w' ⟨rfl, rfl⟩))
   exact bodyPost_ret (v := .tuple #[.agg #[.int .i64 0, .string ⟨#[]⟩, .int .i64 0], .int .i64 0, .int .i64 4]) (by simp [results, Tryz.results15, go_sem]) rfl ⟨by rw [HR.out]; simp [resV, tokV, tok0], by first | exact (Below.refl _ _).alloc (Nat.le_refl _) _ | exact ((((Below.refl _ _).alloc (Nat.le_refl _) _).setCell (by simp) _).setCell (by simp) _).setCell (by simp) _⟩
 · have HR : Hid (F = (0, ⟨5, bs (fm s.data.toList), 0⟩, (bs (fm s.data.toList)).size)) := HF.out.trans ((if_neg hf).trans (by rw [hsz]))
   have he : (bs (fm s.data.toList)).toList.isEmpty = false := isEmptyT_no (by rw [hsz]; intro e; exact hf (List.eq_nil_of_length_eq_zero e))
   have hT' : (bs (fm s.data.toList)).size ≤ 1000 := by omega
   clear HF hf hsz hln
   generalize bs (fm s.data.toList) = T at *
   go_enter Tryz.func15, Tryz.ntmps15
   go_wp2_with (first
    | (go_at_call 28; refine (isLetter_any _ _).mono ?_; rintro e w' ⟨rfl, rfl⟩)
    | (go_at_call 30; refine (isDigit_any _ _).mono ?_; rintro e w' ⟨rfl, rfl⟩)
    | (go_at_call 33; refine (CN.out _).mono ?_; rintro e w' ⟨rfl, rfl⟩))
   exact bodyPost_ret (v := .tuple #[.agg #[.int .i64 5, .string T, .int .i64 0], .int .i64 T.size, .int .i64 0]) (by simp [results, Tryz.results15, go_sem]) rfl ⟨by rw [HR.out]; simp [resV, tokV], by first | exact (Below.refl _ _).alloc (Nat.le_refl _) _ | exact ((((Below.refl _ _).alloc (Nat.le_refl _) _).setCell (by simp) _).setCell (by simp) _).setCell (by simp) _⟩
open Go.RowKit
theorem ownsRow_below {w w' : World} {base : Nat} {e : TypeId} {size : Nat} {v : Value} {n : Nat} {xs : List Value} (h : w.ownsRow base e size v n xs) (hb : Below w.heap.size w w') : w'.ownsRow base e size v n xs := by
 refine ⟨h.1, ?_⟩
 rcases h.2 with h1 | ⟨g, cap, cur, h1, h2, h3, h4⟩
 · exact .inl h1
 · refine .inr ⟨g, cap, cur, h1, h2, ?_, h4⟩
   rw [hb.block g (Array.getElem?_eq_some_iff.1 h3).1]
   exact h3
theorem own_shape {w : World} {base : Nat} {e : TypeId} {size : Nat} {v : Value} {n : Nat} {xs : List Value} (h : w.ownsRow base e size v n xs) : ∃ a c, v = .slice a n c := by
 obtain ⟨_, ⟨rfl, rfl⟩ | ⟨b, cap, cur, rfl, _⟩⟩ := h
 · exact ⟨_, _, rfl⟩
 · exact ⟨_, _, rfl⟩
theorem infoTok : (Tryz.prog.info? 41).map (fun i => (i.zero, i.size, i.bytes)) = some (some (.agg #[.int .i64 0, .string ByteArray.empty, .int .i64 0]), 3, 32) := by kernel_rfl
theorem elemT_in {w : World} (t : Tok) : ∀ j u, (tokC t)[j]? = some u → (w.alloc (.cells #[.int .i64 t.kind, .string t.s, .int .i64 t.n] 41)).cell? ((⟨w.heap.size, 0, none⟩ : Addr).add j) = some u := by
 intro j u hj
 have hj3 : j < 3 := (List.getElem?_eq_some_iff.1 hj).1
 match j, hj3 with
 | 0, _ => simp [tokC] at hj; subst hj; simp [Addr.add]
 | 1, _ => simp [tokC] at hj; subst hj; simp [Addr.add]
 | 2, _ => simp [tokC] at hj; subst hj; simp [Addr.add]
theorem elemT_in2 {w : World} (o : Obj) (t : Tok) : ∀ j u, (tokC t)[j]? = some u → ((w.alloc o).alloc (.cells #[.int .i64 t.kind, .string t.s, .int .i64 t.n] 41)).cell? ((⟨w.heap.size + 1, 0, none⟩ : Addr).add j) = some u := by
 intro j u hj
 have := elemT_in (w := w.alloc o) t j u hj
 simpa using this
theorem elemT_one (t : Tok) : ∀ u ∈ tokC t, u.oneCell' = true := by
 intro u hu
 simp [tokC] at hu
 rcases hu with rfl | rfl | rfl <;> rfl
def ToksOwn (w : World) (base : Nat) (v : Value) (L : List Tok) : Prop := w.ownsRow base 41 3 v L.length (tokCells L)
theorem ToksOwn.below {w w' : World} {base : Nat} {v : Value} {L : List Tok} (h : ToksOwn w base v L) (hb : Below w.heap.size w w') : ToksOwn w' base v L := ownsRow_below h hb
theorem ToksOwn.nil (w : World) (base : Nat) : ToksOwn w base (.slice none 0 0) [] := World.ownsRow_nil _ _ _ _
theorem ToksOwn.mono {w : World} {base base' : Nat} {v : Value} {L : List Tok} (h : ToksOwn w base v L) (hb : base' ≤ base) : ToksOwn w base' v L := by
 obtain ⟨h1, h2⟩ := h
 refine ⟨h1, ?_⟩
 rcases h2 with h2 | ⟨g, cap, cur, k1, k2, k3⟩
 · exact .inl h2
 · exact .inr ⟨g, cap, cur, k1, by omega, k3⟩
set_option maxHeartbeats 3200000 in
theorem cut_is (s : ByteArray) (w : World) (hs : s.size ≤ maxLen) (hT : Tabs w) (hm : MaxL w) (hM : MarkTab w) (hg : 0 < w.heap.size) :
 Calls Tryz.prog 7 #[.string s] w fun e w' => ∃ v, e = .returned (.tuple #[v, .int .i64 (cutP s.data.toList), .int .i64 (cutE s.data.toList)]) ∧ ToksOwn w' w.heap.size v (cutT s.data.toList) ∧ Below w.heap.size w w' := by
 have hsl : s.data.toList.length = s.size := rfl
 unfold maxLen at hs
 by_cases h1 : 1000 < s.size
 · have HR : Hid (cutT s.data.toList = [] ∧ cutP s.data.toList = 0 ∧ cutE s.data.toList = 1) := cut_big h1
   clear hT hm hM hsl
   go_enter Tryz.func7, Tryz.ntmps7
   go_wp2
   refine bodyPost_ret (v := .tuple #[.slice none 0 0, .int .i64 0, .int .i64 1]) (by simp [results, Tryz.results7, go_sem]) rfl ?_
   exact ⟨_, by rw [HR.out.2.1, HR.out.2.2]; rfl, by rw [HR.out.1]; exact ToksOwn.nil _ _, Below.refl _ _⟩
 have hs1 : s.size ≤ 1000 := by omega
 have H1 : Hid (¬ 1000 < s.data.toList.length) := h1
 clear h1 hs
 have CB : Hid (∀ W, Calls Tryz.prog 14 #[.string s] W fun e w' => e = .returned (.int .i64 (bl s.data.toList)) ∧ Below W.heap.size W w') := fun W => blankBytes_any s W hs1
 have CA : Hid (∀ W a, a ≤ s.size → Calls Tryz.prog 14 #[.string (s.extract a s.size)] W fun e w' => e = .returned (.int .i64 (bl (s.data.toList.drop a))) ∧ Below W.heap.size W w') := fun W a ha => by
  have := blankBytes_any (s.extract a s.size) W (by simp; omega)
  rw [ext_drop] at this
  exact this
 have CF : Hid (∀ W a, Below w.heap.size w W → a < s.size → Calls Tryz.prog 15 #[.string (s.extract a s.size)] W fun e w' => e = .returned (resV (tk (s.data.toList.drop a))) ∧ Below W.heap.size W w') := fun W a hW ha => by
  have := firstToken_any (s.extract a s.size) W (by simp; omega) (by simp; omega) (Utf8Tabs_below hT hW) (hm.below hW) (hM.below hW hg) (Nat.lt_of_lt_of_le hg hW.size)
  rw [ext_drop] at this
  exact this
 obtain ⟨i0, hi0, hz0, hz1, hz2⟩ := info_parts infoTok
 have hbl0 : bl s.data.toList ≤ s.size := bl_le _
 clear hT hm hM hg
 go_enter Tryz.func7, Tryz.ntmps7
 go_wp2_with (go_at_call 14; refine (CB.out _).mono ?_; rintro e w0 ⟨rfl, hb0⟩)
 have HB0 : Hid (Below w.heap.size w w0) := hb0
 clear hb0
 go_loopw [5, 6] (fun v i wr => ∃ (a : Nat) (L : List Tok), a ≤ s.size ∧ i = .int .i64 a ∧ (a < s.size → bk (bAt s.data.toList a) = false) ∧ L.length ≤ 200 ∧ CutTo s.data.toList L a ∧ ToksOwn wr w.heap.size v L ∧ Below w.heap.size w wr) (fun _ i _ => s.size - (intOf i).toNat)
 case atStart =>
  refine ⟨bl s.data.toList, [], hbl0, rfl, fun h => bl_eq _ (by omega), by simp, ?_, ToksOwn.nil _ _, HB0.out⟩
  have := (CutTo.zero s.data.toList).blanks (k := bl s.data.toList) (by simp)
  simpa using this
 case round =>
  obtain ⟨a, L, ha, rfl, hbk, hL, hcut, hv, hbr⟩ := hrel
  have hshape := own_shape hv
  obtain ⟨va, vc, rfl⟩ := hshape
  have HV : Hid (ToksOwn wr w.heap.size (.slice va L.length vc) L) := hv
  have HB : Hid (Below w.heap.size w wr) := hbr
  have HCUT : Hid (CutTo s.data.toList L a) := hcut
  have HK : Hid (a < s.size → bk (bAt s.data.toList a) = false) := hbk
  have hzr : w.heap.size ≤ wr.heap.size := hbr.size
  clear hv hbr hcut hbk HB0 CB hbl0
  by_cases hlt : a < s.size
  · by_cases hfull : L.length = 200
    · have HR : Hid (cutT s.data.toList = [] ∧ cutP s.data.toList = a ∧ cutE s.data.toList = 1) := HCUT.out.full H1.out hlt (HK.out hlt) (by omega)
      have hq : ((L.length : Int) == 200) = true := by simp; omega
      clear hfull
      go_wp2
      refine bodyPost_ret (v := .tuple #[.slice none 0 0, .int .i64 a, .int .i64 1]) (by simp [results, Tryz.results7, go_sem]) rfl ?_
      exact ⟨_, by rw [HR.out.2.1, HR.out.2.2], by rw [HR.out.1]; exact ToksOwn.nil _ _, HB.out⟩
    · have hq : ((L.length : Int) == 200) = false := by simp; omega
      have CF1 : Hid (Calls Tryz.prog 15 #[.string (s.extract a s.size)] wr fun e w' => e = .returned (resV (tk (s.data.toList.drop a))) ∧ Below wr.heap.size wr w') := CF.out wr a HB.out hlt
      have HER : Hid (¬ (tk (s.data.toList.drop a)).1 = 0 → cutT s.data.toList = [] ∧ cutP s.data.toList = a ∧ cutE s.data.toList = (tk (s.data.toList.drop a)).1) := fun h => HCUT.out.err H1.out hlt (HK.out hlt) (by omega) h
      have HTK : Hid ((tk (s.data.toList.drop a)).1 = 0 → CutTo s.data.toList (L ++ [(tk (s.data.toList.drop a)).2.1]) (a + (tk (s.data.toList.drop a)).2.2)) := fun h => HCUT.out.tok hlt (HK.out hlt) (by omega) h
      have HSZ : Hid ((tk (s.data.toList.drop a)).1 = 0 → 1 ≤ (tk (s.data.toList.drop a)).2.2 ∧ (tk (s.data.toList.drop a)).2.2 ≤ s.size - a) := fun h => by
       have := tk_size (l := s.data.toList.drop a) (by rw [List.length_drop]; omega) h
       rw [List.length_drop] at this
       exact this
      clear CF HK HCUT
      generalize tk (s.data.toList.drop a) = r at *
      obtain ⟨E, ⟨K, S, N⟩, Z⟩ := r
      simp only [resV, tokV] at CF1
      by_cases hE : E = 0
      · subst hE
        have hZ := HSZ.out rfl
        simp only at hZ
        obtain ⟨hZ1, hZ2⟩ := hZ
        have HC2 : Hid (CutTo s.data.toList (L ++ [⟨K, S, N⟩]) (a + Z)) := HTK.out rfl
        have hbl1 : bl (s.data.toList.drop (a + Z)) ≤ s.size - (a + Z) := by
         have := bl_le (s.data.toList.drop (a + Z))
         rw [List.length_drop] at this
         exact this
        have HBK : Hid (a + Z + bl (s.data.toList.drop (a + Z)) < s.size → bk (bAt s.data.toList (a + Z + bl (s.data.toList.drop (a + Z)))) = false) := fun h => by
         have := bl_eq (s.data.toList.drop (a + Z)) (by rw [List.length_drop]; omega)
         rw [bAt_drop] at this
         exact this
        have HC3 : Hid (CutTo s.data.toList (L ++ [⟨K, S, N⟩]) (a + Z + bl (s.data.toList.drop (a + Z)))) := HC2.out.blanks (Nat.le_refl _)
        have CA1 : Hid (∀ W, Calls Tryz.prog 14 #[.string (s.extract (a + Z) s.size)] W fun e w' => e = .returned (.int .i64 (bl (s.data.toList.drop (a + Z)))) ∧ Below W.heap.size W w') := fun W => CA.out W (a + Z) (by omega)
        clear HER HTK HSZ HC2 CA
        generalize bl (s.data.toList.drop (a + Z)) = Y at *
        go_wp2_with (first
         | (go_at_call 15; refine CF1.out.mono ?_; rintro e w1 ⟨rfl, hb1⟩; have HV1 : Hid (ToksOwn w1 w.heap.size (.slice va L.length vc) L) := HV.out.below hb1; have HB1 : Hid (Below w.heap.size w w1) := HB.out.trans (hb1.mono hzr); have hzr1 : w.heap.size ≤ w1.heap.size := Nat.le_trans hzr hb1.size; clear hb1)
         | (at_builtin; refine wpList_append_own _ rfl (.tmp 35) (.tmp 37) 24 rfl w.heap.size 41 i0 _ 3 32 Tryz.underlying24 hi0 hz0 hz1 hz2 rfl (by decide) _ _ _ rfl ((World.ownsRow.alloc HV1.out _).alloc _) ⟨w1.heap.size + 1, 0, none⟩ 1 1 (tokC ⟨K, S, N⟩) rfl rfl (elemT_in2 _ ⟨K, S, N⟩) (elemT_one _) (by unfold maxLen; omega) (by omega) (by simp <;> omega) ?_; intro v6 w6 hown6 hgrow6 _; obtain ⟨va6, vc6, rfl⟩ := own_shape hown6; have HV6 : Hid (w6.ownsRow w.heap.size 41 3 (.slice va6 (L.length + 1) vc6) (L.length + 1) (tokCells L ++ tokC ⟨K, S, N⟩)) := hown6; have HB6 : Hid (Below w.heap.size w w6) := ((HB1.out.alloc hzr1 _).alloc (by simp <;> omega) _).grown hgrow6 (by simp <;> omega) (fun z hz => (World.ownsRow.lt HV1.out z hz).1); have hzr6 : w.heap.size ≤ w6.heap.size := HB6.out.size; clear hown6 hgrow6)
         | (go_at_call 14; refine (CA1.out _).mono ?_; rintro e w7 ⟨rfl, hb7⟩; have HV7 : Hid (w7.ownsRow w.heap.size 41 3 (.slice va6 (L.length + 1) vc6) (L.length + 1) (tokCells L ++ tokC ⟨K, S, N⟩)) := ownsRow_below HV6.out hb7; have HB7 : Hid (Below w.heap.size w w7) := HB6.out.trans (hb7.mono hzr6); clear hb7))
        go_roundw
        case rel => exact ⟨a + Z + Y, L ++ [⟨K, S, N⟩], by omega, by go_num, HBK.out, by simp; omega, HC3.out, by unfold ToksOwn; rw [tokCells_snoc, List.length_append]; exact HV7.out, HB7.out⟩
        case measure => simp [intOf]; omega
      · have HR : Hid (cutT s.data.toList = [] ∧ cutP s.data.toList = a ∧ cutE s.data.toList = E) := HER.out hE
        have hE' : (E == 0) = false := by simpa using hE
        clear HER HTK HSZ CA hE
        go_wp2_with (first
         | (go_at_call 15; refine CF1.out.mono ?_; rintro e w1 ⟨rfl, hb1⟩; have HB1 : Hid (Below w.heap.size w w1) := HB.out.trans (hb1.mono hzr); have hzr1 : w.heap.size ≤ w1.heap.size := Nat.le_trans hzr hb1.size; clear hb1))
        refine bodyPost_ret (v := .tuple #[.slice none 0 0, .int .i64 a, .int .i64 E]) (by simp [results, Tryz.results7, go_sem]) rfl ?_
        exact ⟨_, by rw [HR.out.2.1, HR.out.2.2], by rw [HR.out.1]; exact ToksOwn.nil _ _, HB1.out.alloc hzr1 _⟩
  · have e : a = s.size := by omega
    have HR : Hid (cutT s.data.toList = L ∧ cutP s.data.toList = 0 ∧ cutE s.data.toList = 0) := HCUT.out.done H1.out (by omega)
    go_wp2
    refine bodyPost_ret (v := .tuple #[.slice va L.length vc, .int .i64 0, .int .i64 0]) (by simp [results, Tryz.results7, go_sem]) rfl ?_
    exact ⟨_, by rw [HR.out.2.1, HR.out.2.2]; rfl, by rw [HR.out.1]; exact HV.out, HB.out⟩
theorem cellsT_at (L : List Tok) : ∀ (k : Nat) (h : k < L.length), (tokCells L)[k * 3]? = some (.int .i64 L[k].kind) ∧ (tokCells L)[k * 3 + 1]? = some (.string L[k].s) ∧ (tokCells L)[k * 3 + 2]? = some (.int .i64 L[k].n) := by
 induction L with
 | nil => intro k h; simp at h
 | cons t L ih =>
  intro k h
  cases k with
  | zero => exact ⟨rfl, rfl, rfl⟩
  | succ k =>
   have := ih k (by simpa using h)
   have e : ∀ j, (tokCells (t :: L))[(k + 1) * 3 + j]? = (tokCells L)[k * 3 + j]? := fun j => by
    rw [show (k + 1) * 3 + j = (k * 3 + j) + 3 by omega]; rfl
   exact ⟨(e 0).trans this.1, (e 1).trans this.2.1, (e 2).trans this.2.2⟩
theorem ToksOwn.at {w : World} {base : Nat} {v : Value} {L : List Tok} (h : ToksOwn w base v L) (k : Nat) (hk : k < L.length) : ∃ b c, v = .slice (some ⟨b, 0, none⟩) L.length c ∧ b < w.heap.size ∧ L.length ≤ c ∧ w.cell? ⟨b, k * 3, none⟩ = some (.int .i64 L[k].kind) ∧ w.cell? ⟨b, k * 3 + 1, none⟩ = some (.string L[k].s) ∧ w.cell? ⟨b, k * 3 + 2, none⟩ = some (.int .i64 L[k].n) := by
 have h8 := h
 obtain ⟨hl, ⟨rfl, h2⟩ | ⟨b, cap, cur, rfl, q1, q2, q3, q4, _⟩⟩ := h
 · omega
 · obtain ⟨c0, c1, c2⟩ := cellsT_at L k hk
   exact ⟨b, cap, rfl, (Array.getElem?_eq_some_iff.1 q2).1, q3, (World.ownsRow.cellAt h8 _ (by omega)).trans c0, (World.ownsRow.cellAt h8 _ (by omega)).trans c1, (World.ownsRow.cellAt h8 _ (by omega)).trans c2⟩
open Go.RowKit
def GrowQ (pb : Nat) (w wr : World) : Prop := w.heap.size ≤ wr.heap.size ∧ wr.os = w.os ∧ wr.tape = w.tape ∧ wr.output = w.output ∧ ∀ b, b < w.heap.size → b ≠ pb → wr.heap[b]? = w.heap[b]?
theorem GrowQ.refl (pb : Nat) (w : World) : GrowQ pb w w := ⟨Nat.le_refl _, rfl, rfl, rfl, fun _ _ _ => rfl⟩
theorem GrowQ.below {pb : Nat} {w wr w' : World} (h : GrowQ pb w wr) (hb : Below wr.heap.size wr w') : GrowQ pb w w' := ⟨Nat.le_trans h.1 hb.size, hb.os.trans h.2.1, hb.tape.trans h.2.2.1, hb.output.trans h.2.2.2.1, fun b h1 h2 => (hb.block b (Nat.lt_of_lt_of_le h1 h.1)).trans (h.2.2.2.2 b h1 h2)⟩
theorem GrowQ.trans {pb : Nat} {a b c : World} (h : GrowQ pb a b) (h' : GrowQ pb b c) : GrowQ pb a c := ⟨Nat.le_trans h.1 h'.1, h'.2.1.trans h.2.1, h'.2.2.1.trans h.2.2.1, h'.2.2.2.1.trans h.2.2.2.1, fun k h1 hk => (h'.2.2.2.2 k (Nat.lt_of_lt_of_le h1 h.1) hk).trans (h.2.2.2.2 k h1 hk)⟩
theorem GrowQ.alloc {pb : Nat} {w wr : World} (h : GrowQ pb w wr) (o : Obj) : GrowQ pb w (wr.alloc o) := h.below ((Below.refl _ _).alloc (Nat.le_refl _) o)
theorem GrowQ.drew {pb : Nat} {w wr : World} (h : GrowQ pb w wr) : GrowQ pb w wr.drew := h
theorem GrowQ.set {pb : Nat} {w wr : World} (h : GrowQ pb w wr) (t : Nat) (u : Value) : GrowQ pb w (wr.setCell ⟨pb, t, none⟩ u) := ⟨by simpa using h.1, h.2.1, h.2.2.1, h.2.2.2.1, fun b h1 h2 => (Below.heap_setCell _ _ _ _ (by simpa using h2)).trans (h.2.2.2.2 b h1 h2)⟩
theorem GrowQ.low {pb : Nat} {w w' : World} (h : GrowQ pb w w') (hp : pb ≤ w.heap.size) : Below pb w w' := ⟨h.2.1, h.2.2.1, h.2.2.2.1, h.1, fun b hb => h.2.2.2.2 b (by omega) (by omega)⟩
theorem GrowQ.cell {pb : Nat} {w w' : World} (h : GrowQ pb w w') {b k : Nat} (hb : b < w.heap.size) (hn : b ≠ pb) : w'.cell? ⟨b, k, none⟩ = w.cell? ⟨b, k, none⟩ := World.cell?_of_block (h.2.2.2.2 b hb hn)
def PoAt (w : World) (pb : Nat) (v : Value) (d : Bool) : Prop := w.cell? ⟨pb, 0, none⟩ = some v ∧ w.cell? ⟨pb, 1, none⟩ = some (.bool d) ∧ w.frozen? ⟨pb, 0, none⟩ = false ∧ w.frozen? ⟨pb, 1, none⟩ = false ∧ pb < w.heap.size
theorem PoAt.below {w w' : World} {pb : Nat} {v : Value} {d : Bool} (h : PoAt w pb v d) (hb : Below w.heap.size w w') : PoAt w' pb v d := by
 obtain ⟨h0, h1, h2, h3, h4⟩ := h
 exact ⟨(hb.cell (p := ⟨pb, 0, none⟩) h4).trans h0, (hb.cell (p := ⟨pb, 1, none⟩) h4).trans h1, (hb.frozen (p := ⟨pb, 0, none⟩) h4).trans h2, (hb.frozen (p := ⟨pb, 1, none⟩) h4).trans h3, Nat.lt_of_lt_of_le h4 hb.size⟩
theorem PoAt.setL {w : World} {pb : Nat} {v : Value} {d : Bool} (h : PoAt w pb v d) (u : Value) : PoAt (w.setCell ⟨pb, 0, none⟩ u) pb u d := by
 obtain ⟨h0, h1, h2, h3, h4⟩ := h
 exact ⟨by simp [go_sem, h0], by simp [go_sem, h1], by simp [go_sem, h2], by simp [go_sem, h3], by simpa using h4⟩
theorem PoAt.setD {w : World} {pb : Nat} {v : Value} {d : Bool} (h : PoAt w pb v d) (e : Bool) : PoAt (w.setCell ⟨pb, 1, none⟩ (.bool e)) pb v e := by
 obtain ⟨h0, h1, h2, h3, h4⟩ := h
 exact ⟨by simp [go_sem, h0], by simp [go_sem, h1], by simp [go_sem, h2], by simp [go_sem, h3], by simpa using h4⟩
structure PoS (w0 w : World) (pb : Nat) (d : Bool) : Prop where
 size : w0.heap.size = pb
 st : ∃ v n X, PoAt w pb v d ∧ RawsIs w0 v n X ∧ RawsFine n X
 lo : Below pb w0 w
theorem PoS.below {w0 w w' : World} {pb : Nat} {d : Bool} (h : PoS w0 w pb d) (hb : Below w.heap.size w w') : PoS w0 w' pb d := by
 obtain ⟨hz, ⟨v, n, X, h1, h2, h3⟩, lo⟩ := h
 exact ⟨hz, ⟨v, n, X, h1.below hb, h2, h3⟩, lo.trans (hb.mono (by have := h1.2.2.2.2; omega))⟩
theorem PoS.lt {w0 w : World} {pb : Nat} {d : Bool} (h : PoS w0 w pb d) : pb < w.heap.size := by
 obtain ⟨v, n, X, h1, _⟩ := h.st
 exact h1.2.2.2.2
def RwFine (r : Rw) : Prop := i64 r.k ∧ i64 r.a ∧ i64 r.b ∧ i64 r.c ∧ r.t.size ≤ maxLen
set_option maxHeartbeats 1600000 in
theorem next_is {w0 w : World} {pb : Nat} {d : Bool} (h : PoS w0 w pb d) :
 Calls Tryz.prog 34 #[.pointer (some ⟨pb, 0, none⟩)] w fun e w' => ∃ r, e = .returned (.agg #[.int .i64 r.k, .int .i64 r.a, .int .i64 r.b, .int .i64 r.c, .string r.t]) ∧ RwFine r ∧ GrowQ pb w w' ∧ PoS w0 w' pb d := by
 have HS : Hid (PoS w0 w pb d) := h
 obtain ⟨hz, ⟨v, n, X, hp, hr, hf⟩, lo⟩ := h
 have HP : Hid (PoAt w pb v d) := hp
 have HR : Hid (RawsIs w0 v n X) := hr
 have HF : Hid (RawsFine n X) := hf
 have HLO : Hid (Below pb w0 w) := lo
 obtain ⟨a, cap, rfl, hnc, hcm, hx⟩ := hr
 obtain ⟨h0, h1, h2, h3, h4⟩ := hp
 unfold maxLen at hcm
 by_cases e0 : n = 0
 · subst e0
   clear hf lo hx
   go_enter Tryz.func34, Tryz.ntmps34
   go_wp2
   refine bodyPost_ret (v := .agg #[.int .i64 0, .int .i64 0, .int .i64 0, .int .i64 0, .string ⟨#[]⟩]) (by simp [results, Tryz.results34, go_sem]) rfl ⟨⟨0, 0, 0, 0, ⟨#[]⟩⟩, rfl, ⟨⟨by decide, by decide⟩, ⟨by decide, by decide⟩, ⟨by decide, by decide⟩, ⟨by decide, by decide⟩, by show (0 : Nat) ≤ maxLen; unfold maxLen; omega⟩, (GrowQ.refl _ _).alloc _, HS.out.below ((Below.refl _ _).alloc (Nat.le_refl _) _)⟩
 · obtain ⟨b, off, rfl, hb, hraw⟩ := hx (by omega)
   obtain ⟨r0, r1, r2, r3, r4⟩ := hraw 0 (by omega)
   rw [Nat.zero_mul, Nat.add_zero] at r0 r1 r2 r3 r4
   have hbp : b < pb := by omega
   have x0 := (lo.cell (p := ⟨b, off, none⟩) hbp).trans r0
   have x1 := (lo.cell (p := ⟨b, off + 1, none⟩) hbp).trans r1
   have x2 := (lo.cell (p := ⟨b, off + 2, none⟩) hbp).trans r2
   have x3 := (lo.cell (p := ⟨b, off + 3, none⟩) hbp).trans r3
   have x4 := (lo.cell (p := ⟨b, off + 4, none⟩) hbp).trans r4
   have HFX : Hid (RwFine (X 0)) := hf 0 (by omega)
   have HTL : Hid (∀ u, ((cap = 1 ∧ ∃ u1, u = .slice u1 0 0) ∨ (¬ cap = 1 ∧ u = .slice (some ⟨b, off + 5, none⟩) (n - 1) (cap - 1))) → RawsIs w0 u (n - 1) (fun i => X (i + 1)) ∧ RawsFine (n - 1) (fun i => X (i + 1))) := by
    intro u hu
    refine ⟨?_, fun i hi => HF.out (i + 1) (by omega)⟩
    rcases hu with ⟨hc, u1, rfl⟩ | ⟨hc, rfl⟩
    · rw [show n - 1 = 0 by omega]
      exact ⟨_, _, rfl, Nat.le_refl _, Nat.zero_le _, fun h => absurd h (Nat.lt_irrefl 0)⟩
    · refine ⟨_, _, rfl, by omega, by unfold maxLen; omega, fun _ => ⟨b, off + 5, rfl, hb, fun i hi => ?_⟩⟩
      have := hraw (i + 1) (by omega)
      rw [show off + (i + 1) * 5 = off + 5 + i * 5 by omega] at this
      exact this
   generalize X 0 = x at x0 x1 x2 x3 x4 HFX
   clear hf lo hx hraw r0 r1 r2 r3 r4
   have hbw : b < w.heap.size := by omega
   have hbn : ¬ b = pb := by omega
   have hni : ¬ (n : Int) = 0 := by omega
   have hnb : ((n : Int) == 0) = false := by rw [beq_eq_false_iff_ne]; exact hni
   have hn1 : (1 : Int) ≤ (n : Int) := by omega
   have hn0 : (0 : Int) < (n : Int) := by omega
   have hcc : (n : Int) ≤ (cap : Int) := by omega
   by_cases hc1 : cap = 1
   · have en : n = 1 := by omega
     subst hc1
     subst en
     go_enter Tryz.func34, Tryz.ntmps34
     go_wp2
     refine bodyPost_ret (v := .agg #[.int .i64 x.k, .int .i64 x.a, .int .i64 x.b, .int .i64 x.c, .string x.t]) (by simp [results, Tryz.results34, go_sem]) rfl ⟨x, rfl, HFX.out, (((GrowQ.refl _ _).set 0 _).alloc _).alloc _, ?_⟩
     have hT := HTL.out (.slice (some ⟨b, off, none⟩) 0 0) (by first | exact .inl ⟨rfl, _, rfl⟩ | exact .inl ⟨trivial, _, rfl⟩)
     exact PoS.below (w := w.setCell ⟨pb, 0, none⟩ (.slice (some ⟨b, off, none⟩) 0 0)) ⟨hz, ⟨(.slice (some ⟨b, off, none⟩) 0 0), (1 - 1), _, HP.out.setL _, hT.1, hT.2⟩, HLO.out.trans (((GrowQ.refl pb w).set 0 _).low (by omega))⟩ (((Below.refl _ _).alloc (Nat.le_refl _) _).alloc (by simp) _)
   · have hc2 : ¬ (cap : Int) = 1 := by omega
     go_enter Tryz.func34, Tryz.ntmps34
     go_wp2
     refine bodyPost_ret (v := .agg #[.int .i64 x.k, .int .i64 x.a, .int .i64 x.b, .int .i64 x.c, .string x.t]) (by simp [results, Tryz.results34, go_sem]) rfl ⟨x, rfl, HFX.out, (((GrowQ.refl _ _).set 0 _).alloc _).alloc _, ?_⟩
     have hT := HTL.out (.slice (some ⟨b, off + 5, none⟩) (n - 1) (cap - 1)) (.inr ⟨hc1, rfl⟩)
     exact PoS.below (w := w.setCell ⟨pb, 0, none⟩ (.slice (some ⟨b, off + 5, none⟩) (n - 1) (cap - 1))) ⟨hz, ⟨(.slice (some ⟨b, off + 5, none⟩) (n - 1) (cap - 1)), (n - 1), _, HP.out.setL _, hT.1, hT.2⟩, HLO.out.trans (((GrowQ.refl pb w).set 0 _).low (by omega))⟩ (((Below.refl _ _).alloc (Nat.le_refl _) _).alloc (by simp) _)
theorem step_cell (w : World) (i : Nat) (hi : i < 18) : (w.alloc (.cells #[.string ⟨#[97]⟩, .string ⟨#[98]⟩, .string ⟨#[42]⟩, .string ⟨#[64, 107]⟩, .string ⟨#[64, 109]⟩, .string ⟨#[46, 46]⟩, .string ⟨#[116, 101, 120, 116, 40, 41]⟩, .string ⟨#[110, 111, 100, 101, 40, 41]⟩, .string ⟨#[100, 101, 115, 99, 101, 110, 100, 97, 110, 116, 58, 58, 97]⟩, .string ⟨#[97, 110, 99, 101, 115, 116, 111, 114, 58, 58, 42]⟩, .string ⟨#[102, 111, 108, 108, 111, 119, 105, 110, 103, 58, 58, 98]⟩, .string ⟨#[112, 114, 101, 99, 101, 100, 105, 110, 103, 58, 58, 42]⟩, .string ⟨#[102, 111, 108, 108, 111, 119, 105, 110, 103, 45, 115, 105, 98, 108, 105, 110, 103, 58, 58, 42]⟩, .string ⟨#[112, 114, 101, 99, 101, 100, 105, 110, 103, 45, 115, 105, 98, 108, 105, 110, 103, 58, 58, 110, 111, 100, 101, 40, 41]⟩, .string ⟨#[115, 101, 108, 102, 58, 58, 99]⟩, .string ⟨#[100, 101, 115, 99, 101, 110, 100, 97, 110, 116, 45, 111, 114, 45, 115, 101, 108, 102, 58, 58, 110, 111, 100, 101, 40, 41]⟩, .string ⟨#[99, 111, 109, 109, 101, 110, 116, 40, 41]⟩, .string ⟨#[99]⟩] 9)).cell? ⟨w.heap.size, i, none⟩ = some (.string ⟨(stepL.getD i []).toArray⟩) := by
 have e : i = 0 ∨ i = 1 ∨ i = 2 ∨ i = 3 ∨ i = 4 ∨ i = 5 ∨ i = 6 ∨ i = 7 ∨ i = 8 ∨ i = 9 ∨ i = 10 ∨ i = 11 ∨ i = 12 ∨ i = 13 ∨ i = 14 ∨ i = 15 ∨ i = 16 ∨ i = 17 := by omega
 rcases e with rfl | rfl | rfl | rfl | rfl | rfl | rfl | rfl | rfl | rfl | rfl | rfl | rfl | rfl | rfl | rfl | rfl | rfl <;> simp [stepL]
theorem q0_cell (w : World) (i : Nat) (hi : i < 5) : (w.alloc (.cells #[.string ⟨#[49]⟩, .string ⟨#[47, 47, 97]⟩, .string ⟨#[34, 120, 34]⟩, .string ⟨#[116, 114, 117, 101, 40, 41]⟩, .string ⟨#[40, 41]⟩] 9)).cell? ⟨w.heap.size, i, none⟩ = some (.string ⟨(q0L.getD i []).toArray⟩) := by
 have e : i = 0 ∨ i = 1 ∨ i = 2 ∨ i = 3 ∨ i = 4 := by omega
 rcases e with rfl | rfl | rfl | rfl | rfl <;> simp [q0L]
theorem base_cell (w : World) (i : Nat) (hi : i < 6) : (w.alloc (.cells #[.string ⟨#[47, 114]⟩, .string ⟨#[47, 47, 97]⟩, .string ⟨#[47, 47, 42]⟩, .string ⟨#[47, 114, 47, 42]⟩, .string ⟨#[47, 47, 64, 107]⟩, .string ⟨#[47, 47, 116, 101, 120, 116, 40, 41]⟩] 9)).cell? ⟨w.heap.size, i, none⟩ = some (.string ⟨(baseL.getD i []).toArray⟩) := by
 have e : i = 0 ∨ i = 1 ∨ i = 2 ∨ i = 3 ∨ i = 4 ∨ i = 5 := by omega
 rcases e with rfl | rfl | rfl | rfl | rfl | rfl <;> simp [baseL]
theorem pk_nat {n : Int} {m : Nat} (h : 0 < m) : ∃ i : Nat, pk n m = i ∧ i < m := by
 have := pk_range (n := n) (many := m) (by omega)
 exact ⟨(pk n m).toNat, by omega, by omega⟩
set_option maxHeartbeats 1600000 in
theorem step_is (pb : Nat) (r : Rw) (w : World) (hr : RwFine r) :
 Calls Tryz.prog 60 #[.pointer (some ⟨pb, 0, none⟩), .agg #[.int .i64 r.k, .int .i64 r.a, .int .i64 r.b, .int .i64 r.c, .string r.t]] w fun e w' => ∃ i, i < 18 ∧ e = .returned (.string ⟨(stepL.getD i []).toArray⟩) ∧ Below w.heap.size w w' := by
 obtain ⟨i, hi, hi18⟩ := pk_nat (n := r.b) (m := 18) (by omega)
 have CK : Hid (∀ W, Calls Tryz.prog 10 #[.int .i64 r.b, .int .i64 18] W fun e w' => e = .returned (.int .i64 i) ∧ W = w') := fun W => (picked_is r.b 18 W hr.2.2.1 (by omega) (by omega)).mono fun e w' ⟨k1, k2⟩ => ⟨by rw [k1]; exact ret_int hi, k2.symm⟩
 have hii : (i : Int) < 18 := by omega
 clear hi hr
 have hc := step_cell (w.alloc (.cells #[.int .i64 r.k, .int .i64 r.a, .int .i64 r.b, .int .i64 r.c, .string r.t] 81)) i hi18
 rw [show (w.alloc (.cells #[.int .i64 r.k, .int .i64 r.a, .int .i64 r.b, .int .i64 r.c, .string r.t] 81)).heap.size = w.heap.size + 1 by simp] at hc
 obtain ⟨z, hz⟩ : ∃ z, z = stepL.getD i [] := ⟨_, rfl⟩
 have HZ : Hid (z = stepL.getD i []) := hz
 rw [← hz] at hc
 clear hz
 go_enter Tryz.func60, Tryz.ntmps60
 go_wp2_with (first | (go_at_call 10; refine (CK.out _).mono ?_; rintro e w4 ⟨rfl, rfl⟩))
 all_goals
  exact bodyPost_ret (v := .string ⟨z.toArray⟩) (by simp [results, Tryz.results60, go_sem]) rfl ⟨i, hi18, by rw [HZ.out], ((Below.refl _ _).alloc (Nat.le_refl _) _).alloc (by simp) _⟩
set_option maxHeartbeats 1600000 in
theorem query0_is {w0 w : World} {pb : Nat} {d : Bool} (h : PoS w0 w pb d) :
 Calls Tryz.prog 16 #[.pointer (some ⟨pb, 0, none⟩), .int .i64 0] w fun e w' => ∃ i, i < 5 ∧ e = .returned (.string ⟨(q0L.getD i []).toArray⟩) ∧ GrowQ pb w w' ∧ PoS w0 w' pb d := by
 have CN : Hid (Calls Tryz.prog 34 #[.pointer (some ⟨pb, 0, none⟩)] w fun e w' => ∃ r, e = .returned (.agg #[.int .i64 r.k, .int .i64 r.a, .int .i64 r.b, .int .i64 r.c, .string r.t]) ∧ RwFine r ∧ GrowQ pb w w' ∧ PoS w0 w' pb d) := next_is h
 clear h
 go_enter Tryz.func16, Tryz.ntmps16
 go_upto_region 3 with (first
  | (go_at_call 34; refine CN.out.mono ?_; rintro e w1 ⟨r, rfl, hr, hg1, hp1⟩; have HG1 : Hid (GrowQ pb w w1) := hg1; have HP1 : Hid (PoS w0 w1 pb d) := hp1; have HR : Hid (RwFine r) := hr; clear hg1 hp1 hr))
 obtain ⟨i, hi, hi5⟩ := pk_nat (n := r.k) (m := 5) (by omega)
 have CK : Hid (∀ W, Calls Tryz.prog 10 #[.int .i64 r.k, .int .i64 5] W fun e w' => e = .returned (.int .i64 i) ∧ W = w') := fun W => (picked_is r.k 5 W HR.out.1 (by omega) (by omega)).mono fun e w' ⟨k1, k2⟩ => ⟨by rw [k1]; exact ret_int hi, k2.symm⟩
 have hii : (i : Int) < 5 := by omega
 clear hi
 have hc := q0_cell (w1.alloc (.cells #[.int .i64 r.k, .int .i64 r.a, .int .i64 r.b, .int .i64 r.c, .string r.t] 81)) i hi5
 rw [show (w1.alloc (.cells #[.int .i64 r.k, .int .i64 r.a, .int .i64 r.b, .int .i64 r.c, .string r.t] 81)).heap.size = w1.heap.size + 1 by simp] at hc
 obtain ⟨z, hz⟩ : ∃ z, z = q0L.getD i [] := ⟨_, rfl⟩
 have HZ : Hid (z = q0L.getD i []) := hz
 rw [← hz] at hc
 clear hz
 go_wp2_with (first | (go_at_call 10; refine (CK.out _).mono ?_; rintro e w4 ⟨rfl, rfl⟩))
 all_goals
  exact bodyPost_ret (v := .string ⟨z.toArray⟩) (by simp [results, Tryz.results16, go_sem]) rfl ⟨i, hi5, by rw [HZ.out], (HG1.out.alloc _).alloc _, HP1.out.below (((Below.refl _ _).alloc (Nat.le_refl _) _).alloc (by simp) _)⟩
open Go.RowKit
theorem sep_cell (w : World) (i : Nat) (hi : i < 2) : (w.alloc (.cells #[.string ⟨#[47]⟩, .string ⟨#[47, 47]⟩] 9)).cell? ⟨w.heap.size, i, none⟩ = some (.string ⟨(sepL.getD i []).toArray⟩) := by
 have e : i = 0 ∨ i = 1 := by omega
 rcases e with rfl | rfl <;> simp [sepL]
theorem sepBox {pb jj : Nat} {z : ByteArray} {V w1 : World} (hsc : ∀ w : World, (w.alloc (.cells #[.string ⟨#[47]⟩, .string ⟨#[47, 47]⟩] 9)).cell? ⟨w.heap.size, jj, none⟩ = some (.string z)) (h : GrowQ pb (V.alloc (.cells #[.string ⟨#[47]⟩, .string ⟨#[47, 47]⟩] 9)) w1) (hp : pb < V.heap.size) : w1.cell? ⟨V.heap.size, jj, none⟩ = some (.string z) ∧ V.heap.size < w1.heap.size ∧ pb < w1.heap.size := by
 have hl := h.1
 simp at hl
 exact ⟨(h.cell (by simp) (by omega)).trans (hsc V), by omega, by omega⟩
theorem sepBoxD {pb jj : Nat} {z : ByteArray} {V w1 : World} (hsc : ∀ w : World, (w.alloc (.cells #[.string ⟨#[47]⟩, .string ⟨#[47, 47]⟩] 9)).cell? ⟨w.heap.size, jj, none⟩ = some (.string z)) (h : GrowQ pb (V.alloc (.cells #[.string ⟨#[47]⟩, .string ⟨#[47, 47]⟩] 9)).drew w1) (hp : pb < V.heap.size) : w1.cell? ⟨V.heap.size, jj, none⟩ = some (.string z) ∧ V.heap.size < w1.heap.size ∧ pb < w1.heap.size := sepBox hsc h hp
theorem sepKept {pb jj g : Nat} {z : ByteArray} {V w1 : World} (h : GrowQ pb V w1) (z0 : V.cell? ⟨g, jj, none⟩ = some (.string z)) (z1 : g < V.heap.size) (z2 : pb < g) : w1.cell? ⟨g, jj, none⟩ = some (.string z) ∧ g < w1.heap.size ∧ pb < w1.heap.size := by
 have hl := h.1
 exact ⟨(h.cell z1 (by omega)).trans z0, by omega, by omega⟩
theorem data_appQ (t u : ByteArray) : (t ++ u).data.toList = t.data.toList ++ u.data.toList := by
 rw [ByteArray.data_append, Array.toList_append]
theorem stepL_len {i : Nat} (hi : i < 18) : (stepL.getD i []).length ≤ 30 := by
 have : ∀ i : Fin 18, (stepL.getD i []).length ≤ 30 := by decide
 exact this ⟨i, hi⟩
theorem sepL_len {i : Nat} (hi : i < 2) : (sepL.getD i []).length ≤ 2 := by
 have : ∀ i : Fin 2, (sepL.getD i []).length ≤ 2 := by decide
 exact this ⟨i, hi⟩
theorem baseL_len {i : Nat} (hi : i < 6) : (baseL.getD i []).length ≤ 10 := by
 have : ∀ i : Fin 6, (baseL.getD i []).length ≤ 10 := by decide
 exact this ⟨i, hi⟩
def PathS (s : ByteArray) (m n : Nat) : Prop := OkP s.data.toList m ∧ s.size ≤ n
theorem PathS.base {i : Nat} (hi : i < 6) : PathS ⟨(baseL.getD i []).toArray⟩ 6 10 := ⟨okP_base hi, baseL_len hi⟩
theorem PathS.step {s : ByteArray} {m n i j : Nat} (h : PathS s m n) (hj : j < 2) (hi : i < 18) : PathS (s ++ (⟨(sepL.getD j []).toArray⟩ ++ ⟨(stepL.getD i []).toArray⟩)) (m + 7) (n + 32) := by
 refine ⟨?_, ?_⟩
 · rw [data_appQ, data_appQ]
   exact h.1.step hj hi
 · rw [ByteArray.size_append, ByteArray.size_append]
   have h1 : (⟨(sepL.getD j []).toArray⟩ : ByteArray).size ≤ 2 := sepL_len hj
   have h2 : (⟨(stepL.getD i []).toArray⟩ : ByteArray).size ≤ 30 := stepL_len hi
   have h3 := h.2
   omega
theorem PathS.more {s : ByteArray} {m n m' n' : Nat} (h : PathS s m n) (hm : m ≤ m') (hn : n ≤ n') : PathS s m' n' := ⟨fun c R hc => (h.1 c R hc).more hm, Nat.le_trans h.2 hn⟩
theorem PoS.setD {w0 w : World} {pb : Nat} {d : Bool} (h : PoS w0 w pb d) (e : Bool) : PoS w0 (w.setCell ⟨pb, 1, none⟩ (.bool e)) pb e := by
 obtain ⟨hz, ⟨v, n, X, h1, h2, h3⟩, lo⟩ := h
 refine ⟨hz, ⟨v, n, X, h1.setD e, h2, h3⟩, ?_⟩
 exact lo.trans (((GrowQ.refl pb w).set 1 _).low (Nat.le_of_lt h1.2.2.2.2))
theorem ops_at0 (W : World) : Sem.run Tryz.prog (Instr.index 108 (.agg #[.string ⟨#[32, 117, 110, 105, 111, 110, 32]⟩, .string ⟨#[32, 105, 110, 116, 101, 114, 115, 101, 99, 116, 32]⟩, .string ⟨#[32, 101, 120, 99, 101, 112, 116, 32]⟩]) (.int .i64 0)) W = .ok (.string ⟨#[32, 117, 110, 105, 111, 110, 32]⟩) W := by
 simp [Instr.index, run_underlying Tryz.underlying108, asIntOf, go_sem]
theorem ops_at1 (W : World) : Sem.run Tryz.prog (Instr.index 108 (.agg #[.string ⟨#[32, 117, 110, 105, 111, 110, 32]⟩, .string ⟨#[32, 105, 110, 116, 101, 114, 115, 101, 99, 116, 32]⟩, .string ⟨#[32, 101, 120, 99, 101, 112, 116, 32]⟩]) (.int .i64 1)) W = .ok (.string ⟨#[32, 105, 110, 116, 101, 114, 115, 101, 99, 116, 32]⟩) W := by
 simp [Instr.index, run_underlying Tryz.underlying108, asIntOf, go_sem]
theorem ops_at2 (W : World) : Sem.run Tryz.prog (Instr.index 108 (.agg #[.string ⟨#[32, 117, 110, 105, 111, 110, 32]⟩, .string ⟨#[32, 105, 110, 116, 101, 114, 115, 101, 99, 116, 32]⟩, .string ⟨#[32, 101, 120, 99, 101, 112, 116, 32]⟩]) (.int .i64 2)) W = .ok (.string ⟨#[32, 101, 120, 99, 101, 112, 116, 32]⟩) W := by
 simp [Instr.index, run_underlying Tryz.underlying108, asIntOf, go_sem]
open Go.RowKit Go.ChangeShapes Go.WideShapes Go.ChangeAt Go.Deep
theorem cells9T : Tryz.prog.cellsOf 9 = 1 := by kernel_rfl
theorem cellsMarks : Tryz.prog.cellsOf 106 = 26 := by kernel_rfl
theorem gMarks : Tryz.prog.globalNamed "pleacher/read.marks" = some 0 := by kernel_rfl
theorem gMarksType : (Tryz.prog.globals[0]?).map (·.type) = some 106 := by kernel_rfl
theorem marks_data (k : Nat) (hk : k < 26) : ∃ ds : List (DataW Unit), Rows.laid_pleacher_read_marks = .agg ds ∧ ds[k]? = some (.lit (.string (mkAt k))) := by
 refine ⟨_, rfl, ?_⟩
 have : k = 0 ∨ k = 1 ∨ k = 2 ∨ k = 3 ∨ k = 4 ∨ k = 5 ∨ k = 6 ∨ k = 7 ∨ k = 8 ∨ k = 9 ∨ k = 10 ∨ k = 11 ∨ k = 12 ∨ k = 13 ∨ k = 14 ∨ k = 15 ∨ k = 16 ∨ k = 17 ∨ k = 18 ∨ k = 19 ∨ k = 20 ∨ k = 21 ∨ k = 22 ∨ k = 23 ∨ k = 24 ∨ k = 25 := by omega
 rcases this with rfl | rfl | rfl | rfl | rfl | rfl | rfl | rfl | rfl | rfl | rfl | rfl | rfl | rfl | rfl | rfl | rfl | rfl | rfl | rfl | rfl | rfl | rfl | rfl | rfl | rfl <;> rfl
theorem mkCells_at (k : Nat) (hk : k < 26) : mkCells.toList[k]? = some (.string (mkS k)) := by
 have : k = 0 ∨ k = 1 ∨ k = 2 ∨ k = 3 ∨ k = 4 ∨ k = 5 ∨ k = 6 ∨ k = 7 ∨ k = 8 ∨ k = 9 ∨ k = 10 ∨ k = 11 ∨ k = 12 ∨ k = 13 ∨ k = 14 ∨ k = 15 ∨ k = 16 ∨ k = 17 ∨ k = 18 ∨ k = 19 ∨ k = 20 ∨ k = 21 ∨ k = 22 ∨ k = 23 ∨ k = 24 ∨ k = 25 := by omega
 rcases this with rfl | rfl | rfl | rfl | rfl | rfl | rfl | rfl | rfl | rfl | rfl | rfl | rfl | rfl | rfl | rfl | rfl | rfl | rfl | rfl | rfl | rfl | rfl | rfl | rfl | rfl <;> rfl
theorem marks_of {W : World} {l : List (String × DataW Unit)} (hL : laidMet Tryz.prog l W) (he : ("pleacher/read.marks", Rows.laid_pleacher_read_marks) ∈ l) : MarkTab W ∧ 0 < W.heap.size := by
 obtain ⟨g, t, cs, fuel, p, hg, hty, hvar, hd⟩ := Lib.laidMet.reads hL he
 obtain rfl := Option.some.inj (gMarks.symm.trans hg)
 obtain rfl := Option.some.inj (gMarksType.symm.trans hty)
 have hlen : cs.toList.length = 26 := by
  obtain ⟨xs, m, _, _, h, _⟩ := DataW.trod_array Tryz.underlying106 hd
  rw [h, cellsMarks]
 have hcs : cs = mkCells := by
  refine Array.toList_inj.1 (List.ext_getElem? fun k => ?_)
  by_cases hk : k < 26
  · obtain ⟨ds, e1, e2⟩ := marks_data k hk
    rw [e1] at hd
    obtain ⟨f, d, q, h1, h2⟩ := Lib.array_elem Tryz.underlying106 hd k hk
    rw [e2] at h1
    obtain rfl := Option.some.inj h1
    rw [cells9T] at h2
    obtain ⟨s, e3, e4, _⟩ := DataW.trod_string Tryz.underlying9 h2
    simp only [Prod.mk.injEq, DataW.lit.injEq, Lit.string.injEq] at e4
    rw [mkCells_at k hk]
    have e5 : s = mkS k := by
     have := e4.1
     unfold mkS
     rw [this]
    rw [e5] at e3
    have := congrArg (fun l : List Value => l[0]?) e3
    simpa using this
  · rw [List.getElem?_eq_none (by omega), List.getElem?_eq_none (by show mkCells.toList.length ≤ k; have : mkCells.toList.length = 26 := rfl; omega)]
 subst hcs
 unfold World.var? at hvar
 rw [gMarks] at hvar
 simp only [Option.bind_some] at hvar
 unfold MarkTab
 cases hh : W.heap[0]? with
 | none => rw [hh] at hvar; cases hvar
 | some o =>
  rw [hh] at hvar
  have hlt : 0 < W.heap.size := by
   by_cases h : 0 < W.heap.size
   · exact h
   · rw [Array.getElem?_eq_none (by omega)] at hh; cases hh
  cases o with
  | cells c t fr => simp only [Option.some.injEq] at hvar; subst hvar; exact ⟨⟨t, fr, rfl⟩, hlt⟩
  | _ => cases hvar
open Go.RowKit Go.ChangeShapes Go.WideShapes
theorem cellsOpers : Tryz.prog.cellsOf 146 = 42 := by kernel_rfl
theorem cellsOper : Tryz.prog.cellsOf 145 = 2 := by kernel_rfl
theorem cellsThree : Tryz.prog.cellsOf 3 = 1 := by kernel_rfl
theorem gOpers : Tryz.prog.globalNamed "pleacher/read.operators" = some 5 := by kernel_rfl
theorem gOpersType : (Tryz.prog.globals[5]?).map (·.type) = some 146 := by kernel_rfl
theorem opers_data (k : Nat) (hk : k < 21) : ∃ ds : List (DataW Unit), Rows.laid_pleacher_read_operators = .agg ds ∧ ds[k]? = some (.agg [.lit (.string (opN k).data.toList), .lit (.int .i64 (opB k))]) := by
 refine ⟨_, rfl, ?_⟩
 have : k = 0 ∨ k = 1 ∨ k = 2 ∨ k = 3 ∨ k = 4 ∨ k = 5 ∨ k = 6 ∨ k = 7 ∨ k = 8 ∨ k = 9 ∨ k = 10 ∨ k = 11 ∨ k = 12 ∨ k = 13 ∨ k = 14 ∨ k = 15 ∨ k = 16 ∨ k = 17 ∨ k = 18 ∨ k = 19 ∨ k = 20 := by omega
 rcases this with rfl | rfl | rfl | rfl | rfl | rfl | rfl | rfl | rfl | rfl | rfl | rfl | rfl | rfl | rfl | rfl | rfl | rfl | rfl | rfl | rfl <;> rfl
theorem opCells_at (k : Nat) (hk : k < 21) : (opCells.toList.drop (k * 2)).take 2 = [.string (opN k), .int .i64 (opB k)] := by
 have : k = 0 ∨ k = 1 ∨ k = 2 ∨ k = 3 ∨ k = 4 ∨ k = 5 ∨ k = 6 ∨ k = 7 ∨ k = 8 ∨ k = 9 ∨ k = 10 ∨ k = 11 ∨ k = 12 ∨ k = 13 ∨ k = 14 ∨ k = 15 ∨ k = 16 ∨ k = 17 ∨ k = 18 ∨ k = 19 ∨ k = 20 := by omega
 rcases this with rfl | rfl | rfl | rfl | rfl | rfl | rfl | rfl | rfl | rfl | rfl | rfl | rfl | rfl | rfl | rfl | rfl | rfl | rfl | rfl | rfl <;> rfl
theorem pairs_eq {a b : List Value} {n : Nat} (ha : a.length = n * 2) (hb : b.length = n * 2) (h : ∀ k, k < n → (a.drop (k * 2)).take 2 = (b.drop (k * 2)).take 2) : a = b := by
 refine List.ext_getElem? fun i => ?_
 by_cases hi : i < n * 2
 · have hk := h (i / 2) (by omega)
   have h1 := congrArg (fun l : List Value => l[i % 2]?) hk
   simp only [List.getElem?_take, List.getElem?_drop] at h1
   rw [if_pos (by omega), if_pos (by omega), show i / 2 * 2 + i % 2 = i by omega] at h1
   exact h1
 · rw [List.getElem?_eq_none (by omega), List.getElem?_eq_none (by omega)]
theorem opers_of {W : World} {l : List (String × DataW Unit)} (hL : laidMet Tryz.prog l W) (he : ("pleacher/read.operators", Rows.laid_pleacher_read_operators) ∈ l) : OpTab W := by
 obtain ⟨g, t, cs, fuel, p, hg, hty, hvar, hd⟩ := Lib.laidMet.reads hL he
 obtain rfl := Option.some.inj (gOpers.symm.trans hg)
 obtain rfl := Option.some.inj (gOpersType.symm.trans hty)
 have hlen : cs.toList.length = 21 * 2 := by
  obtain ⟨xs, m, _, _, h, _⟩ := DataW.trod_array Tryz.underlying146 hd
  rw [h, cellsOpers]
 have hcs : cs = opCells := by
  refine Array.toList_inj.1 (pairs_eq hlen rfl fun k hk => ?_)
  rw [opCells_at k hk]
  obtain ⟨ds, e1, e2⟩ := opers_data k hk
  rw [e1] at hd
  obtain ⟨f, d, q, h1, h2⟩ := Lib.array_elem Tryz.underlying146 hd k hk
  rw [e2] at h1
  obtain rfl := Option.some.inj h1
  rw [cellsOper] at h2
  generalize hz : (cs.toList.drop (k * 2)).take 2 = zs at h2
  obtain ⟨y0, y1, m, ex, hl, g0, g1⟩ := trod_struct2 Tryz.underlying145 h2
  rw [cellsOper] at hl
  match zs, hl with
  | [c0, c1], _ =>
   simp only [cellsThree, cells9T, List.drop_zero, List.drop_succ_cons, List.take_succ_cons, List.take_zero] at g0 g1
   obtain ⟨s, a0, b0, _⟩ := DataW.trod_string Tryz.underlying9 g0
   obtain ⟨n, a1, b1, _⟩ := DataW.trod_int Tryz.underlying3 g1
   simp only [Prod.mk.injEq, DataW.agg.injEq, List.cons.injEq, and_true] at ex
   obtain ⟨⟨x0, x1⟩, _⟩ := ex
   rw [b0] at x0
   rw [b1] at x1
   simp only [DataW.lit.injEq, Lit.string.injEq, Lit.int.injEq, true_and] at x0 x1
   simp only [List.cons.injEq, and_true] at a0 a1
   rw [a0, a1]
   have hs : s = opN k := by
    cases hh : s; cases hj : opN k
    rw [hh, hj] at x0
    congr 1
    exact (Array.toList_inj.1 x0).symm
   rw [hs, x1]
 subst hcs
 unfold World.var? at hvar
 rw [gOpers] at hvar
 simp only [Option.bind_some] at hvar
 unfold OpTab
 cases hh : W.heap[5]? with
 | none => rw [hh] at hvar; cases hvar
 | some o =>
  rw [hh] at hvar
  cases o with
  | cells c t fr => simp only [Option.some.injEq] at hvar; subst hvar; exact ⟨t, fr, rfl⟩
  | _ => cases hvar
theorem cellsKt : Tryz.prog.cellsOf 157 = 4 := by kernel_rfl
theorem gKt : Tryz.prog.globalNamed "pleacher/read.kindTests" = some 9 := by kernel_rfl
theorem gKtType : (Tryz.prog.globals[9]?).map (·.type) = some 157 := by kernel_rfl
theorem kinds_data (k : Nat) (hk : k < 4) : ∃ ds : List (DataW Unit), Rows.laid_pleacher_read_kindTests = .agg ds ∧ ds[k]? = some (.lit (.string (ktN k).data.toList)) := by
 refine ⟨_, rfl, ?_⟩
 have : k = 0 ∨ k = 1 ∨ k = 2 ∨ k = 3 := by omega
 rcases this with rfl | rfl | rfl | rfl <;> rfl
theorem kindsCells_at (k : Nat) (hk : k < 4) : ktCells.toList[k]? = some (.string (ktN k)) := by
 have : k = 0 ∨ k = 1 ∨ k = 2 ∨ k = 3 := by omega
 rcases this with rfl | rfl | rfl | rfl <;> rfl
theorem kinds_of {W : World} {l : List (String × DataW Unit)} (hL : laidMet Tryz.prog l W) (he : ("pleacher/read.kindTests", Rows.laid_pleacher_read_kindTests) ∈ l) : KtTab W ∧ 9 < W.heap.size := by
 obtain ⟨g, t, cs, fuel, p, hg, hty, hvar, hd⟩ := Lib.laidMet.reads hL he
 obtain rfl := Option.some.inj (gKt.symm.trans hg)
 obtain rfl := Option.some.inj (gKtType.symm.trans hty)
 have hlen : cs.toList.length = 4 := by
  obtain ⟨xs, m, _, _, h, _⟩ := DataW.trod_array Tryz.underlying157 hd
  rw [h, cellsKt]
 have hcs : cs = ktCells := by
  refine Array.toList_inj.1 (List.ext_getElem? fun k => ?_)
  by_cases hk : k < 4
  · obtain ⟨ds, e1, e2⟩ := kinds_data k hk
    rw [e1] at hd
    obtain ⟨f, d, q, h1, h2⟩ := Lib.array_elem Tryz.underlying157 hd k hk
    rw [e2] at h1
    obtain rfl := Option.some.inj h1
    rw [cells9T] at h2
    obtain ⟨s, e3, e4, _⟩ := DataW.trod_string Tryz.underlying9 h2
    simp only [Prod.mk.injEq, DataW.lit.injEq, Lit.string.injEq] at e4
    rw [kindsCells_at k hk]
    have e5 : s = ktN k := by
     have := e4.1
     cases hh : s; cases hj : ktN k
     rw [hh, hj] at this
     congr 1
     exact (Array.toList_inj.1 this).symm
    rw [e5] at e3
    have := congrArg (fun l : List Value => l[0]?) e3
    simpa using this
  · rw [List.getElem?_eq_none (by omega), List.getElem?_eq_none (by show ktCells.toList.length ≤ k; have : ktCells.toList.length = 4 := rfl; omega)]
 subst hcs
 unfold World.var? at hvar
 rw [gKt] at hvar
 simp only [Option.bind_some] at hvar
 unfold KtTab
 cases hh : W.heap[9]? with
 | none => rw [hh] at hvar; cases hvar
 | some o =>
  rw [hh] at hvar
  have hlt : 9 < W.heap.size := by
   by_cases h : 9 < W.heap.size
   · exact h
   · rw [Array.getElem?_eq_none (by omega)] at hh; cases hh
  cases o with
  | cells c t fr => simp only [Option.some.injEq] at hvar; subst hvar; exact ⟨⟨t, fr, rfl⟩, hlt⟩
  | _ => cases hvar
theorem cellsAx : Tryz.prog.cellsOf 156 = 13 := by kernel_rfl
theorem gAx : Tryz.prog.globalNamed "pleacher/read.axes" = some 8 := by kernel_rfl
theorem gAxType : (Tryz.prog.globals[8]?).map (·.type) = some 156 := by kernel_rfl
theorem axes_data (k : Nat) (hk : k < 13) : ∃ ds : List (DataW Unit), Rows.laid_pleacher_read_axes = .agg ds ∧ ds[k]? = some (.lit (.string (axN k).data.toList)) := by
 refine ⟨_, rfl, ?_⟩
 have : k = 0 ∨ k = 1 ∨ k = 2 ∨ k = 3 ∨ k = 4 ∨ k = 5 ∨ k = 6 ∨ k = 7 ∨ k = 8 ∨ k = 9 ∨ k = 10 ∨ k = 11 ∨ k = 12 := by omega
 rcases this with rfl | rfl | rfl | rfl | rfl | rfl | rfl | rfl | rfl | rfl | rfl | rfl | rfl <;> rfl
theorem axesCells_at (k : Nat) (hk : k < 13) : axCells.toList[k]? = some (.string (axN k)) := by
 have : k = 0 ∨ k = 1 ∨ k = 2 ∨ k = 3 ∨ k = 4 ∨ k = 5 ∨ k = 6 ∨ k = 7 ∨ k = 8 ∨ k = 9 ∨ k = 10 ∨ k = 11 ∨ k = 12 := by omega
 rcases this with rfl | rfl | rfl | rfl | rfl | rfl | rfl | rfl | rfl | rfl | rfl | rfl | rfl <;> rfl
theorem axes_of {W : World} {l : List (String × DataW Unit)} (hL : laidMet Tryz.prog l W) (he : ("pleacher/read.axes", Rows.laid_pleacher_read_axes) ∈ l) : AxTab W ∧ 8 < W.heap.size := by
 obtain ⟨g, t, cs, fuel, p, hg, hty, hvar, hd⟩ := Lib.laidMet.reads hL he
 obtain rfl := Option.some.inj (gAx.symm.trans hg)
 obtain rfl := Option.some.inj (gAxType.symm.trans hty)
 have hlen : cs.toList.length = 13 := by
  obtain ⟨xs, m, _, _, h, _⟩ := DataW.trod_array Tryz.underlying156 hd
  rw [h, cellsAx]
 have hcs : cs = axCells := by
  refine Array.toList_inj.1 (List.ext_getElem? fun k => ?_)
  by_cases hk : k < 13
  · obtain ⟨ds, e1, e2⟩ := axes_data k hk
    rw [e1] at hd
    obtain ⟨f, d, q, h1, h2⟩ := Lib.array_elem Tryz.underlying156 hd k hk
    rw [e2] at h1
    obtain rfl := Option.some.inj h1
    rw [cells9T] at h2
    obtain ⟨s, e3, e4, _⟩ := DataW.trod_string Tryz.underlying9 h2
    simp only [Prod.mk.injEq, DataW.lit.injEq, Lit.string.injEq] at e4
    rw [axesCells_at k hk]
    have e5 : s = axN k := by
     have := e4.1
     cases hh : s; cases hj : axN k
     rw [hh, hj] at this
     congr 1
     exact (Array.toList_inj.1 this).symm
    rw [e5] at e3
    have := congrArg (fun l : List Value => l[0]?) e3
    simpa using this
  · rw [List.getElem?_eq_none (by omega), List.getElem?_eq_none (by show axCells.toList.length ≤ k; have : axCells.toList.length = 13 := rfl; omega)]
 subst hcs
 unfold World.var? at hvar
 rw [gAx] at hvar
 simp only [Option.bind_some] at hvar
 unfold AxTab
 cases hh : W.heap[8]? with
 | none => rw [hh] at hvar; cases hvar
 | some o =>
  rw [hh] at hvar
  have hlt : 8 < W.heap.size := by
   by_cases h : 8 < W.heap.size
   · exact h
   · rw [Array.getElem?_eq_none (by omega)] at hh; cases hh
  cases o with
  | cells c t fr => simp only [Option.some.injEq] at hvar; subst hvar; exact ⟨⟨t, fr, rfl⟩, hlt⟩
  | _ => cases hvar
open Go.ChangeShapes Go.WideShapes Go.ChangeAt Go.RowKit
def litD : DataW Unit → Value
 | .lit (.int k n) => .int k n
 | .lit (.string l) => .string ⟨l.toArray⟩
 | _ => .int .i64 0
def aggD : DataW Unit → Array Value
 | .agg l => (l.map litD).toArray
 | _ => #[]
noncomputable def laidWorldD (os : Os) : World :=
 let w0 := World.holding Tryz.prog os ⟨#[], #[], []⟩
 let put (h : Array Obj) (g : Nat) (cs : Array Value) : Array Obj := h.modify g fun
  | .cells _ t frozen => .cells cs t frozen
  | o => o
 let h1 := put w0.heap (Tryz.laysValid_ren.g 3) (Lib.firstTab.map fun z => Value.int .u8 z).toArray
 let h2 := put h1 (Tryz.laysValid_ren.g 4) ((List.range 16).flatMap fun i => [Value.int .u8 (Lib.accLo i), Value.int .u8 (Lib.accHi i)]).toArray
 let h3 := put h2 0 mkCells
 let h4 := put h3 5 opCells
 let h5 := put h4 8 (aggD Rows.laid_pleacher_read_axes)
 let h6 := put h5 9 (aggD Rows.laid_pleacher_read_kindTests)
 { w0 with heap := h6 }
open Go.ChangeShapes Go.WideShapes Go.ChangeAt Go.RowKit
noncomputable def laidWorldQ (os : Os) : World :=
 let w0 := laidWorldD os
 let put (h : Array Obj) (g : Nat) (cs : Array Value) : Array Obj := h.modify g fun
  | .cells _ t frozen => .cells cs t frozen
  | o => o
 let h4 := put w0.heap 6 (aggD Rows.laid_math_bits_deBruijn32tab)
 let h5 := put h4 7 (aggD Rows.laid_math_bits_deBruijn64tab)
 let h6 := put h5 4 (aggD Rows.laid_internal_strconv_uint64pow10)
 { w0 with heap := h6 }
end Go.Proofs.YtbnlekhjgkojlaaGreatDoor
