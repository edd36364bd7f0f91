/-
  A TOKEN THAT COMES IN, opened; the table of marks out of what a row lists.
-/
import Derived.Test.YtcbpjgnbdpfiiaaGreatDoorRgIn
import Derived.Test.YtcbpjgnbdpfiiaaGreatDoorTie
import Derived.ProofKit
import Derived.Lib.LaidTab
import Derived.Lib.LaidIn
import Derived.Lib.LaidU8T
import Derived.PinnedBridge
import Derived.Test.YtcbpjgnbdpfiiaaGreatDoorCkMap
import Derived.WalkKit
import Derived.WalkSpells
import Derived.WalkLawsBesides
import Derived.Outline
import Derived.Lib.Builder
import Derived.Test.YtcbpjgnbdpfiiaaGreatDoorPtStep
import Derived.Test.YtcbpjgnbdpfiiaaGreatDoorTcCode
import Derived.Deep.Strs
import Derived.Deep.Slices
import Derived.SizedLaws
import Derived.OpenShut
import Derived.Lib.LaidU8
namespace Go.Proofs.YtcbpjgnbdpfiiaaGreatDoor
open Go.ChangeShapes Go.WideShapes Go.ChangeAt Go.RowKit

theorem accept_eq : (Rows.laid_unicode_utf8_acceptRanges : DataW Unit) = Lib.acceptData := by kernel_rfl
theorem first_eq : Rows.laid_unicode_utf8_first = Lib.firstData := Pinned.utf8First_eq
/-- what a row lists gives the tables -/
theorem tabs_of {W : World} {l : List (String × DataW Unit)} (hL : laidMet Tryz.prog l W) (hf : ("unicode/utf8.first", Rows.laid_unicode_utf8_first) ∈ l) (ha : ("unicode/utf8.acceptRanges", Rows.laid_unicode_utf8_acceptRanges) ∈ l) : Tabs W := by
  have h1 : Lib.VarReads Tryz.prog W "unicode/utf8.first" Rows.laid_unicode_utf8_first := Lib.laidMet.reads hL hf
  have h2 : Lib.VarReads Tryz.prog W "unicode/utf8.acceptRanges" Rows.laid_unicode_utf8_acceptRanges := Lib.laidMet.reads hL ha
  rw [first_eq] at h1
  rw [accept_eq] at h2
  exact utf8Tabs_of_readsT (U8Types.of196 Tryz.laysValid) ⟨by kernel_rfl, by kernel_rfl, by kernel_rfl, by kernel_rfl, by kernel_rfl, by kernel_rfl, by kernel_rfl⟩ h1 h2

end Go.Proofs.YtcbpjgnbdpfiiaaGreatDoor
set_option linter.unusedVariables false
namespace Go.Proofs.YtcbpjgnbdpfiiaaGreatDoor
set_option maxRecDepth 100000
open Go.RowKit Go.WideShapes

theorem wpList_vput {ops : Array Oper} {rest : List Oper} {o : Oper} {a : Act} {w : World} {Q : Exit → Act → World → Prop} (hgd : o.guard = none) (m x y : Operand) (t el : TypeId) (hop : o.op = Op.mapUpdate t m x y) (ht : Tryz.prog.underlying t = some (.map 9 el))
    (M : Nat) (V : ByteArray → Option Value) (k : ByteArray) (v : Value) (hm : a.eval m = .map (some M)) (hx : a.eval x = .string k) (hy : a.eval y = v) (hk : k.size ≤ maxLen) (hV : VMap w M V)
    (h : ∀ w', VMap w' M (putV V k v) → TurnedM w w' M → wpList Tryz.prog ops Q rest (a.put o.dst undef) w') : wpList Tryz.prog ops Q (o :: rest) a w :=
  wpList_plain hgd fun _ hK => by
    obtain ⟨w', h1, h2, h3⟩ := hV.put hk v ht
    unfold Oper.wp
    simp [execOp, hop, hm, hx, hy, h1, Result.andThen]
    exact hK _ _ (h w' h2 h3)
theorem wpList_vins {ops : Array Oper} {rest : List Oper} {o : Oper} {a : Act} {w : World} {Q : Exit → Act → World → Prop} (hgd : o.guard = none) (m x y : Operand) (t el : TypeId) (hop : o.op = Op.insert t m x y) (ht : Tryz.prog.underlying t = some (.map 9 el))
    (M : Nat) (V : ByteArray → Option Value) (k : ByteArray) (v : Value) (hm : a.eval m = .map (some M)) (hx : a.eval x = .string k) (hy : a.eval y = v) (hk : k.size ≤ maxLen) (hV : VMap w M V)
    (h : ∀ w', VMap w' M (putV V k v) → TurnedM w w' M → wpList Tryz.prog ops Q rest (a.put o.dst undef) w') : wpList Tryz.prog ops Q (o :: rest) a w :=
  wpList_plain hgd fun _ hK => by
    obtain ⟨w', h1, h2, h3⟩ := hV.put hk v ht
    unfold Oper.wp
    simp [execOp, hop, hm, hx, hy, h1, Result.andThen]
    exact hK _ _ (h w' h2 h3)
theorem wpList_vlook {ops : Array Oper} {rest : List Oper} {o : Oper} {a : Act} {w : World} {Q : Exit → Act → World → Prop} (hgd : o.guard = none) (m x : Operand) (t el : TypeId) (z : Value) (hop : o.op = Op.lookup t m x false) (ht : Tryz.prog.underlying t = some (.map 9 el)) (hz : (zeroValue el).run Tryz.prog w = .ok z w)
    (M : Nat) (V : ByteArray → Option Value) (k : ByteArray) (hm : a.eval m = .map (some M)) (hx : a.eval x = .string k) (hk : k.size ≤ maxLen) (hV : VMap w M V)
    (h : wpList Tryz.prog ops Q rest (a.put o.dst ((V k).getD z)) w) : wpList Tryz.prog ops Q (o :: rest) a w :=
  wpList_plain hgd fun _ hK => by
    have h1 := (hV.look hk ht hz).1
    unfold Oper.wp
    simp [execOp, hop, hm, hx, h1, Result.andThen]
    exact hK _ _ h
theorem wpList_vrange {ops : Array Oper} {rest : List Oper} {o : Oper} {a : Act} {w : World} {Q : Exit → Act → World → Prop} (hgd : o.guard = none) (m : Operand) (t el : TypeId) (hop : o.op = Op.range t m) (ht : Tryz.prog.underlying t = some (.map 9 el))
    (M : Nat) (V : ByteArray → Option Value) (hm : a.eval m = .map (some M)) (hV : VMap w M V) (D : Value → Prop)
    (h : ∀ w' left, VRng w' w.heap.size M V D left → w'.heap.size = w.heap.size + 1 → (∀ b, b < w.heap.size → w'.heap[b]? = w.heap[b]?) → w'.os = w.os → w'.tape = w.tape → w'.output = w.output → wpList Tryz.prog ops Q rest (a.put o.dst (.pointer (some ⟨w.heap.size, 0, none⟩))) w') : wpList Tryz.prog ops Q (o :: rest) a w :=
  wpList_plain hgd fun _ hK => by
    obtain ⟨w', left, h1, h2, h3, h4, h5, h6, h7⟩ := hV.range ht D
    unfold Oper.wp
    simp [execOp, hop, hm, h1, Result.andThen]
    exact hK _ _ (h w' left h2 h3 h4 h5 h6 h7)
theorem wpList_vnext {ops : Array Oper} {rest : List Oper} {o : Oper} {a : Act} {w : World} {Q : Exit → Act → World → Prop} (hgd : o.guard = none) (it : Operand) (hop : o.op = Op.next it false)
    (r M : Nat) (V : ByteArray → Option Value) (D : Value → Prop) (left : Nat) (hit : a.eval it = .pointer (some ⟨r, 0, none⟩)) (hR : VRng w r M V D left)
    (hDone : (∀ x v, V x = some v → D v) → wpList Tryz.prog ops Q rest (a.put o.dst (.tuple #[.bool false])) w)
    (hMore : ∀ x v w1 left', V x = some v → (Instr.entry (.pointer (some ⟨r, 0, none⟩))).run Tryz.prog w1 = .ok (.tuple #[.string x, v]) w1 → left' < left → VRng w1 r M V (fun u => D u ∨ u = v) left' → TurnedM w w1 r → wpList Tryz.prog ops Q rest (a.put o.dst (.tuple #[.bool true, .string x, v])) w1) : wpList Tryz.prog ops Q (o :: rest) a w :=
  wpList_plain hgd fun _ hK => by
    unfold Oper.wp
    rcases hR.next o.type with ⟨h1, h2⟩ | ⟨x, v, w1, left', h1, h2, h3, h4, h5, h6⟩
    · simp [execOp, hop, hit, h2, Result.andThen]
      exact hK _ _ (hDone h1)
    · simp [execOp, hop, hit, h2, Result.andThen]
      exact hK _ _ (hMore x v w1 left' h1 h3 h4 h5 h6)
/-- a row of texts -/
def TxtsL (w : World) (v : Value) (L : List ByteArray) : Prop :=
  ∃ b off cap, v = .slice (some ⟨b, off, none⟩) L.length cap ∧ L.length ≤ cap ∧ cap ≤ maxLen ∧ b < w.heap.size ∧ ∀ i (h : i < L.length), w.cell? ⟨b, off + i, none⟩ = some (.string L[i])
theorem txts_lit (w : World) (L : List ByteArray) (hL : L.length ≤ maxLen) : TxtsL (w.alloc (.cells (L.map Value.string).toArray 9)) (.slice (some ⟨w.heap.size, 0, none⟩) L.length L.length) L :=
  ⟨w.heap.size, 0, L.length, rfl, Nat.le_refl _, hL, by simp, fun i h => by rw [show (0 + i) = i by omega, Lib.cell_of_heap (heap_alloc_new w _) i]; simp [h]⟩
theorem txts_at (w : World) (L : List ByteArray) (n : Nat) (hn : w.heap.size = n) (hL : L.length ≤ maxLen) : TxtsL (w.alloc (.cells (L.map Value.string).toArray 9)) (.slice (some ⟨n, 0, none⟩) L.length L.length) L := by
  subst hn; exact txts_lit w L hL
theorem TxtsL.keep {w w' : World} {v : Value} {L : List ByteArray} (h : TxtsL w v L) (hs : w.heap.size ≤ w'.heap.size) (hb : ∀ n c b off, v = .slice (some ⟨b, off, none⟩) n c → w'.heap[b]? = w.heap[b]?) : TxtsL w' v L := by
  obtain ⟨b, off, cap, h1, h2, h3, h4, h5⟩ := h
  exact ⟨b, off, cap, h1, h2, h3, by omega, fun i hi => by rw [← h5 i hi]; unfold World.cell?; rw [hb _ _ _ _ h1]⟩
/-- a function's entry -/
def fV (x : ByteArray) (a : Int) : Value := .agg #[.string x, .int .i64 a]
def putLL (V : ByteArray → Option Value) (a : Int) (L : List ByteArray) : ByteArray → Option Value := L.foldl (fun V x => putV V x (fV x a)) V
theorem putLL_take {V : ByteArray → Option Value} {a : Int} {L : List ByteArray} {k : Nat} (h : k < L.length) : putLL V a (L.take (k + 1)) = putV (putLL V a (L.take k)) L[k] (fV L[k] a) := by
  unfold putLL
  rw [List.take_succ_eq_append_getElem h, List.foldl_append]
  rfl
theorem putLL_is (a : Int) : ∀ (L : List ByteArray) (V : ByteArray → Option Value) (x : ByteArray), putLL V a L x = if hasB L x = true then some (fV x a) else V x
  | [], V, x => by simp [putLL, hasB]
  | y :: L, V, x => by
    have ih := putLL_is a L (putV V y (fV y a)) x
    have e : putLL V a (y :: L) x = putLL (putV V y (fV y a)) a L x := rfl
    rw [e, ih]
    have hh : hasB (y :: L) x = ((x.toList == y.toList) || hasB L x) := rfl
    rw [hh]
    by_cases h : hasB L x = true
    · rw [if_pos h, h, Bool.or_true, if_pos rfl]
    · rw [if_neg h]
      have h' : hasB L x = false := by simpa using h
      rw [h', Bool.or_false]
      by_cases e2 : x = y
      · subst e2; rw [putV_same, if_pos (by simp)]
      · rw [putV_other _ _ e2, same_no e2, if_neg (by simp)]
set_option maxHeartbeats 800000 in
theorem add_is (M : Nat) (V : ByteArray → Option Value) (L : List ByteArray) (v : Value) (a : Int) (w : World) (hV : VMap w M V) (hv : TxtsL w v L) (hL : ∀ x ∈ L, x.size ≤ maxLen) :
    Calls Tryz.prog 47 #[.map (some M), .int .i64 a, v] w fun e w' => e = .returned (.tuple #[]) ∧ VMap w' M (putLL V a L) ∧ TurnedM w w' M := by
  obtain ⟨b, off, cap, rfl, hlc, hcm, hbw, hcells⟩ := hv
  have hbM : 0 < L.length → b ≠ M := fun h0 e => by
    obtain ⟨es, clock, h1, _⟩ := hV
    have := hcells 0 h0
    subst e
    simp [World.cell?, h1] at this
  have HC : Hid (∀ i (h : i < L.length), w.cell? ⟨b, off + i, none⟩ = some (.string L[i])) := hcells
  have HV : Hid (VMap w M V) := hV
  have HL : Hid (∀ x ∈ L, x.size ≤ maxLen) := hL
  unfold maxLen at hcm
  clear hcells hV hL
  go_enter Tryz.func47, Tryz.ntmps47
  go_wp2
  go_loopw [10] (fun i wr => ∃ k : Nat, k ≤ L.length ∧ i = .int .i64 k ∧ VMap wr M (putLL V a (L.take k)) ∧ TurnedM w wr M) (fun i _ => L.length - (intOf i).toNat)
  case atStart => exact ⟨0, Nat.zero_le _, rfl, HV.out, rfl, fun _ _ => rfl, rfl, rfl, rfl⟩
  case round =>
    obtain ⟨k, hk, rfl, hvm, htm⟩ := hrel
    by_cases hlt : k < L.length
    · have hii : (k : Int) < (L.length : Int) := by omega
      have hc : wr.cell? ⟨b, off + k, none⟩ = some (.string L[k]) := by
        rw [← HC.out k hlt]; unfold World.cell?; rw [htm.2.1 b (hbM (by omega))]
      have hs := HL.out L[k] (List.getElem_mem _)
      have HVM : Hid (VMap wr M (putLL V a (L.take k))) := hvm
      have HTM : Hid (TurnedM w wr M) := htm
      have HPL : Hid (putLL V a (L.take (k + 1)) = putV (putLL V a (L.take k)) L[k] (fV L[k] a)) := putLL_take hlt
      generalize L[k] = x at *
      clear hvm htm
      go_wp2_with (refine wpList_vput rfl (.tmp 14) (.tmp 15) (.tmp 18) 73 98 rfl Tryz.underlying73 M _ x (fV x a) rfl rfl rfl hs HVM.out ?_; intro w1 hv1 ht1; have HV1 : Hid (VMap w1 M (putV (putLL V a (L.take k)) x (fV x a))) := hv1; have HT1 : Hid (TurnedM wr w1 M) := ht1; clear hv1 ht1)
      go_roundw
      case rel => exact ⟨k + 1, by omega, by go_num, by rw [HPL.out]; exact HV1.out, HT1.out.1.trans HTM.out.1, fun c hc => (HT1.out.2.1 c hc).trans (HTM.out.2.1 c hc), HT1.out.2.2.1.trans HTM.out.2.2.1, HT1.out.2.2.2.1.trans HTM.out.2.2.2.1, HT1.out.2.2.2.2.trans HTM.out.2.2.2.2⟩
      case measure => simp [intOf]; omega
    · have e : k = L.length := by omega
      subst e
      rw [List.take_length] at hvm
      have HVM : Hid (VMap wr M (putLL V a L)) := hvm
      have HTM : Hid (TurnedM w wr M) := htm
      clear hvm htm
      go_wp2
      go_end0
      exact ⟨rfl, HVM.out, HTM.out⟩
end Go.Proofs.YtcbpjgnbdpfiiaaGreatDoor
set_option linter.unusedVariables false
namespace Go.Proofs.YtcbpjgnbdpfiiaaGreatDoor
set_option maxRecDepth 100000
open Go.RowKit Go.WideShapes

def cL1 : List ByteArray := [⟨#[99, 111, 117, 110, 116]⟩, ⟨#[101, 109, 112, 116, 121]⟩, ⟨#[101, 120, 105, 115, 116, 115]⟩, ⟨#[110, 111, 116]⟩, ⟨#[98, 111, 111, 108, 101, 97, 110]⟩, ⟨#[115, 117, 109]⟩, ⟨#[109, 105, 110]⟩, ⟨#[109, 97, 120]⟩, ⟨#[114, 101, 118, 101, 114, 115, 101]⟩, ⟨#[115, 116, 114, 105, 110, 103]⟩, ⟨#[100, 97, 116, 97]⟩, ⟨#[105, 110, 116, 101, 103, 101, 114]⟩, ⟨#[110, 97, 109, 101]⟩]
def cL2 : List ByteArray := [⟨#[99, 111, 110, 99, 97, 116]⟩, ⟨#[99, 111, 110, 116, 97, 105, 110, 115]⟩]
def cL3 : List ByteArray := [⟨#[115, 117, 98, 115, 116, 114, 105, 110, 103]⟩]
def callsV0 : ByteArray → Option Value := putV (putV (putV (fun _ => none) ⟨#[100, 105, 115, 116, 105, 110, 99, 116, 45, 118, 97, 108, 117, 101, 115]⟩ (fV ⟨#[100, 105, 115, 116, 105, 110, 99, 116]⟩ 1)) ⟨#[115, 116, 114, 105, 110, 103, 45, 108, 101, 110, 103, 116, 104]⟩ (fV ⟨#[108, 101, 110, 103, 116, 104]⟩ 1)) ⟨#[115, 116, 97, 114, 116, 115, 45, 119, 105, 116, 104]⟩ (fV ⟨#[115, 116, 97, 114, 116, 115]⟩ 2)
def callsV : ByteArray → Option Value := putLL (putLL (putLL callsV0 1 cL1) 2 cL2) 3 cL3
def oL1 : List ByteArray := [⟨#[43]⟩, ⟨#[45]⟩, ⟨#[42]⟩, ⟨#[100, 105, 118]⟩, ⟨#[109, 111, 100]⟩, ⟨#[61]⟩, ⟨#[33, 61]⟩, ⟨#[60]⟩, ⟨#[60, 61]⟩, ⟨#[62]⟩, ⟨#[62, 61]⟩, ⟨#[105, 115]⟩, ⟨#[60, 60]⟩, ⟨#[62, 62]⟩]
def oL2 : List ByteArray := [⟨#[97, 110, 100]⟩, ⟨#[111, 114]⟩, ⟨#[116, 111]⟩, ⟨#[117, 110, 105, 111, 110]⟩, ⟨#[105, 110, 116, 101, 114, 115, 101, 99, 116]⟩, ⟨#[101, 120, 99, 101, 112, 116]⟩]
def opersV0 : ByteArray → Option Value := putV (fun _ => none) ⟨#[124]⟩ (fV ⟨#[117, 110, 105, 111, 110]⟩ 2)
def opersV : ByteArray → Option Value := putLL (putLL opersV0 2 oL1) 2 oL2
def fL1 : List ByteArray := [⟨#[100, 100, 111]⟩, ⟨#[110, 101, 103]⟩]
def fL2 : List ByteArray := [⟨#[104, 111, 108, 100, 115]⟩]
theorem lits_small {L : List ByteArray} (h : L.all (fun x => decide (x.size ≤ 20)) = true) : ∀ x ∈ L, x.size ≤ maxLen := fun x hx => by
  have := of_decide_eq_true (List.all_eq_true.1 h x hx)
  unfold maxLen
  omega
theorem TurnedM.refl (w : World) (M : Nat) : TurnedM w w M := ⟨rfl, fun _ _ => rfl, rfl, rfl, rfl⟩
theorem below_new {B : Nat} {w w' : World} (h : Below B w w') (hB : B ≤ w.heap.size) (o : Obj) : Below B w (w'.alloc o) := h.alloc (Nat.le_trans hB h.size) o
set_option maxHeartbeats 1600000 in
theorem calls_is (w : World) : Calls Tryz.prog 23 #[] w fun e w' => e = .returned (.map (some w.heap.size)) ∧ VMap w' w.heap.size callsV ∧ Below w.heap.size w w' := by
  have HV0 : Hid (VMap (w.alloc (.map #[] 0)) w.heap.size (fun _ => none)) := VMap.made w
  have HB0 : Hid (Below w.heap.size w (w.alloc (.map #[] 0))) := (Below.refl _ _).alloc (Nat.le_refl _) _
  have HA : Hid (∀ (W : World) V L v a, VMap W w.heap.size V → TxtsL W v L → (∀ x ∈ L, x.size ≤ maxLen) → Calls Tryz.prog 47 #[.map (some w.heap.size), .int .i64 a, v] W fun e w' => e = .returned (.tuple #[]) ∧ VMap w' w.heap.size (putLL V a L) ∧ TurnedM W w' w.heap.size) := fun W V L v a h1 h2 h3 => add_is _ V L v a W h1 h2 h3
  have hmm := @run_makeMap Tryz.prog
  go_enter Tryz.func23, Tryz.ntmps23
  go_wp2_with (first
    | (refine wpList_vins rfl _ _ (.tmp 3) 73 98 rfl Tryz.underlying73 w.heap.size _ _ _ rfl rfl rfl (by decide) HV0.out ?_; intro w1 hv1 ht1; have HV1 : Hid (VMap w1 w.heap.size _) := hv1; have HB1 : Hid (Below w.heap.size w w1) := HB0.out.trans (ht1.below (Nat.le_refl _)); clear hv1 ht1 HV0 HB0)
    | (refine wpList_vins rfl _ _ (.tmp 4) 73 98 rfl Tryz.underlying73 w.heap.size _ _ _ rfl rfl rfl (by decide) HV1.out ?_; intro w2 hv2 ht2; have HV2 : Hid (VMap w2 w.heap.size _) := hv2; have HB2 : Hid (Below w.heap.size w w2) := HB1.out.trans (ht2.below (Nat.le_refl _)); clear hv2 ht2 HV1 HB1)
    | (refine wpList_vins rfl _ _ (.tmp 5) 73 98 rfl Tryz.underlying73 w.heap.size _ _ _ rfl rfl rfl (by decide) HV2.out ?_; intro w3 hv3 ht3; have HV3 : Hid (VMap w3 w.heap.size callsV0) := hv3; have HB3 : Hid (Below w.heap.size w w3) := HB2.out.trans (ht3.below (Nat.le_refl _)); have hz3 := HB3.out.size; clear hv3 ht3 HV2 HB2)
    | (go_at_call 47; refine (HA.out _ _ cL1 _ _ (HV3.out.alloc _) (txts_lit w3 cL1 (by decide)) (lits_small (by decide))).mono ?_; rintro e w4 ⟨rfl, hv4, ht4⟩; have HV4 : Hid (VMap w4 w.heap.size (putLL callsV0 1 cL1)) := hv4; have HB4 : Hid (Below w.heap.size w w4) := (below_new HB3.out (Nat.le_refl _) _).trans (ht4.below (Nat.le_refl _)); clear hv4 ht4 HV3 HB3 hz3)
    | (go_at_call 47; refine (HA.out _ _ cL2 _ _ (HV4.out.alloc _) (txts_lit w4 cL2 (by decide)) (lits_small (by decide))).mono ?_; rintro e w5 ⟨rfl, hv5, ht5⟩; have HV5 : Hid (VMap w5 w.heap.size (putLL (putLL callsV0 1 cL1) 2 cL2)) := hv5; have HB5 : Hid (Below w.heap.size w w5) := (below_new HB4.out (Nat.le_refl _) _).trans (ht5.below (Nat.le_refl _)); clear hv5 ht5 HV4 HB4)
    | (go_at_call 47; refine (HA.out _ _ cL3 _ _ (HV5.out.alloc _) (txts_lit w5 cL3 (by decide)) (lits_small (by decide))).mono ?_; rintro e w6 ⟨rfl, hv6, ht6⟩; have HV6 : Hid (VMap w6 w.heap.size callsV) := hv6; have HB6 : Hid (Below w.heap.size w w6) := (below_new HB5.out (Nat.le_refl _) _).trans (ht6.below (Nat.le_refl _)); clear hv6 ht6 HV5 HB5))
  go_ret
  exact ⟨rfl, HV6.out, HB6.out⟩
set_option maxHeartbeats 1600000 in
theorem operators_is (w : World) : Calls Tryz.prog 24 #[] w fun e w' => e = .returned (.map (some w.heap.size)) ∧ VMap w' w.heap.size opersV ∧ Below w.heap.size w w' := by
  have HV0 : Hid (VMap (w.alloc (.map #[] 0)) w.heap.size (fun _ => none)) := VMap.made w
  have HB0 : Hid (Below w.heap.size w (w.alloc (.map #[] 0))) := (Below.refl _ _).alloc (Nat.le_refl _) _
  have HA : Hid (∀ (W : World) V L v a, VMap W w.heap.size V → TxtsL W v L → (∀ x ∈ L, x.size ≤ maxLen) → Calls Tryz.prog 47 #[.map (some w.heap.size), .int .i64 a, v] W fun e w' => e = .returned (.tuple #[]) ∧ VMap w' w.heap.size (putLL V a L) ∧ TurnedM W w' w.heap.size) := fun W V L v a h1 h2 h3 => add_is _ V L v a W h1 h2 h3
  have hmm := @run_makeMap Tryz.prog
  go_enter Tryz.func24, Tryz.ntmps24
  go_wp2_with (first
    | (refine wpList_vins rfl _ _ (.tmp 3) 73 98 rfl Tryz.underlying73 w.heap.size _ _ _ rfl rfl rfl (by decide) HV0.out ?_; intro w3 hv3 ht3; have HV3 : Hid (VMap w3 w.heap.size opersV0) := hv3; have HB3 : Hid (Below w.heap.size w w3) := HB0.out.trans (ht3.below (Nat.le_refl _)); clear hv3 ht3 HV0 HB0)
    | (go_at_call 47; refine (HA.out _ _ oL1 _ _ (HV3.out.alloc _) (txts_lit w3 oL1 (by decide)) (lits_small (by decide))).mono ?_; rintro e w4 ⟨rfl, hv4, ht4⟩; have HV4 : Hid (VMap w4 w.heap.size (putLL opersV0 2 oL1)) := hv4; have HB4 : Hid (Below w.heap.size w w4) := (below_new HB3.out (Nat.le_refl _) _).trans (ht4.below (Nat.le_refl _)); clear hv4 ht4 HV3 HB3)
    | (go_at_call 47; refine (HA.out _ _ oL2 _ _ (HV4.out.alloc _) (txts_lit w4 oL2 (by decide)) (lits_small (by decide))).mono ?_; rintro e w6 ⟨rfl, hv6, ht6⟩; have HV6 : Hid (VMap w6 w.heap.size opersV) := hv6; have HB6 : Hid (Below w.heap.size w w6) := (below_new HB4.out (Nat.le_refl _) _).trans (ht6.below (Nat.le_refl _)); clear hv6 ht6 HV4 HB4))
  go_ret
  exact ⟨rfl, HV6.out, HB6.out⟩
end Go.Proofs.YtcbpjgnbdpfiiaaGreatDoor
set_option linter.unusedVariables false
namespace Go.Proofs.YtcbpjgnbdpfiiaaGreatDoor
set_option maxRecDepth 100000
open Go.RowKit

/-- two tokens are held against each other -/
theorem eqT_run {k n k' n' : Int} {s s' : ByteArray} {v : Bool} (h : eqT ⟨k, s, n⟩ ⟨k', s', n'⟩ = v) (W : World) : Sem.run Tryz.prog (binOp .eql 50 (.agg #[.int .i64 k, .string s, .int .i64 n]) (.agg #[.int .i64 k', .string s', .int .i64 n'])) W = .ok (.bool v) W := by
  subst h
  by_cases h1 : k = k'
  · by_cases h2 : s = s'
    · by_cases h3 : n = n'
      · subst h1 h2 h3; simp [eqT, go_sem]
      · have := beq_eq_false_iff_ne.2 h3
        subst h1 h2; simp [eqT, go_sem, h3]
    · have h2' : (s.toList == s'.toList) = false := by rw [toL_eq, decide_eq_false h2]
      subst h1; simp [eqT, go_sem, h2, h2']
  · simp [eqT, go_sem, h1]
end Go.Proofs.YtcbpjgnbdpfiiaaGreatDoor
set_option linter.unusedVariables false
namespace Go.Proofs.YtcbpjgnbdpfiiaaGreatDoor
set_option maxRecDepth 100000
open Go.RowKit

/-- does a single begin with it? -/
def singleB (u : Tok) : Bool := eqT u ⟨5, ⟨#[45]⟩, 0⟩ || eqT u ⟨5, ⟨#[47]⟩, 0⟩ || eqT u ⟨5, ⟨#[47, 47]⟩, 0⟩ || stepB u
set_option maxHeartbeats 800000 in
theorem singleBegins_m0 {w : World} {pb b c : Nat} {T : List Tok} {st : Pst} (h : PaS w pb b c T st) (hT : T.length ≤ 200) (hat : st.at' ≤ 300) {us : ByteArray} {uk un : Int} (hu : seeM T st 0 = ⟨uk, us, un⟩) (c0 : eqT ⟨uk, us, un⟩ ⟨5, ⟨#[45]⟩, 0⟩ = true) :
    Calls Tryz.prog 44 #[.pointer (some ⟨pb, 0, none⟩)] w fun e w' => e = .returned (.bool true) ∧ Below w.heap.size w w' := by
  have CS : Hid (∀ W, Below w.heap.size w W → Calls Tryz.prog 70 #[.pointer (some ⟨pb, 0, none⟩), .int .i64 0] W fun e w' => e = .returned (.agg #[.int .i64 uk, .string us, .int .i64 un]) ∧ Below w.heap.size w w') := fun W hW => (see_lit (h.below hW) 0 (by omega) hT hat hu).mono fun e w' ⟨k1, k2⟩ => ⟨k1, hW.trans (k2.mono hW.size)⟩
  have E0 := eqT_run (k := uk) (s := us) (n := un) (k' := 5) (s' := ⟨#[45]⟩) (n' := 0) c0
  have HB0 : Hid (Below w.heap.size w w) := Below.refl _ _
  clear h
  go_enter Tryz.func44, Tryz.ntmps44
  go_wp2_with (first
    | (go_at_call 70; have HNX := HB0; (first | refine (CS.out _ HB0.out).mono ?_ | refine (CS.out _ (HB0.out.alloc HB0.out.size _)).mono ?_); rintro e w1 ⟨rfl, hb⟩; have HB1 : Hid (Below w.heap.size w w1) := hb; clear hb HNX HB0)
    | (go_at_call 71; have HNX := HB1; refine (mark_is _ _).mono ?_; rintro e w2 ⟨rfl, hb⟩; have HB2 : Hid (Below w.heap.size w w2) := (by first | exact HB1.out.trans (hb.mono HB1.out.size) | exact (HB1.out.alloc HB1.out.size _).trans (hb.mono (by have := HB1.out.size; simp; omega))); clear hb HNX HB1))
  go_ret
  exact ⟨rfl, by first | exact HB2.out | exact HB2.out.alloc HB2.out.size _⟩
set_option maxHeartbeats 800000 in
theorem singleBegins_m1 {w : World} {pb b c : Nat} {T : List Tok} {st : Pst} (h : PaS w pb b c T st) (hT : T.length ≤ 200) (hat : st.at' ≤ 300) {us : ByteArray} {uk un : Int} (hu : seeM T st 0 = ⟨uk, us, un⟩) (c0 : eqT ⟨uk, us, un⟩ ⟨5, ⟨#[45]⟩, 0⟩ = false) (c1 : eqT ⟨uk, us, un⟩ ⟨5, ⟨#[47]⟩, 0⟩ = true) :
    Calls Tryz.prog 44 #[.pointer (some ⟨pb, 0, none⟩)] w fun e w' => e = .returned (.bool true) ∧ Below w.heap.size w w' := by
  have CS : Hid (∀ W, Below w.heap.size w W → Calls Tryz.prog 70 #[.pointer (some ⟨pb, 0, none⟩), .int .i64 0] W fun e w' => e = .returned (.agg #[.int .i64 uk, .string us, .int .i64 un]) ∧ Below w.heap.size w w') := fun W hW => (see_lit (h.below hW) 0 (by omega) hT hat hu).mono fun e w' ⟨k1, k2⟩ => ⟨k1, hW.trans (k2.mono hW.size)⟩
  have E0 := eqT_run (k := uk) (s := us) (n := un) (k' := 5) (s' := ⟨#[45]⟩) (n' := 0) c0
  have E1 := eqT_run (k := uk) (s := us) (n := un) (k' := 5) (s' := ⟨#[47]⟩) (n' := 0) c1
  have HB0 : Hid (Below w.heap.size w w) := Below.refl _ _
  clear h
  go_enter Tryz.func44, Tryz.ntmps44
  go_wp2_with (first
    | (go_at_call 70; have HNX := HB0; (first | refine (CS.out _ HB0.out).mono ?_ | refine (CS.out _ (HB0.out.alloc HB0.out.size _)).mono ?_); rintro e w1 ⟨rfl, hb⟩; have HB1 : Hid (Below w.heap.size w w1) := hb; clear hb HNX HB0)
    | (go_at_call 71; have HNX := HB1; refine (mark_is _ _).mono ?_; rintro e w2 ⟨rfl, hb⟩; have HB2 : Hid (Below w.heap.size w w2) := (by first | exact HB1.out.trans (hb.mono HB1.out.size) | exact (HB1.out.alloc HB1.out.size _).trans (hb.mono (by have := HB1.out.size; simp; omega))); clear hb HNX HB1)
    | (go_at_call 71; have HNX := HB2; refine (mark_is _ _).mono ?_; rintro e w3 ⟨rfl, hb⟩; have HB3 : Hid (Below w.heap.size w w3) := (by first | exact HB2.out.trans (hb.mono HB2.out.size) | exact (HB2.out.alloc HB2.out.size _).trans (hb.mono (by have := HB2.out.size; simp; omega))); clear hb HNX HB2))
  go_ret
  exact ⟨rfl, by first | exact HB3.out | exact HB3.out.alloc HB3.out.size _⟩
set_option maxHeartbeats 800000 in
theorem singleBegins_m2 {w : World} {pb b c : Nat} {T : List Tok} {st : Pst} (h : PaS w pb b c T st) (hT : T.length ≤ 200) (hat : st.at' ≤ 300) {us : ByteArray} {uk un : Int} (hu : seeM T st 0 = ⟨uk, us, un⟩) (c0 : eqT ⟨uk, us, un⟩ ⟨5, ⟨#[45]⟩, 0⟩ = false) (c1 : eqT ⟨uk, us, un⟩ ⟨5, ⟨#[47]⟩, 0⟩ = false) (c2 : eqT ⟨uk, us, un⟩ ⟨5, ⟨#[47, 47]⟩, 0⟩ = true) :
    Calls Tryz.prog 44 #[.pointer (some ⟨pb, 0, none⟩)] w fun e w' => e = .returned (.bool true) ∧ Below w.heap.size w w' := by
  have CS : Hid (∀ W, Below w.heap.size w W → Calls Tryz.prog 70 #[.pointer (some ⟨pb, 0, none⟩), .int .i64 0] W fun e w' => e = .returned (.agg #[.int .i64 uk, .string us, .int .i64 un]) ∧ Below w.heap.size w w') := fun W hW => (see_lit (h.below hW) 0 (by omega) hT hat hu).mono fun e w' ⟨k1, k2⟩ => ⟨k1, hW.trans (k2.mono hW.size)⟩
  have E0 := eqT_run (k := uk) (s := us) (n := un) (k' := 5) (s' := ⟨#[45]⟩) (n' := 0) c0
  have E1 := eqT_run (k := uk) (s := us) (n := un) (k' := 5) (s' := ⟨#[47]⟩) (n' := 0) c1
  have E2 := eqT_run (k := uk) (s := us) (n := un) (k' := 5) (s' := ⟨#[47, 47]⟩) (n' := 0) c2
  have HB0 : Hid (Below w.heap.size w w) := Below.refl _ _
  clear h
  go_enter Tryz.func44, Tryz.ntmps44
  go_wp2_with (first
    | (go_at_call 70; have HNX := HB0; (first | refine (CS.out _ HB0.out).mono ?_ | refine (CS.out _ (HB0.out.alloc HB0.out.size _)).mono ?_); rintro e w1 ⟨rfl, hb⟩; have HB1 : Hid (Below w.heap.size w w1) := hb; clear hb HNX HB0)
    | (go_at_call 71; have HNX := HB1; refine (mark_is _ _).mono ?_; rintro e w2 ⟨rfl, hb⟩; have HB2 : Hid (Below w.heap.size w w2) := (by first | exact HB1.out.trans (hb.mono HB1.out.size) | exact (HB1.out.alloc HB1.out.size _).trans (hb.mono (by have := HB1.out.size; simp; omega))); clear hb HNX HB1)
    | (go_at_call 71; have HNX := HB2; refine (mark_is _ _).mono ?_; rintro e w3 ⟨rfl, hb⟩; have HB3 : Hid (Below w.heap.size w w3) := (by first | exact HB2.out.trans (hb.mono HB2.out.size) | exact (HB2.out.alloc HB2.out.size _).trans (hb.mono (by have := HB2.out.size; simp; omega))); clear hb HNX HB2)
    | (go_at_call 71; have HNX := HB3; refine (mark_is _ _).mono ?_; rintro e w4 ⟨rfl, hb⟩; have HB4 : Hid (Below w.heap.size w w4) := (by first | exact HB3.out.trans (hb.mono HB3.out.size) | exact (HB3.out.alloc HB3.out.size _).trans (hb.mono (by have := HB3.out.size; simp; omega))); clear hb HNX HB3))
  go_ret
  exact ⟨rfl, by first | exact HB4.out | exact HB4.out.alloc HB4.out.size _⟩
set_option maxHeartbeats 800000 in
theorem singleBegins_m3 {w : World} {pb b c : Nat} {T : List Tok} {st : Pst} (h : PaS w pb b c T st) (hT : T.length ≤ 200) (hat : st.at' ≤ 300) {us : ByteArray} {uk un : Int} (hu : seeM T st 0 = ⟨uk, us, un⟩) (c0 : eqT ⟨uk, us, un⟩ ⟨5, ⟨#[45]⟩, 0⟩ = false) (c1 : eqT ⟨uk, us, un⟩ ⟨5, ⟨#[47]⟩, 0⟩ = false) (c2 : eqT ⟨uk, us, un⟩ ⟨5, ⟨#[47, 47]⟩, 0⟩ = false) :
    Calls Tryz.prog 44 #[.pointer (some ⟨pb, 0, none⟩)] w fun e w' => e = .returned (.bool (stepB ⟨uk, us, un⟩)) ∧ Below w.heap.size w w' := by
  have CS : Hid (∀ W, Below w.heap.size w W → Calls Tryz.prog 70 #[.pointer (some ⟨pb, 0, none⟩), .int .i64 0] W fun e w' => e = .returned (.agg #[.int .i64 uk, .string us, .int .i64 un]) ∧ Below w.heap.size w w') := fun W hW => (see_lit (h.below hW) 0 (by omega) hT hat hu).mono fun e w' ⟨k1, k2⟩ => ⟨k1, hW.trans (k2.mono hW.size)⟩
  have CB : Hid (∀ W, Below w.heap.size w W → Calls Tryz.prog 72 #[.pointer (some ⟨pb, 0, none⟩)] W fun e w' => e = .returned (.bool (stepB ⟨uk, us, un⟩)) ∧ Below W.heap.size W w') := fun W hW => by have := stepBegins_any (h.below hW) hT hat; rwa [hu] at this
  generalize stepB ⟨uk, us, un⟩ = sb at CB ⊢
  have E0 := eqT_run (k := uk) (s := us) (n := un) (k' := 5) (s' := ⟨#[45]⟩) (n' := 0) c0
  have E1 := eqT_run (k := uk) (s := us) (n := un) (k' := 5) (s' := ⟨#[47]⟩) (n' := 0) c1
  have E2 := eqT_run (k := uk) (s := us) (n := un) (k' := 5) (s' := ⟨#[47, 47]⟩) (n' := 0) c2
  have HB0 : Hid (Below w.heap.size w w) := Below.refl _ _
  clear h
  go_enter Tryz.func44, Tryz.ntmps44
  go_wp2_with (first
    | (go_at_call 70; have HNX := HB0; (first | refine (CS.out _ HB0.out).mono ?_ | refine (CS.out _ (HB0.out.alloc HB0.out.size _)).mono ?_); rintro e w1 ⟨rfl, hb⟩; have HB1 : Hid (Below w.heap.size w w1) := hb; clear hb HNX HB0)
    | (go_at_call 71; have HNX := HB1; refine (mark_is _ _).mono ?_; rintro e w2 ⟨rfl, hb⟩; have HB2 : Hid (Below w.heap.size w w2) := (by first | exact HB1.out.trans (hb.mono HB1.out.size) | exact (HB1.out.alloc HB1.out.size _).trans (hb.mono (by have := HB1.out.size; simp; omega))); clear hb HNX HB1)
    | (go_at_call 71; have HNX := HB2; refine (mark_is _ _).mono ?_; rintro e w3 ⟨rfl, hb⟩; have HB3 : Hid (Below w.heap.size w w3) := (by first | exact HB2.out.trans (hb.mono HB2.out.size) | exact (HB2.out.alloc HB2.out.size _).trans (hb.mono (by have := HB2.out.size; simp; omega))); clear hb HNX HB2)
    | (go_at_call 71; have HNX := HB3; refine (mark_is _ _).mono ?_; rintro e w4 ⟨rfl, hb⟩; have HB4 : Hid (Below w.heap.size w w4) := (by first | exact HB3.out.trans (hb.mono HB3.out.size) | exact (HB3.out.alloc HB3.out.size _).trans (hb.mono (by have := HB3.out.size; simp; omega))); clear hb HNX HB3)
    | (go_at_call 72; (first | refine (CB.out _ HB4.out).mono ?_ | refine (CB.out _ (HB4.out.alloc HB4.out.size _)).mono ?_); rintro e w5 ⟨rfl, hb⟩; have HB5 : Hid (Below w.heap.size w w5) := (by first | exact HB4.out.trans (hb.mono HB4.out.size) | exact (HB4.out.alloc HB4.out.size _).trans (hb.mono (by have := HB4.out.size; simp; omega))); clear hb HB4))
  go_ret
  exact ⟨rfl, by first | exact HB5.out | exact HB5.out.alloc HB5.out.size _⟩
theorem singleBegins_any {w : World} {pb b c : Nat} {T : List Tok} {st : Pst} (h : PaS w pb b c T st) (hT : T.length ≤ 200) (hat : st.at' ≤ 300) : Calls Tryz.prog 44 #[.pointer (some ⟨pb, 0, none⟩)] w fun e w' => e = .returned (.bool (singleB (seeM T st 0))) ∧ Below w.heap.size w w' := by
  obtain ⟨⟨uk, us, un⟩, hu⟩ : ∃ u, seeM T st 0 = u := ⟨_, rfl⟩
  rw [hu]
  unfold singleB
  cases c0 : eqT ⟨uk, us, un⟩ ⟨5, ⟨#[45]⟩, 0⟩
  case true => simpa using singleBegins_m0 h hT hat hu c0
  cases c1 : eqT ⟨uk, us, un⟩ ⟨5, ⟨#[47]⟩, 0⟩
  case true => simpa using singleBegins_m1 h hT hat hu c0 c1
  cases c2 : eqT ⟨uk, us, un⟩ ⟨5, ⟨#[47, 47]⟩, 0⟩
  case true => simpa using singleBegins_m2 h hT hat hu c0 c1 c2
  simpa using singleBegins_m3 h hT hat hu c0 c1 c2
end Go.Proofs.YtcbpjgnbdpfiiaaGreatDoor
set_option linter.unusedVariables false
namespace Go.Proofs.YtcbpjgnbdpfiiaaGreatDoor
set_option maxRecDepth 100000
open Go.RowKit

theorem tk_word {l : List UInt8} (h : lett (bAt l 0) = true) (hl : 0 < l.length) : tk l = nameR 1 (l.drop 0) 0 := by
  have := wl_pos h hl
  unfold tk nameR
  rw [if_pos h, List.drop_zero, Nat.zero_add]
  by_cases h1 : wl l true ≤ 20
  · rw [if_pos h1, if_pos ⟨this, h1⟩]
  · rw [if_neg h1, if_neg (fun h => h1 h.2)]
theorem lett_no {c : Int} (h : c = 36 ∨ c = 34 ∨ dgt c = true) : lett c = false := by
  rw [Bool.eq_false_iff]
  intro h'
  have h2 := of_decide_eq_true h'
  rcases h with h | h | h
  · omega
  · omega
  · have := dgt_iff.1 h; omega
theorem tk_var {l : List UInt8} (h : bAt l 0 = 36) : tk l = nameR 4 (l.drop 1) 1 := by
  unfold tk nameR
  rw [if_neg (by rw [lett_no (.inl h)]; decide), if_pos h]
theorem tk_num {l : List UInt8} (h : dgt (bAt l 0) = true) : tk l = numR l := by
  unfold tk numR
  rw [if_neg (by rw [lett_no (.inr (.inr h))]; decide), if_neg (by have := dgt_iff.1 h; omega), if_pos h]
theorem dgt_no {c : Int} (h : c = 34 ∨ c = 36) : dgt c = false := by
  rw [Bool.eq_false_iff]
  intro h'
  have := dgt_iff.1 h'
  omega
theorem tk_quo {l : List UInt8} (h : bAt l 0 = 34) : tk l = quoR (l.drop 1) := by
  unfold tk quoR
  rw [if_neg (by rw [lett_no (.inr (.inl h))]; decide), if_neg (by omega), if_neg (by rw [dgt_no (.inl h)]; decide), if_pos h]
theorem tk_mark {l : List UInt8} (h1 : lett (bAt l 0) = false) (h2 : ¬ bAt l 0 = 36) (h3 : dgt (bAt l 0) = false) (h4 : ¬ bAt l 0 = 34) : tk l = if fm l = [] then (4, tok0, 0) else (0, ⟨5, bs (fm l), 0⟩, (fm l).length) := by
  unfold tk
  rw [if_neg (by rw [h1]; decide), if_neg h2, if_neg (by rw [h3]; decide), if_neg h4]

set_option maxHeartbeats 1600000 in
theorem firstToken_any (s : ByteArray) (w : World) (hs : s.size ≤ 1000) (h0 : 1 ≤ s.size) (hT : Tabs w) (hm : MaxL w) (hM : MarkTab w) (hg : 0 < w.heap.size) :
    Calls Tryz.prog 12 #[.string s] w fun e w' => e = .returned (resV (tk s.data.toList)) ∧ Below w.heap.size w w' := by
  have h0' : 0 < s.size := h0
  have hbe : bAt s.data.toList 0 = (s[0].toNat : Int) := by rw [← byteAt_bAt, byteAt_eq s 0 h0']
  have hBel : ∀ o, Below w.heap.size w (w.alloc o) := fun o => (Below.refl _ _).alloc (Nat.le_refl _) o
  by_cases c1 : lett (s[0].toNat : Int) = true
  · have HR : Hid (tk s.data.toList = nameR 1 (s.data.toList.drop 0) 0) := tk_word (by rw [hbe]; exact c1) h0'
    have CN : Hid (∀ o, Calls Tryz.prog 30 #[.int .i64 1, .string s, .int .i64 0] (w.alloc o) fun e w' => e = .returned (resV (nameR 1 (s.data.toList.drop 0) 0)) ∧ Below (w.alloc o).heap.size (w.alloc o) w') := fun o => name_any 1 s 0 _ hs (Nat.zero_le _)
    generalize nameR 1 (s.data.toList.drop 0) 0 = r at *
    obtain ⟨E, ⟨K, S, N⟩, Z⟩ := r
    simp only [resV, tokV] at CN
    clear hT hm hM hbe hBel
    go_enter Tryz.func12, Tryz.ntmps12
    go_wp2_with (first
      | (go_at_call 29; refine (isLetter_any _ _).mono ?_; rintro e w' ⟨rfl, rfl⟩)
      | (go_at_call 30; refine (CN.out _).mono ?_; rintro e w1 ⟨rfl, hb1⟩; have HB1 : Hid (Below w.heap.size w w1) := ((Below.refl _ _).alloc (Nat.le_refl _) _).trans (hb1.mono (by simp)); obtain ⟨hc1, hf1⟩ := bcell hb1; clear hb1))
    exact bodyPost_ret (v := .tuple #[.agg #[.int .i64 K, .string S, .int .i64 N], .int .i64 Z, .int .i64 E]) (by simp [results, Tryz.results12, go_sem, hc1]) rfl ⟨by rw [HR.out]; rfl, ((HB1.out.setCell (by simp) _).setCell (by simp) _).setCell (by simp) _⟩
  have c1' : lett (s[0].toNat : Int) = false := by simpa using c1
  clear c1
  by_cases c2 : (s[0].toNat : Int) = 36
  · have HR : Hid (tk s.data.toList = nameR 4 (s.data.toList.drop 1) 1) := tk_var (by rw [hbe]; exact c2)
    have CN : Hid (∀ o, Calls Tryz.prog 30 #[.int .i64 4, .string s, .int .i64 1] (w.alloc o) fun e w' => e = .returned (resV (nameR 4 (s.data.toList.drop 1) 1)) ∧ Below (w.alloc o).heap.size (w.alloc o) w') := fun o => name_any 4 s 1 _ hs h0
    generalize nameR 4 (s.data.toList.drop 1) 1 = r at *
    obtain ⟨E, ⟨K, S, N⟩, Z⟩ := r
    simp only [resV, tokV] at CN
    have c2' : ((s[0].toNat : Int) == 36) = true := by simpa using c2
    clear hT hm hM hbe hBel c2
    go_enter Tryz.func12, Tryz.ntmps12
    go_wp2_with (first
      | (go_at_call 29; refine (isLetter_any _ _).mono ?_; rintro e w' ⟨rfl, rfl⟩)
      | (go_at_call 30; refine (CN.out _).mono ?_; rintro e w1 ⟨rfl, hb1⟩; have HB1 : Hid (Below w.heap.size w w1) := ((Below.refl _ _).alloc (Nat.le_refl _) _).trans (hb1.mono (by simp)); obtain ⟨hc1, hf1⟩ := bcell hb1; clear hb1))
    exact bodyPost_ret (v := .tuple #[.agg #[.int .i64 K, .string S, .int .i64 N], .int .i64 Z, .int .i64 E]) (by simp [results, Tryz.results12, go_sem, hc1]) rfl ⟨by rw [HR.out]; rfl, ((HB1.out.setCell (by simp) _).setCell (by simp) _).setCell (by simp) _⟩
  have c2' : ((s[0].toNat : Int) == 36) = false := by simpa using c2
  by_cases c3 : dgt (s[0].toNat : Int) = true
  · have HR : Hid (tk s.data.toList = numR s.data.toList) := tk_num (by rw [hbe]; exact c3)
    have CN : Hid (∀ o, Calls Tryz.prog 32 #[.string s] (w.alloc o) fun e w' => e = .returned (resV (numR s.data.toList)) ∧ Below (w.alloc o).heap.size (w.alloc o) w') := fun o => number_any s _ hs
    generalize numR s.data.toList = r at *
    obtain ⟨E, ⟨K, S, N⟩, Z⟩ := r
    simp only [resV, tokV] at CN
    clear hT hm hM hbe hBel c2
    go_enter Tryz.func12, Tryz.ntmps12
    go_wp2_with (first
      | (go_at_call 29; refine (isLetter_any _ _).mono ?_; rintro e w' ⟨rfl, rfl⟩)
      | (go_at_call 31; refine (isDigit_any _ _).mono ?_; rintro e w' ⟨rfl, rfl⟩)
      | (go_at_call 32; refine (CN.out _).mono ?_; rintro e w1 ⟨rfl, hb1⟩; have HB1 : Hid (Below w.heap.size w w1) := ((Below.refl _ _).alloc (Nat.le_refl _) _).trans (hb1.mono (by simp)); obtain ⟨hc1, hf1⟩ := bcell hb1; clear hb1))
    exact bodyPost_ret (v := .tuple #[.agg #[.int .i64 K, .string S, .int .i64 N], .int .i64 Z, .int .i64 E]) (by simp [results, Tryz.results12, go_sem, hc1]) rfl ⟨by rw [HR.out]; rfl, ((HB1.out.setCell (by simp) _).setCell (by simp) _).setCell (by simp) _⟩
  have c3' : dgt (s[0].toNat : Int) = false := by simpa using c3
  clear c3
  by_cases c4 : (s[0].toNat : Int) = 34
  · have HR : Hid (tk s.data.toList = quoR (s.data.toList.drop 1)) := tk_quo (by rw [hbe]; exact c4)
    have CN : Hid (∀ o, Calls Tryz.prog 33 #[.string s] (w.alloc o) fun e w' => e = .returned (resV (quoR (s.data.toList.drop 1))) ∧ Below (w.alloc o).heap.size (w.alloc o) w') := fun o => quoted_any s _ hs h0 (Utf8Tabs_below hT (hBel o)) (hm.below (hBel o))
    generalize quoR (s.data.toList.drop 1) = r at *
    obtain ⟨E, ⟨K, S, N⟩, Z⟩ := r
    simp only [resV, tokV] at CN
    have c4' : ((s[0].toNat : Int) == 34) = true := by simpa using c4
    clear hT hm hM hbe hBel c2 c4
    go_enter Tryz.func12, Tryz.ntmps12
    go_wp2_with (first
      | (go_at_call 29; refine (isLetter_any _ _).mono ?_; rintro e w' ⟨rfl, rfl⟩)
      | (go_at_call 31; refine (isDigit_any _ _).mono ?_; rintro e w' ⟨rfl, rfl⟩)
      | (go_at_call 33; refine (CN.out _).mono ?_; rintro e w1 ⟨rfl, hb1⟩; have HB1 : Hid (Below w.heap.size w w1) := ((Below.refl _ _).alloc (Nat.le_refl _) _).trans (hb1.mono (by simp)); obtain ⟨hc1, hf1⟩ := bcell hb1; clear hb1))
    exact bodyPost_ret (v := .tuple #[.agg #[.int .i64 K, .string S, .int .i64 N], .int .i64 Z, .int .i64 E]) (by simp [results, Tryz.results12, go_sem, hc1]) rfl ⟨by rw [HR.out]; rfl, ((HB1.out.setCell (by simp) _).setCell (by simp) _).setCell (by simp) _⟩
  have c4' : ((s[0].toNat : Int) == 34) = false := by simpa using c4
  have HF : Hid (tk s.data.toList = if fm s.data.toList = [] then (4, tok0, 0) else (0, ⟨5, bs (fm s.data.toList), 0⟩, (fm s.data.toList).length)) := tk_mark (by rw [hbe]; exact c1') (by rw [hbe]; exact c2) (by rw [hbe]; exact c3') (by rw [hbe]; exact c4)
  have CN : Hid (∀ o, Calls Tryz.prog 34 #[.string s] (w.alloc o) fun e w' => e = .returned (.string (bs (fm s.data.toList))) ∧ w' = w.alloc o) := fun o => firstMark_any s _ (hM.below (hBel o) hg)
  have hsz : (bs (fm s.data.toList)).size = (fm s.data.toList).length := bs_size _
  have hln : (fm s.data.toList).length ≤ 1000 := by
    by_cases hf : fm s.data.toList = []
    · rw [hf]; simp
    · have := (fm_len hf).2
      have e : s.data.toList.length = s.size := rfl
      omega
  generalize tk s.data.toList = F at HF
  clear hT hm hM hbe hBel c2 c4
  by_cases hf : fm s.data.toList = []
  · have HR : Hid (F = (4, tok0, 0)) := HF.out.trans (if_pos hf)
    have he : (bs (fm s.data.toList)).toList.isEmpty = true := isEmpty_yes (by rw [hsz, hf]; rfl)
    clear HF hf hsz hln
    generalize bs (fm s.data.toList) = T at *
    go_enter Tryz.func12, Tryz.ntmps12
    go_wp2_with (first
      | (go_at_call 29; refine (isLetter_any _ _).mono ?_; rintro e w' ⟨rfl, rfl⟩)
      | (go_at_call 31; refine (isDigit_any _ _).mono ?_; rintro e w' ⟨rfl, rfl⟩)
      | (go_at_call 34; refine (CN.out _).mono ?_; rintro e w' ⟨rfl, rfl⟩))
    exact bodyPost_ret (v := .tuple #[.agg #[.int .i64 0, .string ⟨#[]⟩, .int .i64 0], .int .i64 0, .int .i64 4]) (by simp [results, Tryz.results12, go_sem]) rfl ⟨by rw [HR.out]; simp [resV, tokV, tok0], by first | exact (Below.refl _ _).alloc (Nat.le_refl _) _ | exact ((((Below.refl _ _).alloc (Nat.le_refl _) _).setCell (by simp) _).setCell (by simp) _).setCell (by simp) _⟩
  · have HR : Hid (F = (0, ⟨5, bs (fm s.data.toList), 0⟩, (bs (fm s.data.toList)).size)) := HF.out.trans ((if_neg hf).trans (by rw [hsz]))
    have he : (bs (fm s.data.toList)).toList.isEmpty = false := isEmpty_no (by rw [hsz]; intro e; exact hf (List.eq_nil_of_length_eq_zero e))
    have hT' : (bs (fm s.data.toList)).size ≤ 1000 := by omega
    clear HF hf hsz hln
    generalize bs (fm s.data.toList) = T at *
    go_enter Tryz.func12, Tryz.ntmps12
    go_wp2_with (first
      | (go_at_call 29; refine (isLetter_any _ _).mono ?_; rintro e w' ⟨rfl, rfl⟩)
      | (go_at_call 31; refine (isDigit_any _ _).mono ?_; rintro e w' ⟨rfl, rfl⟩)
      | (go_at_call 34; refine (CN.out _).mono ?_; rintro e w' ⟨rfl, rfl⟩))
    exact bodyPost_ret (v := .tuple #[.agg #[.int .i64 5, .string T, .int .i64 0], .int .i64 T.size, .int .i64 0]) (by simp [results, Tryz.results12, go_sem]) rfl ⟨by rw [HR.out]; simp [resV, tokV], by first | exact (Below.refl _ _).alloc (Nat.le_refl _) _ | exact ((((Below.refl _ _).alloc (Nat.le_refl _) _).setCell (by simp) _).setCell (by simp) _).setCell (by simp) _⟩
end Go.Proofs.YtcbpjgnbdpfiiaaGreatDoor
set_option linter.unusedVariables false
namespace Go.Proofs.YtcbpjgnbdpfiiaaGreatDoor
set_option maxRecDepth 100000
open Go.RowKit Go.ChangeShapes Go.WideShapes Go.ChangeAt Go.Deep

theorem cells9T : Tryz.prog.cellsOf 9 = 1 := by kernel_rfl
theorem cellsMarks : Tryz.prog.cellsOf 117 = 26 := by kernel_rfl
theorem gMarks : Tryz.prog.globalNamed "pleacher/read.marks" = some 0 := by kernel_rfl
theorem gMarksType : (Tryz.prog.globals[0]?).map (·.type) = some 117 := by kernel_rfl
theorem marks_data (k : Nat) (hk : k < 26) : ∃ ds : List (DataW Unit), Rows.laid_pleacher_read_marks = .agg ds ∧ ds[k]? = some (.lit (.string (mkAt k))) := by
  refine ⟨_, rfl, ?_⟩
  have : k = 0 ∨ k = 1 ∨ k = 2 ∨ k = 3 ∨ k = 4 ∨ k = 5 ∨ k = 6 ∨ k = 7 ∨ k = 8 ∨ k = 9 ∨ k = 10 ∨ k = 11 ∨ k = 12 ∨ k = 13 ∨ k = 14 ∨ k = 15 ∨ k = 16 ∨ k = 17 ∨ k = 18 ∨ k = 19 ∨ k = 20 ∨ k = 21 ∨ k = 22 ∨ k = 23 ∨ k = 24 ∨ k = 25 := by omega
  rcases this with rfl | rfl | rfl | rfl | rfl | rfl | rfl | rfl | rfl | rfl | rfl | rfl | rfl | rfl | rfl | rfl | rfl | rfl | rfl | rfl | rfl | rfl | rfl | rfl | rfl | rfl <;> rfl
theorem mkCells_at (k : Nat) (hk : k < 26) : mkCells.toList[k]? = some (.string (mkS k)) := by
  have : k = 0 ∨ k = 1 ∨ k = 2 ∨ k = 3 ∨ k = 4 ∨ k = 5 ∨ k = 6 ∨ k = 7 ∨ k = 8 ∨ k = 9 ∨ k = 10 ∨ k = 11 ∨ k = 12 ∨ k = 13 ∨ k = 14 ∨ k = 15 ∨ k = 16 ∨ k = 17 ∨ k = 18 ∨ k = 19 ∨ k = 20 ∨ k = 21 ∨ k = 22 ∨ k = 23 ∨ k = 24 ∨ k = 25 := by omega
  rcases this with rfl | rfl | rfl | rfl | rfl | rfl | rfl | rfl | rfl | rfl | rfl | rfl | rfl | rfl | rfl | rfl | rfl | rfl | rfl | rfl | rfl | rfl | rfl | rfl | rfl | rfl <;> rfl
/-- what a row lists gives the table of marks -/
theorem marks_of {W : World} {l : List (String × DataW Unit)} (hL : laidMet Tryz.prog l W) (he : ("pleacher/read.marks", Rows.laid_pleacher_read_marks) ∈ l) : MarkTab W ∧ 0 < W.heap.size := by
  obtain ⟨g, t, cs, fuel, p, hg, hty, hvar, hd⟩ := Lib.laidMet.reads hL he
  obtain rfl := Option.some.inj (gMarks.symm.trans hg)
  obtain rfl := Option.some.inj (gMarksType.symm.trans hty)
  have hlen : cs.toList.length = 26 := by
    obtain ⟨xs, m, _, _, h, _⟩ := DataW.trod_array Tryz.underlying117 hd
    rw [h, cellsMarks]
  have hcs : cs = mkCells := by
    refine Array.toList_inj.1 (List.ext_getElem? fun k => ?_)
    by_cases hk : k < 26
    · obtain ⟨ds, e1, e2⟩ := marks_data k hk
      rw [e1] at hd
      obtain ⟨f, d, q, h1, h2⟩ := Lib.array_elem Tryz.underlying117 hd k hk
      rw [e2] at h1
      obtain rfl := Option.some.inj h1
      rw [cells9T] at h2
      obtain ⟨s, e3, e4, _⟩ := DataW.trod_string Tryz.underlying9 h2
      simp only [Prod.mk.injEq, DataW.lit.injEq, Lit.string.injEq] at e4
      rw [mkCells_at k hk]
      have e5 : s = mkS k := by
        have := e4.1
        unfold mkS
        rw [this]
      rw [e5] at e3
      have := congrArg (fun l : List Value => l[0]?) e3
      simpa using this
    · rw [List.getElem?_eq_none (by omega), List.getElem?_eq_none (by show mkCells.toList.length ≤ k; have : mkCells.toList.length = 26 := rfl; omega)]
  subst hcs
  unfold World.var? at hvar
  rw [gMarks] at hvar
  simp only [Option.bind_some] at hvar
  unfold MarkTab
  cases hh : W.heap[0]? with
  | none => rw [hh] at hvar; cases hvar
  | some o =>
    rw [hh] at hvar
    have hlt : 0 < W.heap.size := by
      by_cases h : 0 < W.heap.size
      · exact h
      · rw [Array.getElem?_eq_none (by omega)] at hh; cases hh
    cases o with
    | cells c t fr => simp only [Option.some.injEq] at hvar; subst hvar; exact ⟨⟨t, fr, rfl⟩, hlt⟩
    | _ => cases hvar

end Go.Proofs.YtcbpjgnbdpfiiaaGreatDoor
