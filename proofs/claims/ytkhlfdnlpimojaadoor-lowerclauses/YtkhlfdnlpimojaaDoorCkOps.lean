/-
  LAWS for the walk: a map with texts as keys is asked, written, and ranged over; texts in a row.
-/
import Derived.Test.YtkhlfdnlpimojaaDoorCkMap
import Derived.WalkKit
import Derived.WalkSpells
import Derived.WalkLawsBesides
import Derived.Outline
import Derived.Lib.Builder
set_option linter.unusedVariables false
namespace Go.Proofs.YtkhlfdnlpimojaaDoor
set_option maxRecDepth 100000
open Go.RowKit Go.WideShapes

theorem wpList_vput {ops : Array Oper} {rest : List Oper} {o : Oper} {a : Act} {w : World} {Q : Exit → Act → World → Prop} (hgd : o.guard = none) (m x y : Operand) (t el : TypeId) (hop : o.op = Op.mapUpdate t m x y) (ht : Tryd.prog.underlying t = some (.map 9 el))
    (M : Nat) (V : ByteArray → Option Value) (k : ByteArray) (v : Value) (hm : a.eval m = .map (some M)) (hx : a.eval x = .string k) (hy : a.eval y = v) (hk : k.size ≤ maxLen) (hV : VMap w M V)
    (h : ∀ w', VMap w' M (putV V k v) → TurnedM w w' M → wpList Tryd.prog ops Q rest (a.put o.dst undef) w') : wpList Tryd.prog ops Q (o :: rest) a w :=
  wpList_plain hgd fun _ hK => by
    obtain ⟨w', h1, h2, h3⟩ := hV.put hk v ht
    unfold Oper.wp
    simp [execOp, hop, hm, hx, hy, h1, Result.andThen]
    exact hK _ _ (h w' h2 h3)
theorem wpList_vins {ops : Array Oper} {rest : List Oper} {o : Oper} {a : Act} {w : World} {Q : Exit → Act → World → Prop} (hgd : o.guard = none) (m x y : Operand) (t el : TypeId) (hop : o.op = Op.insert t m x y) (ht : Tryd.prog.underlying t = some (.map 9 el))
    (M : Nat) (V : ByteArray → Option Value) (k : ByteArray) (v : Value) (hm : a.eval m = .map (some M)) (hx : a.eval x = .string k) (hy : a.eval y = v) (hk : k.size ≤ maxLen) (hV : VMap w M V)
    (h : ∀ w', VMap w' M (putV V k v) → TurnedM w w' M → wpList Tryd.prog ops Q rest (a.put o.dst undef) w') : wpList Tryd.prog ops Q (o :: rest) a w :=
  wpList_plain hgd fun _ hK => by
    obtain ⟨w', h1, h2, h3⟩ := hV.put hk v ht
    unfold Oper.wp
    simp [execOp, hop, hm, hx, hy, h1, Result.andThen]
    exact hK _ _ (h w' h2 h3)
theorem wpList_vlook {ops : Array Oper} {rest : List Oper} {o : Oper} {a : Act} {w : World} {Q : Exit → Act → World → Prop} (hgd : o.guard = none) (m x : Operand) (t el : TypeId) (z : Value) (hop : o.op = Op.lookup t m x false) (ht : Tryd.prog.underlying t = some (.map 9 el)) (hz : (zeroValue el).run Tryd.prog w = .ok z w)
    (M : Nat) (V : ByteArray → Option Value) (k : ByteArray) (hm : a.eval m = .map (some M)) (hx : a.eval x = .string k) (hk : k.size ≤ maxLen) (hV : VMap w M V)
    (h : wpList Tryd.prog ops Q rest (a.put o.dst ((V k).getD z)) w) : wpList Tryd.prog ops Q (o :: rest) a w :=
  wpList_plain hgd fun _ hK => by
    have h1 := (hV.look hk ht hz).1
    unfold Oper.wp
    simp [execOp, hop, hm, hx, h1, Result.andThen]
    exact hK _ _ h
theorem wpList_vlook2 {ops : Array Oper} {rest : List Oper} {o : Oper} {a : Act} {w : World} {Q : Exit → Act → World → Prop} (hgd : o.guard = none) (m x : Operand) (t el : TypeId) (z : Value) (hop : o.op = Op.lookup t m x true) (ht : Tryd.prog.underlying t = some (.map 9 el)) (hz : (zeroValue el).run Tryd.prog w = .ok z w)
    (M : Nat) (V : ByteArray → Option Value) (k : ByteArray) (hm : a.eval m = .map (some M)) (hx : a.eval x = .string k) (hk : k.size ≤ maxLen) (hV : VMap w M V)
    (h : wpList Tryd.prog ops Q rest (a.put o.dst (.tuple #[(V k).getD z, .bool (V k).isSome])) w) : wpList Tryd.prog ops Q (o :: rest) a w :=
  wpList_plain hgd fun _ hK => by
    have h1 := (hV.look hk ht hz).2
    unfold Oper.wp
    simp [execOp, hop, hm, hx, h1, Result.andThen]
    exact hK _ _ h
theorem wpList_vrange {ops : Array Oper} {rest : List Oper} {o : Oper} {a : Act} {w : World} {Q : Exit → Act → World → Prop} (hgd : o.guard = none) (m : Operand) (t el : TypeId) (hop : o.op = Op.range t m) (ht : Tryd.prog.underlying t = some (.map 9 el))
    (M : Nat) (V : ByteArray → Option Value) (hm : a.eval m = .map (some M)) (hV : VMap w M V) (D : Value → Prop)
    (h : ∀ w' left, VRng w' w.heap.size M V D left → w'.heap.size = w.heap.size + 1 → (∀ b, b < w.heap.size → w'.heap[b]? = w.heap[b]?) → w'.os = w.os → w'.tape = w.tape → w'.output = w.output → wpList Tryd.prog ops Q rest (a.put o.dst (.pointer (some ⟨w.heap.size, 0, none⟩))) w') : wpList Tryd.prog ops Q (o :: rest) a w :=
  wpList_plain hgd fun _ hK => by
    obtain ⟨w', left, h1, h2, h3, h4, h5, h6, h7⟩ := hV.range ht D
    unfold Oper.wp
    simp [execOp, hop, hm, h1, Result.andThen]
    exact hK _ _ (h w' left h2 h3 h4 h5 h6 h7)
theorem wpList_vnext {ops : Array Oper} {rest : List Oper} {o : Oper} {a : Act} {w : World} {Q : Exit → Act → World → Prop} (hgd : o.guard = none) (it : Operand) (hop : o.op = Op.next it false)
    (r M : Nat) (V : ByteArray → Option Value) (D : Value → Prop) (left : Nat) (hit : a.eval it = .pointer (some ⟨r, 0, none⟩)) (hR : VRng w r M V D left)
    (hDone : (∀ x v, V x = some v → D v) → wpList Tryd.prog ops Q rest (a.put o.dst (.tuple #[.bool false])) w)
    (hMore : ∀ x v w1 left', V x = some v → (Instr.entry (.pointer (some ⟨r, 0, none⟩))).run Tryd.prog w1 = .ok (.tuple #[.string x, v]) w1 → left' < left → VRng w1 r M V (fun u => D u ∨ u = v) left' → TurnedM w w1 r → wpList Tryd.prog ops Q rest (a.put o.dst (.tuple #[.bool true, .string x, v])) w1) : wpList Tryd.prog ops Q (o :: rest) a w :=
  wpList_plain hgd fun _ hK => by
    unfold Oper.wp
    rcases hR.next o.type with ⟨h1, h2⟩ | ⟨x, v, w1, left', h1, h2, h3, h4, h5, h6⟩
    · simp [execOp, hop, hit, h2, Result.andThen]
      exact hK _ _ (hDone h1)
    · simp [execOp, hop, hit, h2, Result.andThen]
      exact hK _ _ (hMore x v w1 left' h1 h3 h4 h5 h6)
/-- a row of texts -/
def TxtsL (w : World) (v : Value) (L : List ByteArray) : Prop :=
  ∃ b off cap, v = .slice (some ⟨b, off, none⟩) L.length cap ∧ L.length ≤ cap ∧ cap ≤ maxLen ∧ b < w.heap.size ∧ ∀ i (h : i < L.length), w.cell? ⟨b, off + i, none⟩ = some (.string L[i])
theorem txts_lit (w : World) (L : List ByteArray) (hL : L.length ≤ maxLen) : TxtsL (w.alloc (.cells (L.map Value.string).toArray 9)) (.slice (some ⟨w.heap.size, 0, none⟩) L.length L.length) L :=
  ⟨w.heap.size, 0, L.length, rfl, Nat.le_refl _, hL, by simp, fun i h => by rw [show (0 + i) = i by omega, Lib.cell_of_heap (heap_alloc_new w _) i]; simp [h]⟩
theorem txts_at (w : World) (L : List ByteArray) (n : Nat) (hn : w.heap.size = n) (hL : L.length ≤ maxLen) : TxtsL (w.alloc (.cells (L.map Value.string).toArray 9)) (.slice (some ⟨n, 0, none⟩) L.length L.length) L := by
  subst hn; exact txts_lit w L hL
theorem TxtsL.keep {w w' : World} {v : Value} {L : List ByteArray} (h : TxtsL w v L) (hs : w.heap.size ≤ w'.heap.size) (hb : ∀ n c b off, v = .slice (some ⟨b, off, none⟩) n c → w'.heap[b]? = w.heap[b]?) : TxtsL w' v L := by
  obtain ⟨b, off, cap, h1, h2, h3, h4, h5⟩ := h
  exact ⟨b, off, cap, h1, h2, h3, by omega, fun i hi => by rw [← h5 i hi]; unfold World.cell?; rw [hb _ _ _ _ h1]⟩
/-- a function's entry -/
def fV (x : ByteArray) (a : Int) : Value := .agg #[.string x, .int .i64 a]
def putLL (V : ByteArray → Option Value) (a : Int) (L : List ByteArray) : ByteArray → Option Value := L.foldl (fun V x => putV V x (fV x a)) V
theorem putLL_take {V : ByteArray → Option Value} {a : Int} {L : List ByteArray} {k : Nat} (h : k < L.length) : putLL V a (L.take (k + 1)) = putV (putLL V a (L.take k)) L[k] (fV L[k] a) := by
  unfold putLL
  rw [List.take_succ_eq_append_getElem h, List.foldl_append]
  rfl
theorem putLL_is (a : Int) : ∀ (L : List ByteArray) (V : ByteArray → Option Value) (x : ByteArray), putLL V a L x = if hasB L x = true then some (fV x a) else V x
  | [], V, x => by simp [putLL, hasB]
  | y :: L, V, x => by
    have ih := putLL_is a L (putV V y (fV y a)) x
    have e : putLL V a (y :: L) x = putLL (putV V y (fV y a)) a L x := rfl
    rw [e, ih]
    have hh : hasB (y :: L) x = ((x.toList == y.toList) || hasB L x) := rfl
    rw [hh]
    by_cases h : hasB L x = true
    · rw [if_pos h, h, Bool.or_true, if_pos rfl]
    · rw [if_neg h]
      have h' : hasB L x = false := by simpa using h
      rw [h', Bool.or_false]
      by_cases e2 : x = y
      · subst e2; rw [putV_same, if_pos (by simp)]
      · rw [putV_other _ _ e2, same_no e2, if_neg (by simp)]
set_option maxHeartbeats 800000 in
theorem add_is (M : Nat) (V : ByteArray → Option Value) (L : List ByteArray) (v : Value) (a : Int) (w : World) (hV : VMap w M V) (hv : TxtsL w v L) (hL : ∀ x ∈ L, x.size ≤ maxLen) :
    Calls Tryd.prog 12 #[.map (some M), .int .i64 a, v] w fun e w' => e = .returned (.tuple #[]) ∧ VMap w' M (putLL V a L) ∧ TurnedM w w' M := by
  obtain ⟨b, off, cap, rfl, hlc, hcm, hbw, hcells⟩ := hv
  have hbM : 0 < L.length → b ≠ M := fun h0 e => by
    obtain ⟨es, clock, h1, _⟩ := hV
    have := hcells 0 h0
    subst e
    simp [World.cell?, h1] at this
  have HC : Hid (∀ i (h : i < L.length), w.cell? ⟨b, off + i, none⟩ = some (.string L[i])) := hcells
  have HV : Hid (VMap w M V) := hV
  have HL : Hid (∀ x ∈ L, x.size ≤ maxLen) := hL
  unfold maxLen at hcm
  clear hcells hV hL
  go_enter Tryd.func12, Tryd.ntmps12
  go_wp2
  go_loopw [10] (fun i wr => ∃ k : Nat, k ≤ L.length ∧ i = .int .i64 k ∧ VMap wr M (putLL V a (L.take k)) ∧ TurnedM w wr M) (fun i _ => L.length - (intOf i).toNat)
  case atStart => exact ⟨0, Nat.zero_le _, rfl, HV.out, rfl, fun _ _ => rfl, rfl, rfl, rfl⟩
  case round =>
    obtain ⟨k, hk, rfl, hvm, htm⟩ := hrel
    by_cases hlt : k < L.length
    · have hii : (k : Int) < (L.length : Int) := by omega
      have hc : wr.cell? ⟨b, off + k, none⟩ = some (.string L[k]) := by
        rw [← HC.out k hlt]; unfold World.cell?; rw [htm.2.1 b (hbM (by omega))]
      have hs := HL.out L[k] (List.getElem_mem _)
      have HVM : Hid (VMap wr M (putLL V a (L.take k))) := hvm
      have HTM : Hid (TurnedM w wr M) := htm
      have HPL : Hid (putLL V a (L.take (k + 1)) = putV (putLL V a (L.take k)) L[k] (fV L[k] a)) := putLL_take hlt
      generalize L[k] = x at *
      clear hvm htm
      go_wp2_with (refine wpList_vput rfl (.tmp 14) (.tmp 15) (.tmp 18) 44 55 rfl Tryd.underlying44 M _ x (fV x a) rfl rfl rfl hs HVM.out ?_; intro w1 hv1 ht1; have HV1 : Hid (VMap w1 M (putV (putLL V a (L.take k)) x (fV x a))) := hv1; have HT1 : Hid (TurnedM wr w1 M) := ht1; clear hv1 ht1)
      go_roundw
      case rel => exact ⟨k + 1, by omega, by go_num, by rw [HPL.out]; exact HV1.out, HT1.out.1.trans HTM.out.1, fun c hc => (HT1.out.2.1 c hc).trans (HTM.out.2.1 c hc), HT1.out.2.2.1.trans HTM.out.2.2.1, HT1.out.2.2.2.1.trans HTM.out.2.2.2.1, HT1.out.2.2.2.2.trans HTM.out.2.2.2.2⟩
      case measure => simp [intOf]; omega
    · have e : k = L.length := by omega
      subst e
      rw [List.take_length] at hvm
      have HVM : Hid (VMap wr M (putLL V a L)) := hvm
      have HTM : Hid (TurnedM w wr M) := htm
      clear hvm htm
      go_wp2
      go_end0
      exact ⟨rfl, HVM.out, HTM.out⟩
end Go.Proofs.YtkhlfdnlpimojaaDoor
