/-
  CONTRACT: the table of functions of package run (run.functions): of each name how many arguments, and a function that holds what it was made of.
-/
import Derived.Test.YtmoeipdchapodaaGreatDoorCkOps
set_option linter.unusedVariables false
namespace Go.Proofs.YtmoeipdchapodaaGreatDoor
set_option maxRecDepth 100000
open Go.RowKit Go.WideShapes

theorem hidR {p : Prop} (h : p) : Hid p := h
theorem belowR {B : Nat} {w w' : World} (h : Below B w w') (hB : B ≤ w.heap.size) (o : Obj) : Below B w (w'.alloc o) := h.alloc (Nat.le_trans hB h.size) o
/-- an entry of the table: its name, how many arguments, the function, and what that holds -/
structure FnE where
  name : ByteArray
  args : Int
  f : FuncId
  caps : List (Value × TypeId)
def ptrs (b : Nat) : Nat → List Value
  | 0 => []
  | k + 1 => .pointer (some ⟨b, 0, none⟩) :: ptrs (b + 1) k
/-- it is there, and what it holds lies there -/
def EntAt (W : World) (M : Nat) (V : ByteArray → Option Value) (e : FnE) : Prop :=
  ∃ b, V e.name = some (.agg #[.int .i64 e.args, .func (.func e.f) #[] (ptrs b e.caps.length).toArray]) ∧ ∀ i (h : i < e.caps.length), b + i ≠ M ∧ W.heap[b + i]? = some (.cells #[e.caps[i].1] e.caps[i].2)
structure FnS (W : World) (M : Nat) (V : ByteArray → Option Value) (L : List FnE) : Prop where
  vm : VMap W M V
  ents : ∀ e ∈ L, EntAt W M V e
def freshB (L : List FnE) (n : ByteArray) : Bool := L.all fun e => !(e.name.data.toList == n.data.toList)
theorem fresh_ne {L : List FnE} {n : ByteArray} (h : freshB L n = true) {e : FnE} (he : e ∈ L) : e.name ≠ n := by
  have h1 := List.all_eq_true.1 h e he
  intro h2
  rw [h2] at h1
  simp at h1
theorem EntAt.put {W W' : World} {M : Nat} {V : ByteArray → Option Value} {e : FnE} (h : EntAt W M V e) {n : ByteArray} (hn : e.name ≠ n) (v : Value) (hb : ∀ b, b < W.heap.size → b ≠ M → W'.heap[b]? = W.heap[b]?) : EntAt W' M (putV V n v) e := by
  obtain ⟨b, h1, h2⟩ := h
  refine ⟨b, by rw [putV_other _ _ hn]; exact h1, fun i hi => ⟨(h2 i hi).1, ?_⟩⟩
  rw [hb _ (Array.getElem?_eq_some_iff.1 (h2 i hi).2).1 (h2 i hi).1]
  exact (h2 i hi).2
theorem FnS.keep {W W' : World} {M : Nat} {V : ByteArray → Option Value} {L : List FnE} (h : FnS W M V L) (hb : ∀ b, b < W.heap.size → W'.heap[b]? = W.heap[b]?) : FnS W' M V L :=
  ⟨h.vm.keep (hb _ h.vm.lt), fun e he => by
    obtain ⟨b, h1, h2⟩ := h.ents e he
    exact ⟨b, h1, fun i hi => ⟨(h2 i hi).1, (hb _ (Array.getElem?_eq_some_iff.1 (h2 i hi).2).1).trans (h2 i hi).2⟩⟩⟩
theorem FnS.below {W W' : World} {M : Nat} {V : ByteArray → Option Value} {L : List FnE} (h : FnS W M V L) (hb : Below W.heap.size W W') : FnS W' M V L := h.keep fun b hl => hb.block b hl
theorem FnS.add0 {W w1 : World} {M : Nat} {V : ByteArray → Option Value} {L : List FnE} (h : FnS W M V L) {n : ByteArray} (hn : freshB L n = true) {k : Int} {f : FuncId} (ht : TurnedM W w1 M) (hv : VMap w1 M (putV V n (.agg #[.int .i64 k, .func (.func f) #[] #[]]))) :
    FnS w1 M (putV V n (.agg #[.int .i64 k, .func (.func f) #[] #[]])) (⟨n, k, f, []⟩ :: L) :=
  ⟨hv, fun e he => by
    rcases List.mem_cons.1 he with rfl | he
    · exact ⟨0, putV_same _ _ _, fun i hi => absurd hi (Nat.not_lt_zero i)⟩
    · exact (h.ents e he).put (fresh_ne hn he) _ (fun b _ hb => ht.2.1 b hb)⟩
theorem FnS.add1 {W w1 : World} {M : Nat} {V : ByteArray → Option Value} {L : List FnE} (h : FnS W M V L) {n : ByteArray} (hn : freshB L n = true) {k : Int} {f : FuncId} {c : Value} {T : TypeId} {g : Nat} (hg : W.heap.size = g) (ht : TurnedM (W.alloc (.cells #[c] T)) w1 M) (hv : VMap w1 M (putV V n (.agg #[.int .i64 k, .func (.func f) #[] #[.pointer (some ⟨g, 0, none⟩)]]))) :
    FnS w1 M (putV V n (.agg #[.int .i64 k, .func (.func f) #[] #[.pointer (some ⟨g, 0, none⟩)]])) (⟨n, k, f, [(c, T)]⟩ :: L) :=
  ⟨hv, fun e he => by
    subst hg
    have hM := h.vm.lt
    rcases List.mem_cons.1 he with rfl | he
    · refine ⟨W.heap.size, putV_same _ _ _, fun i hi => ?_⟩
      obtain rfl : i = 0 := by simp at hi; omega
      refine ⟨by omega, ?_⟩
      rw [ht.2.1 _ (by omega)]
      exact heap_alloc_new W _
    · exact (h.ents e he).put (fresh_ne hn he) _ (fun b hl hb => by rw [ht.2.1 b hb]; exact Below.heap_alloc W _ b hl)⟩
theorem FnS.add2 {W w1 : World} {M : Nat} {V : ByteArray → Option Value} {L : List FnE} (h : FnS W M V L) {n : ByteArray} (hn : freshB L n = true) {k : Int} {f : FuncId} {c c' : Value} {T T' : TypeId} {g : Nat} (hg : W.heap.size = g) (ht : TurnedM ((W.alloc (.cells #[c] T)).alloc (.cells #[c'] T')) w1 M) (hv : VMap w1 M (putV V n (.agg #[.int .i64 k, .func (.func f) #[] #[.pointer (some ⟨g, 0, none⟩), .pointer (some ⟨g + 1, 0, none⟩)]]))) :
    FnS w1 M (putV V n (.agg #[.int .i64 k, .func (.func f) #[] #[.pointer (some ⟨g, 0, none⟩), .pointer (some ⟨g + 1, 0, none⟩)]])) (⟨n, k, f, [(c, T), (c', T')]⟩ :: L) :=
  ⟨hv, fun e he => by
    subst hg
    have hM := h.vm.lt
    have hz : (W.alloc (.cells #[c] T)).heap.size = W.heap.size + 1 := by simp
    rcases List.mem_cons.1 he with rfl | he
    · refine ⟨W.heap.size, putV_same _ _ _, fun i hi => ?_⟩
      have hi' : i = 0 ∨ i = 1 := by simp at hi; omega
      rcases hi' with rfl | rfl
      · refine ⟨by omega, ?_⟩
        rw [ht.2.1 _ (by omega)]
        exact (Below.heap_alloc _ _ _ (by omega)).trans (heap_alloc_new W _)
      · refine ⟨by omega, ?_⟩
        rw [ht.2.1 _ (by omega), ← hz]
        exact heap_alloc_new _ _
    · exact (h.ents e he).put (fresh_ne hn he) _ (fun b hl hb => by rw [ht.2.1 b hb, Below.heap_alloc _ _ b (by omega)]; exact Below.heap_alloc W _ b hl)⟩
theorem upon_vins {o : Oper} {a : Act} {next : Act → World → Prop} {Q : Exit → Act → World → Prop} {t el : TypeId} {M : Nat} {V : ByteArray → Option Value} {k : ByteArray} {v : Value} {W : World} (ht : Tryz.prog.underlying t = some (.map 9 el)) (hV : VMap W M V) (hk : k.size ≤ maxLen)
    (h : ∀ w', VMap w' M (putV V k v) → TurnedM W w' M → next (a.put o.dst undef) w') : Oper.upon Tryz.prog o a next Q ((Sem.run Tryz.prog (Instr.mapUpdate t (.map (some M)) (.string k) v) W).andThen fun _ w' => Result.ok Next.skip w') := by
  obtain ⟨w', h1, h2, h3⟩ := hV.put hk v ht
  rw [h1]
  exact h w' h2 h3
theorem FnS.start (w : World) : FnS (w.alloc (.map #[] 0)) w.heap.size (fun _ => none) [] := ⟨VMap.made w, fun e he => by simp at he⟩
theorem of_is (g : FuncId) (w : World) : Calls Tryz.prog 31 #[.func (.func g) #[] #[]] w fun e w' => e = .returned (.func (.func 91) #[] #[.pointer (some ⟨w.heap.size, 0, none⟩)]) ∧ w' = w.alloc (.cells #[.func (.func g) #[] #[]] 84) := by
  have hmf : ∀ (fn : Fn) (first cap : Array Value) (w : World), (Instr.makeFunc fn first cap).run Tryz.prog w = .ok (.func fn first cap) w := fun _ _ _ _ => rfl
  go_enter Tryz.func31, Tryz.ntmps31
  go_wp2
  go_ret
  exact ⟨rfl, rfl⟩
theorem ofTexts_is (g : FuncId) (w : World) : Calls Tryz.prog 35 #[.func (.func g) #[] #[]] w fun e w' => e = .returned (.func (.func 94) #[] #[.pointer (some ⟨w.heap.size, 0, none⟩)]) ∧ w' = w.alloc (.cells #[.func (.func g) #[] #[]] 89) := by
  have hmf : ∀ (fn : Fn) (first cap : Array Value) (w : World), (Instr.makeFunc fn first cap).run Tryz.prog w = .ok (.func fn first cap) w := fun _ _ _ _ => rfl
  go_enter Tryz.func35, Tryz.ntmps35
  go_wp2
  go_ret
  exact ⟨rfl, rfl⟩
theorem ofIntegers_is (g : FuncId) (w : World) : Calls Tryz.prog 38 #[.func (.func g) #[] #[]] w fun e w' => e = .returned (.func (.func 96) #[] #[.pointer (some ⟨w.heap.size, 0, none⟩)]) ∧ w' = w.alloc (.cells #[.func (.func g) #[] #[]] 91) := by
  have hmf : ∀ (fn : Fn) (first cap : Array Value) (w : World), (Instr.makeFunc fn first cap).run Tryz.prog w = .ok (.func fn first cap) w := fun _ _ _ _ => rfl
  go_enter Tryz.func38, Tryz.ntmps38
  go_wp2
  go_ret
  exact ⟨rfl, rfl⟩
theorem ofNodes_is (g : FuncId) (w : World) : Calls Tryz.prog 65 #[.func (.func g) #[] #[]] w fun e w' => e = .returned (.func (.func 105) #[] #[.pointer (some ⟨w.heap.size, 0, none⟩)]) ∧ w' = w.alloc (.cells #[.func (.func g) #[] #[]] 98) := by
  have hmf : ∀ (fn : Fn) (first cap : Array Value) (w : World), (Instr.makeFunc fn first cap).run Tryz.prog w = .ok (.func fn first cap) w := fun _ _ _ _ => rfl
  go_enter Tryz.func65, Tryz.ntmps65
  go_wp2
  go_ret
  exact ⟨rfl, rfl⟩
theorem ofTruths_is (g : FuncId) (w : World) : Calls Tryz.prog 69 #[.func (.func g) #[] #[]] w fun e w' => e = .returned (.func (.func 106) #[] #[.pointer (some ⟨w.heap.size, 0, none⟩)]) ∧ w' = w.alloc (.cells #[.func (.func g) #[] #[]] 101) := by
  have hmf : ∀ (fn : Fn) (first cap : Array Value) (w : World), (Instr.makeFunc fn first cap).run Tryz.prog w = .ok (.func fn first cap) w := fun _ _ _ _ => rfl
  go_enter Tryz.func69, Tryz.ntmps69
  go_wp2
  go_ret
  exact ⟨rfl, rfl⟩
theorem compared_is (u : Bool) (g : FuncId) (w : World) : Calls Tryz.prog 58 #[.bool u, .func (.func g) #[] #[]] w fun e w' => e = .returned (.func (.func 102) #[] #[.pointer (some ⟨w.heap.size, 0, none⟩), .pointer (some ⟨w.heap.size + 1, 0, none⟩)]) ∧ w' = (w.alloc (.cells #[.bool u] 4)).alloc (.cells #[.func (.func g) #[] #[]] 96) := by
  have hmf : ∀ (fn : Fn) (first cap : Array Value) (w : World), (Instr.makeFunc fn first cap).run Tryz.prog w = .ok (.func fn first cap) w := fun _ _ _ _ => rfl
  go_enter Tryz.func58, Tryz.ntmps58
  go_wp2
  go_ret
  exact ⟨rfl, rfl⟩
/-- the table, the last one first -/
def fnL : List FnE := [⟨⟨#[104, 111, 108, 100, 115]⟩, 3, 74, []⟩,
  ⟨⟨#[101, 98, 118]⟩, 2, 73, []⟩,
  ⟨⟨#[111, 114]⟩, 2, 106, [(.func (.func 72) #[] #[], 101)]⟩,
  ⟨⟨#[97, 110, 100]⟩, 2, 106, [(.func (.func 71) #[] #[], 101)]⟩,
  ⟨⟨#[110, 111, 116]⟩, 1, 106, [(.func (.func 70) #[] #[], 101)]⟩,
  ⟨⟨#[62, 62]⟩, 2, 105, [(.func (.func 68) #[] #[], 98)]⟩,
  ⟨⟨#[60, 60]⟩, 2, 105, [(.func (.func 67) #[] #[], 98)]⟩,
  ⟨⟨#[105, 115]⟩, 2, 105, [(.func (.func 66) #[] #[], 98)]⟩,
  ⟨⟨#[62, 61]⟩, 2, 102, [(.bool false, 4), (.func (.func 64) #[] #[], 96)]⟩,
  ⟨⟨#[62]⟩, 2, 102, [(.bool false, 4), (.func (.func 63) #[] #[], 96)]⟩,
  ⟨⟨#[60, 61]⟩, 2, 102, [(.bool false, 4), (.func (.func 62) #[] #[], 96)]⟩,
  ⟨⟨#[60]⟩, 2, 102, [(.bool false, 4), (.func (.func 61) #[] #[], 96)]⟩,
  ⟨⟨#[33, 61]⟩, 2, 102, [(.bool true, 4), (.func (.func 60) #[] #[], 96)]⟩,
  ⟨⟨#[61]⟩, 2, 102, [(.bool false, 4), (.func (.func 59) #[] #[], 96)]⟩,
  ⟨⟨#[115, 117, 98, 115, 116, 114, 105, 110, 103]⟩, 3, 57, []⟩,
  ⟨⟨#[115, 116, 97, 114, 116, 115]⟩, 2, 94, [(.func (.func 55) #[] #[], 89)]⟩,
  ⟨⟨#[99, 111, 110, 116, 97, 105, 110, 115]⟩, 2, 94, [(.func (.func 52) #[] #[], 89)]⟩,
  ⟨⟨#[99, 111, 110, 99, 97, 116]⟩, 2, 94, [(.func (.func 51) #[] #[], 89)]⟩,
  ⟨⟨#[108, 101, 110, 103, 116, 104]⟩, 1, 94, [(.func (.func 48) #[] #[], 89)]⟩,
  ⟨⟨#[115, 112, 97, 110]⟩, 2, 96, [(.func (.func 47) #[] #[], 91)]⟩,
  ⟨⟨#[109, 111, 100]⟩, 2, 96, [(.func (.func 46) #[] #[], 91)]⟩,
  ⟨⟨#[100, 105, 118]⟩, 2, 96, [(.func (.func 45) #[] #[], 91)]⟩,
  ⟨⟨#[42]⟩, 2, 96, [(.func (.func 44) #[] #[], 91)]⟩,
  ⟨⟨#[45]⟩, 2, 96, [(.func (.func 43) #[] #[], 91)]⟩,
  ⟨⟨#[43]⟩, 2, 96, [(.func (.func 42) #[] #[], 91)]⟩,
  ⟨⟨#[110, 101, 103]⟩, 1, 96, [(.func (.func 41) #[] #[], 91)]⟩,
  ⟨⟨#[111, 110, 101]⟩, 1, 91, [(.func (.func 40) #[] #[], 84)]⟩,
  ⟨⟨#[105, 110, 116, 101, 103, 101, 114]⟩, 1, 96, [(.func (.func 39) #[] #[], 91)]⟩,
  ⟨⟨#[115, 116, 114, 105, 110, 103]⟩, 1, 94, [(.func (.func 36) #[] #[], 89)]⟩,
  ⟨⟨#[110, 97, 109, 101]⟩, 1, 91, [(.func (.func 34) #[] #[], 84)]⟩,
  ⟨⟨#[110, 111, 100, 101]⟩, 1, 91, [(.func (.func 33) #[] #[], 84)]⟩,
  ⟨⟨#[100, 97, 116, 97]⟩, 1, 91, [(.func (.func 32) #[] #[], 84)]⟩]
set_option maxHeartbeats 12800000 in
theorem functions_is (w : World) : Calls Tryz.prog 20 #[] w fun e w' => e = .returned (.map (some w.heap.size)) ∧ (∃ V, FnS w' w.heap.size V fnL) ∧ Below w.heap.size w w' := by
  have HV : Hid (FnS (w.alloc (.map #[] 0)) w.heap.size (fun _ => none) []) := FnS.start w
  have HB : Hid (Below w.heap.size w (w.alloc (.map #[] 0))) := (Below.refl _ _).alloc (Nat.le_refl _) _
  have hmm := @run_makeMap Tryz.prog
  go_enter Tryz.func20, Tryz.ntmps20
  go_wp2_with (first
    | (go_at_call 31; refine (of_is _ _).mono ?_; rintro e w1 ⟨rfl, rfl⟩)
    | (go_at_call 35; refine (ofTexts_is _ _).mono ?_; rintro e w1 ⟨rfl, rfl⟩)
    | (go_at_call 38; refine (ofIntegers_is _ _).mono ?_; rintro e w1 ⟨rfl, rfl⟩)
    | (go_at_call 65; refine (ofNodes_is _ _).mono ?_; rintro e w1 ⟨rfl, rfl⟩)
    | (go_at_call 69; refine (ofTruths_is _ _).mono ?_; rintro e w1 ⟨rfl, rfl⟩)
    | (go_at_call 58; refine (compared_is _ _ _).mono ?_; rintro e w1 ⟨rfl, rfl⟩)
    | (refine upon_vins Tryz.underlying66 (VMap.alloc HV.out.vm _) ?_ ?_; (· decide); intro w2 hv2 ht2; have HV2 := hidR (HV.out.add1 (by rfl) (by simp) ht2 hv2); have HB2 : Hid (Below w.heap.size w w2) := (belowR HB.out (Nat.le_refl _) _).trans (ht2.below (Nat.le_refl _)); clear HV HB hv2 ht2; have HV := HV2; have HB := HB2; clear HV2 HB2)
    | (refine upon_vins Tryz.underlying66 (VMap.alloc (VMap.alloc HV.out.vm _) _) ?_ ?_; (· decide); intro w2 hv2 ht2; have HV2 := hidR (HV.out.add2 (by rfl) (by simp) ht2 hv2); have HB2 : Hid (Below w.heap.size w w2) := (belowR (belowR HB.out (Nat.le_refl _) _) (Nat.le_refl _) _).trans (ht2.below (Nat.le_refl _)); clear HV HB hv2 ht2; have HV := HV2; have HB := HB2; clear HV2 HB2)
    | (refine upon_vins Tryz.underlying66 HV.out.vm ?_ ?_; (· decide); intro w2 hv2 ht2; have HV2 := hidR (HV.out.add0 (by rfl) ht2 hv2); have HB2 : Hid (Below w.heap.size w w2) := HB.out.trans (ht2.below (Nat.le_refl _)); clear HV HB hv2 ht2; have HV := HV2; have HB := HB2; clear HV2 HB2))
  go_ret
  exact ⟨rfl, ⟨_, HV.out⟩, HB.out⟩
end Go.Proofs.YtmoeipdchapodaaGreatDoor
