/-
  CONTRACT: the table of functions of package run (run.functions): of each name how many arguments, and a function that holds what it was made of.
-/
import Derived.Test.YtkcejelmohameaaGreatDoorRlSameI
set_option linter.unusedVariables false
namespace Go.Proofs.YtkcejelmohameaaGreatDoor
set_option maxRecDepth 100000
open Go.RowKit Go.WideShapes

theorem hidR {p : Prop} (h : p) : Hid p := h
theorem belowR {B : Nat} {w w' : World} (h : Below B w w') (hB : B ≤ w.heap.size) (o : Obj) : Below B w (w'.alloc o) := h.alloc (Nat.le_trans hB h.size) o
/-- an entry of the table: its name, how many arguments, the function, and what that holds -/
structure FnE where
  name : ByteArray
  args : Int
  f : FuncId
  caps : List (Value × TypeId)
def ptrs (b : Nat) : Nat → List Value
  | 0 => []
  | k + 1 => .pointer (some ⟨b, 0, none⟩) :: ptrs (b + 1) k
/-- it is there, and what it holds lies there -/
def EntAt (W : World) (M : Nat) (V : ByteArray → Option Value) (e : FnE) : Prop :=
  ∃ b, V e.name = some (.agg #[.int .i64 e.args, .func (.func e.f) #[] (ptrs b e.caps.length).toArray]) ∧ ∀ i (h : i < e.caps.length), b + i ≠ M ∧ W.heap[b + i]? = some (.cells #[e.caps[i].1] e.caps[i].2)
structure FnS (W : World) (M : Nat) (V : ByteArray → Option Value) (L : List FnE) : Prop where
  vm : VMap W M V
  ents : ∀ e ∈ L, EntAt W M V e
  non : ∀ n, (∀ e ∈ L, e.name ≠ n) → V n = none
def freshB (L : List FnE) (n : ByteArray) : Bool := L.all fun e => !(e.name.data.toList == n.data.toList)
theorem fresh_ne {L : List FnE} {n : ByteArray} (h : freshB L n = true) {e : FnE} (he : e ∈ L) : e.name ≠ n := by
  have h1 := List.all_eq_true.1 h e he
  intro h2
  rw [h2] at h1
  simp at h1
theorem EntAt.put {W W' : World} {M : Nat} {V : ByteArray → Option Value} {e : FnE} (h : EntAt W M V e) {n : ByteArray} (hn : e.name ≠ n) (v : Value) (hb : ∀ b, b < W.heap.size → b ≠ M → W'.heap[b]? = W.heap[b]?) : EntAt W' M (putV V n v) e := by
  obtain ⟨b, h1, h2⟩ := h
  refine ⟨b, by rw [putV_other _ _ hn]; exact h1, fun i hi => ⟨(h2 i hi).1, ?_⟩⟩
  rw [hb _ (Array.getElem?_eq_some_iff.1 (h2 i hi).2).1 (h2 i hi).1]
  exact (h2 i hi).2
theorem FnS.keep {W W' : World} {M : Nat} {V : ByteArray → Option Value} {L : List FnE} (h : FnS W M V L) (hb : ∀ b, b < W.heap.size → W'.heap[b]? = W.heap[b]?) : FnS W' M V L :=
  ⟨h.vm.keep (hb _ h.vm.lt), fun e he => by
    obtain ⟨b, h1, h2⟩ := h.ents e he
    exact ⟨b, h1, fun i hi => ⟨(h2 i hi).1, (hb _ (Array.getElem?_eq_some_iff.1 (h2 i hi).2).1).trans (h2 i hi).2⟩⟩, h.non⟩
theorem FnS.below {W W' : World} {M : Nat} {V : ByteArray → Option Value} {L : List FnE} (h : FnS W M V L) (hb : Below W.heap.size W W') : FnS W' M V L := h.keep fun b hl => hb.block b hl
theorem FnS.add0 {W w1 : World} {M : Nat} {V : ByteArray → Option Value} {L : List FnE} (h : FnS W M V L) {n : ByteArray} (hn : freshB L n = true) {k : Int} {f : FuncId} (ht : TurnedM W w1 M) (hv : VMap w1 M (putV V n (.agg #[.int .i64 k, .func (.func f) #[] #[]]))) :
    FnS w1 M (putV V n (.agg #[.int .i64 k, .func (.func f) #[] #[]])) (⟨n, k, f, []⟩ :: L) :=
  ⟨hv, fun e he => by
    rcases List.mem_cons.1 he with rfl | he
    · exact ⟨0, putV_same _ _ _, fun i hi => absurd hi (Nat.not_lt_zero i)⟩
    · exact (h.ents e he).put (fresh_ne hn he) _ (fun b _ hb => ht.2.1 b hb), fun n' h' => (putV_other _ _ (Ne.symm (h' _ (List.mem_cons_self ..)))).trans (h.non n' fun e he => h' e (List.mem_cons_of_mem _ he))⟩
theorem FnS.add1 {W w1 : World} {M : Nat} {V : ByteArray → Option Value} {L : List FnE} (h : FnS W M V L) {n : ByteArray} (hn : freshB L n = true) {k : Int} {f : FuncId} {c : Value} {T : TypeId} {g : Nat} (hg : W.heap.size = g) (ht : TurnedM (W.alloc (.cells #[c] T)) w1 M) (hv : VMap w1 M (putV V n (.agg #[.int .i64 k, .func (.func f) #[] #[.pointer (some ⟨g, 0, none⟩)]]))) :
    FnS w1 M (putV V n (.agg #[.int .i64 k, .func (.func f) #[] #[.pointer (some ⟨g, 0, none⟩)]])) (⟨n, k, f, [(c, T)]⟩ :: L) :=
  ⟨hv, fun e he => by
    subst hg
    have hM := h.vm.lt
    rcases List.mem_cons.1 he with rfl | he
    · refine ⟨W.heap.size, putV_same _ _ _, fun i hi => ?_⟩
      obtain rfl : i = 0 := by simp at hi; omega
      refine ⟨by omega, ?_⟩
      rw [ht.2.1 _ (by omega)]
      exact heap_alloc_new W _
    · exact (h.ents e he).put (fresh_ne hn he) _ (fun b hl hb => by rw [ht.2.1 b hb]; exact Below.heap_alloc W _ b hl), fun n' h' => (putV_other _ _ (Ne.symm (h' _ (List.mem_cons_self ..)))).trans (h.non n' fun e he => h' e (List.mem_cons_of_mem _ he))⟩
theorem FnS.add2 {W w1 : World} {M : Nat} {V : ByteArray → Option Value} {L : List FnE} (h : FnS W M V L) {n : ByteArray} (hn : freshB L n = true) {k : Int} {f : FuncId} {c c' : Value} {T T' : TypeId} {g : Nat} (hg : W.heap.size = g) (ht : TurnedM ((W.alloc (.cells #[c] T)).alloc (.cells #[c'] T')) w1 M) (hv : VMap w1 M (putV V n (.agg #[.int .i64 k, .func (.func f) #[] #[.pointer (some ⟨g, 0, none⟩), .pointer (some ⟨g + 1, 0, none⟩)]]))) :
    FnS w1 M (putV V n (.agg #[.int .i64 k, .func (.func f) #[] #[.pointer (some ⟨g, 0, none⟩), .pointer (some ⟨g + 1, 0, none⟩)]])) (⟨n, k, f, [(c, T), (c', T')]⟩ :: L) :=
  ⟨hv, fun e he => by
    subst hg
    have hM := h.vm.lt
    have hz : (W.alloc (.cells #[c] T)).heap.size = W.heap.size + 1 := by simp
    rcases List.mem_cons.1 he with rfl | he
    · refine ⟨W.heap.size, putV_same _ _ _, fun i hi => ?_⟩
      have hi' : i = 0 ∨ i = 1 := by simp at hi; omega
      rcases hi' with rfl | rfl
      · refine ⟨by omega, ?_⟩
        rw [ht.2.1 _ (by omega)]
        exact (Below.heap_alloc _ _ _ (by omega)).trans (heap_alloc_new W _)
      · refine ⟨by omega, ?_⟩
        rw [ht.2.1 _ (by omega), ← hz]
        exact heap_alloc_new _ _
    · exact (h.ents e he).put (fresh_ne hn he) _ (fun b hl hb => by rw [ht.2.1 b hb, Below.heap_alloc _ _ b (by omega)]; exact Below.heap_alloc W _ b hl), fun n' h' => (putV_other _ _ (Ne.symm (h' _ (List.mem_cons_self ..)))).trans (h.non n' fun e he => h' e (List.mem_cons_of_mem _ he))⟩
theorem upon_vins {o : Oper} {a : Act} {next : Act → World → Prop} {Q : Exit → Act → World → Prop} {t el : TypeId} {M : Nat} {V : ByteArray → Option Value} {k : ByteArray} {v : Value} {W : World} (ht : Tryz.prog.underlying t = some (.map 9 el)) (hV : VMap W M V) (hk : k.size ≤ maxLen)
    (h : ∀ w', VMap w' M (putV V k v) → TurnedM W w' M → next (a.put o.dst undef) w') : Oper.upon Tryz.prog o a next Q ((Sem.run Tryz.prog (Instr.mapUpdate t (.map (some M)) (.string k) v) W).andThen fun _ w' => Result.ok Next.skip w') := by
  obtain ⟨w', h1, h2, h3⟩ := hV.put hk v ht
  rw [h1]
  exact h w' h2 h3
theorem FnS.start (w : World) : FnS (w.alloc (.map #[] 0)) w.heap.size (fun _ => none) [] := ⟨VMap.made w, fun e he => by simp at he, fun _ _ => rfl⟩
theorem of_is (g : FuncId) (w : World) : Calls Tryz.prog 19 #[.func (.func g) #[] #[]] w fun e w' => e = .returned (.func (.func 77) #[] #[.pointer (some ⟨w.heap.size, 0, none⟩)]) ∧ w' = w.alloc (.cells #[.func (.func g) #[] #[]] 60) := by
  have hmf : ∀ (fn : Fn) (first cap : Array Value) (w : World), (Instr.makeFunc fn first cap).run Tryz.prog w = .ok (.func fn first cap) w := fun _ _ _ _ => rfl
  go_enter Tryz.func19, Tryz.ntmps19
  go_wp2
  go_ret
  exact ⟨rfl, rfl⟩
theorem ofTexts_is (g : FuncId) (w : World) : Calls Tryz.prog 23 #[.func (.func g) #[] #[]] w fun e w' => e = .returned (.func (.func 80) #[] #[.pointer (some ⟨w.heap.size, 0, none⟩)]) ∧ w' = w.alloc (.cells #[.func (.func g) #[] #[]] 69) := by
  have hmf : ∀ (fn : Fn) (first cap : Array Value) (w : World), (Instr.makeFunc fn first cap).run Tryz.prog w = .ok (.func fn first cap) w := fun _ _ _ _ => rfl
  go_enter Tryz.func23, Tryz.ntmps23
  go_wp2
  go_ret
  exact ⟨rfl, rfl⟩
theorem ofIntegers_is (g : FuncId) (w : World) : Calls Tryz.prog 26 #[.func (.func g) #[] #[]] w fun e w' => e = .returned (.func (.func 82) #[] #[.pointer (some ⟨w.heap.size, 0, none⟩)]) ∧ w' = w.alloc (.cells #[.func (.func g) #[] #[]] 71) := by
  have hmf : ∀ (fn : Fn) (first cap : Array Value) (w : World), (Instr.makeFunc fn first cap).run Tryz.prog w = .ok (.func fn first cap) w := fun _ _ _ _ => rfl
  go_enter Tryz.func26, Tryz.ntmps26
  go_wp2
  go_ret
  exact ⟨rfl, rfl⟩
theorem ofNodes_is (g : FuncId) (w : World) : Calls Tryz.prog 53 #[.func (.func g) #[] #[]] w fun e w' => e = .returned (.func (.func 91) #[] #[.pointer (some ⟨w.heap.size, 0, none⟩)]) ∧ w' = w.alloc (.cells #[.func (.func g) #[] #[]] 79) := by
  have hmf : ∀ (fn : Fn) (first cap : Array Value) (w : World), (Instr.makeFunc fn first cap).run Tryz.prog w = .ok (.func fn first cap) w := fun _ _ _ _ => rfl
  go_enter Tryz.func53, Tryz.ntmps53
  go_wp2
  go_ret
  exact ⟨rfl, rfl⟩
theorem ofTruths_is (g : FuncId) (w : World) : Calls Tryz.prog 57 #[.func (.func g) #[] #[]] w fun e w' => e = .returned (.func (.func 92) #[] #[.pointer (some ⟨w.heap.size, 0, none⟩)]) ∧ w' = w.alloc (.cells #[.func (.func g) #[] #[]] 82) := by
  have hmf : ∀ (fn : Fn) (first cap : Array Value) (w : World), (Instr.makeFunc fn first cap).run Tryz.prog w = .ok (.func fn first cap) w := fun _ _ _ _ => rfl
  go_enter Tryz.func57, Tryz.ntmps57
  go_wp2
  go_ret
  exact ⟨rfl, rfl⟩
theorem compared_is (u : Bool) (g : FuncId) (w : World) : Calls Tryz.prog 46 #[.bool u, .func (.func g) #[] #[]] w fun e w' => e = .returned (.func (.func 88) #[] #[.pointer (some ⟨w.heap.size, 0, none⟩), .pointer (some ⟨w.heap.size + 1, 0, none⟩)]) ∧ w' = (w.alloc (.cells #[.bool u] 4)).alloc (.cells #[.func (.func g) #[] #[]] 77) := by
  have hmf : ∀ (fn : Fn) (first cap : Array Value) (w : World), (Instr.makeFunc fn first cap).run Tryz.prog w = .ok (.func fn first cap) w := fun _ _ _ _ => rfl
  go_enter Tryz.func46, Tryz.ntmps46
  go_wp2
  go_ret
  exact ⟨rfl, rfl⟩
/-- the table, the last one first -/
def fnL : List FnE := [⟨⟨#[104, 111, 108, 100, 115]⟩, 3, 62, []⟩,
  ⟨⟨#[101, 98, 118]⟩, 2, 61, []⟩,
  ⟨⟨#[111, 114]⟩, 2, 92, [(.func (.func 60) #[] #[], 82)]⟩,
  ⟨⟨#[97, 110, 100]⟩, 2, 92, [(.func (.func 59) #[] #[], 82)]⟩,
  ⟨⟨#[110, 111, 116]⟩, 1, 92, [(.func (.func 58) #[] #[], 82)]⟩,
  ⟨⟨#[62, 62]⟩, 2, 91, [(.func (.func 56) #[] #[], 79)]⟩,
  ⟨⟨#[60, 60]⟩, 2, 91, [(.func (.func 55) #[] #[], 79)]⟩,
  ⟨⟨#[105, 115]⟩, 2, 91, [(.func (.func 54) #[] #[], 79)]⟩,
  ⟨⟨#[62, 61]⟩, 2, 88, [(.bool false, 4), (.func (.func 52) #[] #[], 77)]⟩,
  ⟨⟨#[62]⟩, 2, 88, [(.bool false, 4), (.func (.func 51) #[] #[], 77)]⟩,
  ⟨⟨#[60, 61]⟩, 2, 88, [(.bool false, 4), (.func (.func 50) #[] #[], 77)]⟩,
  ⟨⟨#[60]⟩, 2, 88, [(.bool false, 4), (.func (.func 49) #[] #[], 77)]⟩,
  ⟨⟨#[33, 61]⟩, 2, 88, [(.bool true, 4), (.func (.func 48) #[] #[], 77)]⟩,
  ⟨⟨#[61]⟩, 2, 88, [(.bool false, 4), (.func (.func 47) #[] #[], 77)]⟩,
  ⟨⟨#[115, 117, 98, 115, 116, 114, 105, 110, 103]⟩, 3, 45, []⟩,
  ⟨⟨#[115, 116, 97, 114, 116, 115]⟩, 2, 80, [(.func (.func 43) #[] #[], 69)]⟩,
  ⟨⟨#[99, 111, 110, 116, 97, 105, 110, 115]⟩, 2, 80, [(.func (.func 40) #[] #[], 69)]⟩,
  ⟨⟨#[99, 111, 110, 99, 97, 116]⟩, 2, 80, [(.func (.func 39) #[] #[], 69)]⟩,
  ⟨⟨#[108, 101, 110, 103, 116, 104]⟩, 1, 80, [(.func (.func 36) #[] #[], 69)]⟩,
  ⟨⟨#[115, 112, 97, 110]⟩, 2, 82, [(.func (.func 35) #[] #[], 71)]⟩,
  ⟨⟨#[109, 111, 100]⟩, 2, 82, [(.func (.func 34) #[] #[], 71)]⟩,
  ⟨⟨#[100, 105, 118]⟩, 2, 82, [(.func (.func 33) #[] #[], 71)]⟩,
  ⟨⟨#[42]⟩, 2, 82, [(.func (.func 32) #[] #[], 71)]⟩,
  ⟨⟨#[45]⟩, 2, 82, [(.func (.func 31) #[] #[], 71)]⟩,
  ⟨⟨#[43]⟩, 2, 82, [(.func (.func 30) #[] #[], 71)]⟩,
  ⟨⟨#[110, 101, 103]⟩, 1, 82, [(.func (.func 29) #[] #[], 71)]⟩,
  ⟨⟨#[111, 110, 101]⟩, 1, 77, [(.func (.func 28) #[] #[], 60)]⟩,
  ⟨⟨#[105, 110, 116, 101, 103, 101, 114]⟩, 1, 82, [(.func (.func 27) #[] #[], 71)]⟩,
  ⟨⟨#[115, 116, 114, 105, 110, 103]⟩, 1, 80, [(.func (.func 24) #[] #[], 69)]⟩,
  ⟨⟨#[110, 97, 109, 101]⟩, 1, 77, [(.func (.func 22) #[] #[], 60)]⟩,
  ⟨⟨#[110, 111, 100, 101]⟩, 1, 77, [(.func (.func 21) #[] #[], 60)]⟩,
  ⟨⟨#[100, 97, 116, 97]⟩, 1, 77, [(.func (.func 20) #[] #[], 60)]⟩]
set_option maxHeartbeats 12800000 in
theorem functions_is (w : World) : Calls Tryz.prog 7 #[] w fun e w' => e = .returned (.map (some w.heap.size)) ∧ (∃ V, FnS w' w.heap.size V fnL) ∧ Below w.heap.size w w' := by
  have HV : Hid (FnS (w.alloc (.map #[] 0)) w.heap.size (fun _ => none) []) := FnS.start w
  have HB : Hid (Below w.heap.size w (w.alloc (.map #[] 0))) := (Below.refl _ _).alloc (Nat.le_refl _) _
  have hmm := @run_makeMap Tryz.prog
  go_enter Tryz.func7, Tryz.ntmps7
  go_wp2_with (first
    | (go_at_call 19; refine (of_is _ _).mono ?_; rintro e w1 ⟨rfl, rfl⟩)
    | (go_at_call 23; refine (ofTexts_is _ _).mono ?_; rintro e w1 ⟨rfl, rfl⟩)
    | (go_at_call 26; refine (ofIntegers_is _ _).mono ?_; rintro e w1 ⟨rfl, rfl⟩)
    | (go_at_call 53; refine (ofNodes_is _ _).mono ?_; rintro e w1 ⟨rfl, rfl⟩)
    | (go_at_call 57; refine (ofTruths_is _ _).mono ?_; rintro e w1 ⟨rfl, rfl⟩)
    | (go_at_call 46; refine (compared_is _ _ _).mono ?_; rintro e w1 ⟨rfl, rfl⟩)
    | (refine upon_vins Tryz.underlying30 (VMap.alloc HV.out.vm _) ?_ ?_; (· decide); intro w2 hv2 ht2; have HV2 := hidR (HV.out.add1 (by rfl) (by simp) ht2 hv2); have HB2 : Hid (Below w.heap.size w w2) := (belowR HB.out (Nat.le_refl _) _).trans (ht2.below (Nat.le_refl _)); clear HV HB hv2 ht2; have HV := HV2; have HB := HB2; clear HV2 HB2)
    | (refine upon_vins Tryz.underlying30 (VMap.alloc (VMap.alloc HV.out.vm _) _) ?_ ?_; (· decide); intro w2 hv2 ht2; have HV2 := hidR (HV.out.add2 (by rfl) (by simp) ht2 hv2); have HB2 : Hid (Below w.heap.size w w2) := (belowR (belowR HB.out (Nat.le_refl _) _) (Nat.le_refl _) _).trans (ht2.below (Nat.le_refl _)); clear HV HB hv2 ht2; have HV := HV2; have HB := HB2; clear HV2 HB2)
    | (refine upon_vins Tryz.underlying30 HV.out.vm ?_ ?_; (· decide); intro w2 hv2 ht2; have HV2 := hidR (HV.out.add0 (by rfl) ht2 hv2); have HB2 : Hid (Below w.heap.size w w2) := HB.out.trans (ht2.below (Nat.le_refl _)); clear HV HB hv2 ht2; have HV := HV2; have HB := HB2; clear HV2 HB2))
  go_ret
  exact ⟨rfl, ⟨_, HV.out⟩, HB.out⟩
end Go.Proofs.YtkcejelmohameaaGreatDoor
