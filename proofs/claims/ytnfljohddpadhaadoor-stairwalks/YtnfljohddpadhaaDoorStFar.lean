/-
  CONTRACTS of package axes: maps that are gone through; the best of each tree, and of each row.
-/
import Derived.Test.YtnfljohddpadhaaDoorStBest2
import Derived.Deep.QuietTactic
import Derived.BigQuiet
import Derived.WalkLawsBesides
import Derived.Outline
import Derived.Deep.RegionHeld3
import Derived.Deep.RegionLaw
import Derived.Laws.EntriesVeiled
set_option linter.unusedVariables false
namespace Go.Proofs.YtnfljohddpadhaaDoor
set_option maxRecDepth 100000
open Go.RowKit Go.WideShapes

def leftI (w : World) (M r : Nat) : Nat := match w.heap[M]?, w.heap[r]? with
  | some (.map es _), some (.mapIter _ _ seen _) => (leftOf es seen).size
  | _, _ => 0
theorem IRng.left {w : World} {r M : Nat} {V : Int → Option Value} {D : Int → Prop} {left : Nat} (h : IRng w r M V D left) : leftI w M r = left := by
  obtain ⟨es, clock, since, seen, c0, h1, h2, _, _, _, h6, _⟩ := h
  unfold leftI
  rw [h1, h2]
  exact h6
theorem wp_irange {o : Oper} {a : Act} {w : World} {K : Act → World → Prop} {Q : Exit → Act → World → Prop} (m : Operand) (t el : TypeId) (hop : o.op = Op.range t m) (ht : Tryd.prog.underlying t = some (.map 3 el))
    (M : Nat) (V : Int → Option Value) (hm : a.eval m = .map (some M)) (hV : IMap w M V)
    (h : ∀ w' left, IRng w' w.heap.size M V (fun _ => False) left → Below w.heap.size w w' → K (a.put o.dst (.pointer (some ⟨w.heap.size, 0, none⟩))) w') : o.wp Tryd.prog a w K Q := by
  obtain ⟨w', left, h1, h2, h3, h4, h5, h6, h7⟩ := hV.range ht
  unfold Oper.wp
  simp [execOp, hop, hm, h1, Result.andThen]
  exact h w' left h2 ⟨h5, h6, h7, by omega, h4⟩
theorem wpList_irange {ops : Array Oper} {rest : List Oper} {o : Oper} {a : Act} {w : World} {Q : Exit → Act → World → Prop} (hgd : o.guard = none) (m : Operand) (t el : TypeId) (hop : o.op = Op.range t m) (ht : Tryd.prog.underlying t = some (.map 3 el))
    (M : Nat) (V : Int → Option Value) (hm : a.eval m = .map (some M)) (hV : IMap w M V)
    (h : ∀ w' left, IRng w' w.heap.size M V (fun _ => False) left → Below w.heap.size w w' → wpList Tryd.prog ops Q rest (a.put o.dst (.pointer (some ⟨w.heap.size, 0, none⟩))) w') : wpList Tryd.prog ops Q (o :: rest) a w :=
  wpList_plain hgd fun _ hK => wp_irange m t el hop ht M V hm hV (fun w' left h1 h2 => hK _ _ (h w' left h1 h2))
theorem step_ofS {P : Program} {ops : Array Oper} {o : Oper} {a : Act} {w : World} {K : Act → World → Prop} {Q : Exit → Act → World → Prop} {Z : Prop} (hgd : o.guard = none) (h : o.wp P a w K Q) : if Region.wanted o (yielded ops a.tmps) = true then Oper.wp P o a w K Q else Z := by
  have hw : Region.wanted o (yielded ops a.tmps) = true := by simp [Region.wanted, hgd]
  rw [if_pos hw]
  exact h
theorem step_irange {ops : Array Oper} {o : Oper} {a : Act} {w : World} {K : Act → World → Prop} {Q : Exit → Act → World → Prop} {Z : Prop} (hgd : o.guard = none) (m : Operand) (t el : TypeId) (hop : o.op = Op.range t m) (ht : Tryd.prog.underlying t = some (.map 3 el))
    (M : Nat) (V : Int → Option Value) (hm : a.eval m = .map (some M)) (hV : IMap w M V)
    (h : ∀ w' left, IRng w' w.heap.size M V (fun _ => False) left → Below w.heap.size w w' → K (a.put o.dst (.pointer (some ⟨w.heap.size, 0, none⟩))) w') : if Region.wanted o (yielded ops a.tmps) = true then Oper.wp Tryd.prog o a w K Q else Z :=
  step_ofS hgd (wp_irange m t el hop ht M V hm hV h)
theorem step_callS {P : Program} {ops : Array Oper} {o : Oper} {a : Act} {w : World} {K : Act → World → Prop} {Q : Exit → Act → World → Prop} {Z : Prop} (hgd : o.guard = none) (f : FuncId) (args : Array Value) (hrun : (execOp a.eval o).run P w = .ok (.enter f args) w)
    (Post : Value → World → Prop) (hc : Calls P f args w fun e w' => ∃ v, e = .returned v ∧ Post v w') (h : ∀ v w', Post v w' → K (a.put o.dst v) w') : if Region.wanted o (yielded ops a.tmps) = true then Oper.wp P o a w K Q else Z := by
  refine step_ofS hgd ?_
  unfold Oper.wp
  rw [hrun, Oper.upon_enter]
  refine hc.mono fun e w'' hh => ?_
  obtain ⟨v, rfl, hp⟩ := hh
  exact h v w'' hp
theorem wpList_inext {ops : Array Oper} {rest : List Oper} {o : Oper} {a : Act} {w : World} {Q : Exit → Act → World → Prop} (hgd : o.guard = none) (it : Operand) (hop : o.op = Op.next it false)
    (r M : Nat) (V : Int → Option Value) (D : Int → Prop) (left : Nat) (hit : a.eval it = .pointer (some ⟨r, 0, none⟩)) (hR : IRng w r M V D left)
    (hDone : (∀ x v, V x = some v → D x) → wpList Tryd.prog ops Q rest (a.put o.dst (.tuple #[.bool false])) w)
    (hMore : ∀ x v w1 left', V x = some v → ¬ D x → (Instr.entry (.pointer (some ⟨r, 0, none⟩))).run Tryd.prog w1 = .ok (.tuple #[.int .i64 x, v]) w1 → left' < left → IRng w1 r M V (fun y => D y ∨ y = x) left' → TurnedM w w1 r → wpList Tryd.prog ops Q rest (a.put o.dst (.tuple #[.bool true, .int .i64 x, v])) w1) : wpList Tryd.prog ops Q (o :: rest) a w :=
  wpList_plain hgd fun _ hK => by
    unfold Oper.wp
    rcases hR.next o.type with ⟨h1, h2⟩ | ⟨x, v, w1, left', h1, h2, h3, h4, h5, h6, h7⟩
    · simp [execOp, hop, hit, h2, Result.andThen]
      exact hK _ _ (hDone h1)
    · simp [execOp, hop, hit, h3, Result.andThen]
      exact hK _ _ (hMore x v w1 left' h1 h2 h4 h5 h6 h7)
theorem wk_new {w W W' : World} {la : Option Addr} {lb lo N lcap : Nat} {E : Nat → Nd} (h0 : Wk w la lb lo N lcap E) (h : Wk W la lb lo N lcap E) (hk : Kept (fun b => w.heap.size ≤ b) W W') : Wk W' la lb lo N lcap E := by
  refine ⟨h.la, h.n, h.cap, h.max, fun hn => Nat.lt_of_lt_of_le (h.lt hn) hk.size, ?_⟩
  by_cases hn : 0 < N
  · exact h.at_.blk (hk.block lb (h.lt hn) (by have := h0.lt hn; omega))
  · exact fun i hi => by omega
/-- the best of each tree -/
theorem best_roots (h : FuncId) (hb hc : Array Value) (bt : Nat → Nat → Bool) (la : Option Addr) (lb lo N lcap : Nat) (E : Nat → Nd) (ca : Option Addr) (K ccap M : Nat) (cb co : Nat) (C : Nat → Nat) (s1 s2 : Nat) (Z : World → Prop) (w : World) (t : Tr E N) (hcap : K ≤ ccap) (hK : ccap ≤ maxLen) (hw : Wk w la lb lo N lcap E) (hC : CxAt w ca cb co K C) (hCN : ∀ j, j < K → C j < N) (hasc : ∀ j k, j < k → k < K → C j ≤ C k)
    (h1 : w.heap[s1]? = some (.cells #[.int .i64 (-1)] 3)) (h2 : BoxAt w s2 la N lcap ca K ccap M) (n12 : s1 ≠ s2) (n1l : s1 ≠ lb) (n1c : s1 ≠ cb)
    (hrh : ∀ (args : Array Value) (W : World), Sem.run Tryd.prog (callFunc h args) W = .ok (.enter h args) W) (hZ0 : Z w) (hZ : ∀ W W', w.heap.size ≤ W.heap.size → Z W → Kept (fun b => b = s1 ∨ w.heap.size ≤ b) W W' → Z W')
    (hh : ∀ (W : World) (a b : Nat), Z W → Wk W la lb lo N lcap E → a < N → b < N → Calls Tryd.prog h (hb ++ #[.int .i64 (a : Int), .int .i64 (b : Int)] ++ hc) W fun e w' => e = .returned (.bool (bt a b)) ∧ Below W.heap.size W w') :
    Calls Tryd.prog 54 #[.agg #[.slice la N lcap, .slice ca K ccap, .map (some M)], .func (.func 76) #[] #[.pointer (some ⟨s1, 0, none⟩), .pointer (some ⟨s2, 0, none⟩)], .func (.func h) hb hc] w fun e w' => e = .returned (.map (some (w.heap.size + 3))) ∧ IMap w' (w.heap.size + 3) (ofV (bst bt (fun c => (rtN E c : Int)) C K)) ∧ Kept (fun b => b = s1) w w' := by
  have l1 := (Array.getElem?_eq_some_iff.1 h1).1
  have hN := hw.n
  have hb2 := h2.lt
  refine (best_is 76 h #[] #[.pointer (some ⟨s1, 0, none⟩), .pointer (some ⟨s2, 0, none⟩)] hb hc bt (fun c => (rtN E c : Int)) la lb lo N lcap E ca K ccap M cb co C (fun k V => Wk V la lb lo N lcap E ∧ BoxAt V s2 la N lcap ca K ccap M ∧ Z V ∧ (∃ rt : Int, V.heap[s1]? = some (.cells #[.int .i64 rt] 3) ∧ (rt = -1 ∨ ∃ j, j < k ∧ j < K ∧ rt = (rtN E (C j) : Int)))) (fun b => b = s1) w hcap hK hC (fun e => n1c e.symm) hCN hN (fun args V => by kernel_rfl) hrh (fun b e => by omega) ?_ ?_ ?_ ?_ ?_).mono ?_
  · intro c hc
    have := (rtN_is t hc).1.1
    exact ⟨by omega, by omega⟩
  · exact ⟨hw, h2, hZ0, -1, h1, .inl rfl⟩
  · rintro k W W' hz ⟨g1, g2, g3, rt, g4, g5⟩ hk
    refine ⟨wk_new hw g1 hk, (hk.block s2 (by omega) (by omega)).trans g2, hZ W W' hz g3 (hk.mono (fun _ _ h => .inr h)), rt, (hk.block s1 (by omega) (by omega)).trans g4, g5⟩
  · rintro k W hk hz ⟨g1, g2, g3, rt, g4, g5⟩
    refine (roots1_is la lb lo N lcap E ca K ccap M s2 s1 (C k) rt W t g1 g2 g4 n12 n1l (hCN k hk) ?_).mono ?_
    · rcases g5 with g5 | ⟨j, j1, j2, g5⟩
      · exact .inl g5
      · have q := rtN_is t (hCN j j2)
        exact .inr ⟨rtN E (C j), g5, Nat.le_trans q.1.1 (hasc j k j1 hk), q.2⟩
    · rintro e w' ⟨rfl, k1, k2⟩
      exact ⟨rfl, ⟨g1.keep k2 (fun e => n1l e.symm), g2.keep k2 (fun e => n12 e.symm), hZ W w' hz g3 (k2.mono (fun _ _ e => .inl e)), _, k1, .inr ⟨k, by omega, hk, rfl⟩⟩, k2⟩
  · rintro k W a b hz ⟨g1, g2, g3, g4⟩ ha hb'
    exact hh W a b g3 g1 ha hb'
  · rintro e w' ⟨rfl, k1, k2, k3⟩
    exact ⟨rfl, k1, k3⟩
/-- the best of each row -/
theorem best_rows (h : FuncId) (hb hc : Array Value) (bt : Nat → Nat → Bool) (la : Option Addr) (lb lo N lcap : Nat) (E : Nat → Nd) (ca : Option Addr) (K ccap M : Nat) (cb co : Nat) (C : Nat → Nat) (w : World) (t : Tr E N) (hcap : K ≤ ccap) (hK : ccap ≤ maxLen) (hw : Wk w la lb lo N lcap E) (hC : CxAt w ca cb co K C) (hCN : ∀ j, j < K → C j < N)
    (hrh : ∀ (args : Array Value) (W : World), Sem.run Tryd.prog (callFunc h args) W = .ok (.enter h args) W)
    (hh : ∀ (W : World) (a b : Nat), a < N → b < N → Calls Tryd.prog h (hb ++ #[.int .i64 (a : Int), .int .i64 (b : Int)] ++ hc) W fun e w' => e = .returned (.bool (bt a b)) ∧ Below W.heap.size W w') :
    Calls Tryd.prog 54 #[.agg #[.slice la N lcap, .slice ca K ccap, .map (some M)], .func (.func 57) #[.agg #[.slice la N lcap, .slice ca K ccap, .map (some M)]] #[], .func (.func h) hb hc] w fun e w' => e = .returned (.map (some (w.heap.size + 3))) ∧ IMap w' (w.heap.size + 3) (ofV (bst bt (fun c => rowP (E c)) C K)) ∧ Kept (fun b => False) w w' := by
  have hN := hw.n
  refine (best_is 57 h #[.agg #[.slice la N lcap, .slice ca K ccap, .map (some M)]] #[] hb hc bt (fun c => rowP (E c)) la lb lo N lcap E ca K ccap M cb co C (fun k V => Wk V la lb lo N lcap E) (fun b => False) w hcap hK hC (fun e => e) hCN hN (fun args V => by kernel_rfl) hrh (fun b e => e.elim) ?_ ?_ ?_ ?_ ?_).mono ?_
  · intro c hc
    unfold rowP
    split
    · exact ⟨by decide, by decide⟩
    · rcases t.up c hc with e | ⟨p, e, e1, e2⟩
      · rw [e]; exact ⟨by decide, by decide⟩
      · rw [e]; exact ⟨by omega, by omega⟩
  · exact hw
  · rintro k W W' hz g1 hk
    exact wk_new hw g1 hk
  · rintro k W hk hz g1
    refine (rowOf_is la lb lo N lcap E ca K ccap M (C k) W t g1 (hCN k hk)).mono ?_
    rintro e w' ⟨rfl, k1⟩
    exact ⟨rfl, g1.below k1, Kept.of_below k1⟩
  · rintro k W a b hz g1 ha hb'
    exact hh W a b ha hb'
  · rintro e w' ⟨rfl, k1, k2, k3⟩
    exact ⟨rfl, k1, k3⟩
end Go.Proofs.YtnfljohddpadhaaDoor
