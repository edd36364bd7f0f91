/-
  CONTRACT of the function value within rel.Join; a law for its map.
-/
import Derived.Test.YtalllggokmhgeaaDoorRlJMap
import Derived.Test.YtalllggokmhgeaaDoorRlPair
import Derived.Deep.QuietTactic
import Derived.BigQuiet
set_option linter.unusedVariables false
namespace Go.Proofs.YtalllggokmhgeaaDoor
set_option maxRecDepth 100000
open Go.RowKit Go.WideShapes

/-- which rows have this item -/
def matchK (I : Nat → It) (z : It) (k : Nat) : Bool := itB (I k) z
/-- the values of the rows, of the first t, that have an item -/
def valsV (rv : Nat → Value) (I : Nat → It) (t : Nat) (z : It) : List Value := (keptL (matchK I z) t).map rv
theorem valsV_len (rv : Nat → Value) (I : Nat → It) (t : Nat) (z : It) : (valsV rv I t z).length = keptN (matchK I z) t := by simp [valsV, keptN]
theorem valsV_succ (rv : Nat → Value) (I : Nat → It) (t : Nat) : (fun y => if itB y (I t) = true then valsV rv I t (I t) ++ [rv t] else valsV rv I t y) = valsV rv I (t + 1) := by
  funext y
  by_cases h : y = I t
  · rw [if_pos (itB_iff.2 h)]
    subst h
    unfold valsV
    rw [keptL_yes (show matchK I (I t) t = true from itB_iff.2 rfl)]
    simp
  · rw [if_neg (fun e => h (itB_iff.1 e))]
    unfold valsV
    rw [keptL_no (show matchK I y t = false by
      cases e : matchK I y t
      · rfl
      · exact absurd (itB_iff.1 e).symm h)]
theorem valsV_at {rv : Nat → Value} {I : Nat → It} {t : Nat} {z : It} {i : Nat} (hi : i < keptN (matchK I z) t) : (valsV rv I t z)[i]? = some (rv (keptAt (matchK I z) t i)) := by
  unfold valsV keptAt
  rw [List.getElem?_map]
  have : (keptL (matchK I z) t)[i]? = some ((keptL (matchK I z) t).getD i 0) := by
    rw [List.getD_eq_getElem?_getD, List.getElem?_eq_getElem hi]
    rfl
  rw [this]
  rfl
/-- the look tells the same in every world that has the map so -/
theorem JMap.look_all {w : World} {M base : Nat} {V : It → List Value} (h : JMap w M base V) {x : It} (hx : fitI x) :
    ∃ v, w.ownsRow base 32 1 v (V x).length (V x) ∧ ∀ W : World, W.heap[M]? = w.heap[M]? → (Instr.lookup 44 (.map (some M)) (itV x) false).run Tryd.prog W = .ok v W := by
  obtain ⟨es, clock, h1, h2, h3, h4, h5⟩ := h
  obtain ⟨l, hk⟩ := itV_key x hx
  by_cases hV : V x = []
  · refine ⟨.slice none 0 0, by rw [hV]; exact World.ownsRow_nil _ _ _ _, fun W hW => ?_⟩
    rcases itemLaw.find W hk es.toList (jkeys h3) with ⟨f1, f2⟩ | ⟨j, e0, f1, f2, f3⟩
    · simp [Instr.lookup, run_underlying Tryd.underlying44, MapKept.run_getObj_map (hW.trans h1), itemLaw.check W _ hk, f1, zeroRows W, Result.andThen]
    · obtain ⟨y, k1, k2, k3, k4, _⟩ := h3 j e0 (by simpa using f2)
      have e : y = x := itV_inj (k1.symm.trans f3)
      subst e
      exact absurd hV k3
  · obtain ⟨i, e1, q1, q2⟩ := h5 x hV
    obtain ⟨y, k1, k2, k3, k4, _⟩ := h3 i e1 q1
    have e : y = x := itV_inj (k1.symm.trans q2)
    subst e
    refine ⟨e1.val, k4, fun W hW => ?_⟩
    rcases itemLaw.find W hk es.toList (jkeys h3) with ⟨f1, f2⟩ | ⟨j, e0, f1, f2, f3⟩
    · exact absurd q2 (f2 e1 (List.mem_iff_getElem?.2 ⟨i, by simpa using q1⟩))
    · have hj : es[j]? = some e0 := by simpa using f2
      have hij : j = i := Classical.byContradiction fun hne => (h4 j i e0 e1 hj q1 hne).1 (f3.trans q2.symm)
      subst hij
      rw [hj] at q1
      cases q1
      simp [Instr.lookup, run_underlying Tryd.underlying44, MapKept.run_getObj_map (hW.trans h1), itemLaw.check W _ hk, f1, Result.andThen]
/-- a value more, in a list of one's own -/
theorem step_push_val {ops : Array Oper} {o : Oper} {a : Act} {w : World} {K : Act → World → Prop} {Q : Exit → Act → World → Prop} {Z : Prop} (hgd : o.guard = none) (s x : Operand)
    (ho : o.op = .call { callee := .builtin .append, args := #[s, x], argTypes := #[24, 24] })
    (base : Nat) (v : Value) (us : List Value) (hs : a.eval s = v) (hv : w.ownsRow base 32 1 v us.length us) (hbase : base ≤ w.heap.size)
    (ad : Addr) (c : Nat) (u : Value) (hx : a.eval x = .slice (some ad) 1 c) (hc : w.cell? ad = some u) (huo : u.oneCell' = true) (hb : (us.length + 1) * 24 ≤ 140737488355328)
    (h : ∀ v' w', w'.ownsRow base 32 1 v' (us.length + 1) (us ++ [u]) → w.grownBy w' v.ownBlock → (v'.ownBlock = v.ownBlock ∨ v'.ownBlock = some w.heap.size) → K (a.put o.dst v') w') : if Region.wanted o (yielded ops a.tmps) = true then Oper.wp Tryd.prog o a w K Q else Z := by
  refine step_of hgd ?_
  obtain ⟨i0, hi0, hz0, hz1, hz2⟩ := info_parts infoItems
  obtain ⟨v', w', hr, k1, k2, k3, k4⟩ := run_append_own_at (P := Tryd.prog) w base 24 o.type 32 i0 _ 1 24 Tryd.underlying24 hi0 hz0 hz1 hz2 rfl (by decide) v us.length us hv ad 1 c [u] rfl (fun j x hj => by
    match j, hj with
    | 0, hj =>
      simp only [List.getElem?_cons_zero, Option.some.injEq] at hj
      subst hj
      simpa [Addr.add] using hc) (fun x hx => by simp at hx; rw [hx]; exact huo) (by unfold maxLen; omega) hb hbase
  unfold Oper.wp execOp
  simp only [ho, resolve, invoke, builtin, Sem.run_bind, Sem.run_pure, Result.andThen_ok, List.map_toArray, List.map_cons, List.map_nil, hs, hx, hr]
  exact h v' w' k1 k2 k4
set_option maxHeartbeats 800000 in
theorem join1_is (u : Value) (n p gp gm M : Nat) (X : Nat → It) (v : Value) (w : World) (hu : ItsIs w u n X) (hp : p < n) (hgp : gp < w.heap.size) (hgm : gm < w.heap.size) (hcp : w.cell? ⟨gp, 0, none⟩ = some (.int .i64 (p : Int))) (hcm : w.cell? ⟨gm, 0, none⟩ = some (.map (some M)))
    (hlk : ∀ W : World, W.heap[M]? = w.heap[M]? → (Instr.lookup 44 (.map (some M)) (itV (X p)) false).run Tryd.prog W = .ok v W) :
    Calls Tryd.prog 13 #[u, .pointer (some ⟨gm, 0, none⟩), .pointer (some ⟨gp, 0, none⟩)] w fun e w' => e = .returned v ∧ Below w.heap.size w w' := by
  obtain ⟨ua, ucap, rfl, u1, u2, _, u3⟩ := hu
  obtain ⟨b, off, rfl, hb, u4⟩ := u3 (by omega)
  obtain ⟨e0, e1, e2⟩ := u4 p hp
  have hpi : (p : Int) < (n : Int) := by omega
  have hnn : n ≤ 9223372036854775807 := by unfold maxLen at u2; omega
  have hl0 : (Instr.lookup 44 (.map (some M)) (.agg #[.int .i64 (X p).kind, .int .i64 (X p).n, .string (X p).s]) false).run Tryd.prog w = .ok v w := hlk w rfl
  have hl1 : (Instr.lookup 44 (.map (some M)) (.agg #[.int .i64 (X p).kind, .int .i64 (X p).n, .string (X p).s]) false).run Tryd.prog w.drew = .ok v w.drew := hlk w.drew rfl
  clear u2 u3 u4 hlk
  generalize (X p).kind = xk at *
  generalize (X p).n = xn at *
  generalize (X p).s = xs at *
  go_enter Tryd.func13, Tryd.ntmps13
  go_upto_region 1 with fail
  go_region
  all_goals
    (try go_wp2)
    go_ret
    exact ⟨rfl, by first | exact Below.refl _ _ | exact (Below.refl _ _).drew⟩
end Go.Proofs.YtalllggokmhgeaaDoor
