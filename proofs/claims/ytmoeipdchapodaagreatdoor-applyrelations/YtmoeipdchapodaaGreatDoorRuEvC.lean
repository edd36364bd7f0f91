/-
  CONTRACTS of package run at a plan of two ops, a table and a function of its two columns: its evaluation: a row with its value.
-/
import Derived.Test.YtmoeipdchapodaaGreatDoorRuEvB
import Derived.Test.YtmoeipdchapodaaGreatDoorRlPairs
import Derived.ArgAppend
import Derived.Deep.RegionHeld3
import Derived.Deep.QuietTactic
import Derived.Deep.Cut
import Derived.BigQuiet
import Derived.Deep.RegionLaw
import Derived.Laws.EntriesVeiled
set_option linter.unusedVariables false
namespace Go.Proofs.YtmoeipdchapodaaGreatDoor
set_option maxRecDepth 100000
open Go.RowKit Go.WideShapes

/-- one value more, where there is room for it -/
theorem wp_app1 {o : Oper} {a : Act} {w : World} {K : Act → World → Prop} {Q : Exit → Act → World → Prop} (s x : Operand) (ho : o.op = .call { callee := .builtin .append, args := #[s, x], argTypes := #[34, 34] })
    (qb nb : Nat) (u : Value) (hs : a.eval s = .slice (some ⟨qb, 0, none⟩) 0 1) (hx : a.eval x = .slice (some ⟨nb, 0, none⟩) 1 1) (hc : w.cell? ⟨nb, 0, none⟩ = some u) (hu : u.oneCell' = true) (hq : (w.cell? ⟨qb, 0, none⟩).isSome = true) (hf : w.frozen? ⟨qb, 0, none⟩ = false)
    (h : K (a.put o.dst (.slice (some ⟨qb, 0, none⟩) 1 1)) (w.setCell ⟨qb, 0, none⟩ u)) : o.wp Tryz.prog a w K Q := by
  obtain ⟨i0, hi0, hz0, hz1, hz2⟩ := info_parts infoItems
  have hr := run_append_room_cells (P := Tryz.prog) w 34 o.type 33 i0 Tryz.underlying34 hi0 qb 0 0 1 ⟨nb, 0, none⟩ 1 1 [u] (by rw [hz1]; rfl) (fun j v hj => by
    have hj1 : j < 1 := (List.getElem?_eq_some_iff.1 hj).1
    obtain rfl : j = 0 := by omega
    simp at hj
    subst hj
    simpa [Addr.add] using hc) (fun v hv => by simp at hv; rw [hv]; exact hu) (by omega) (fun j hj => by
      obtain rfl : j = 0 := by simp at hj; omega
      simpa using hq) (fun j hj => by
      obtain rfl : j = 0 := by simp at hj; omega
      simpa using hf)
  have hset : w.setCells qb (0 + 0 * i0.size) [u] = w.setCell ⟨qb, 0, none⟩ u := by simp [World.setCells]
  rw [hset] at hr
  unfold Oper.wp execOp
  simp only [ho, resolve, invoke, builtin, Sem.run_bind, Sem.run_pure, Result.andThen_ok, List.map_toArray, List.map_cons, List.map_nil, hs, hx, hr]
  exact h
theorem step_app1 {ops : Array Oper} {o : Oper} {a : Act} {w : World} {K : Act → World → Prop} {Q : Exit → Act → World → Prop} {Z : Prop} (hgd : o.guard = none) (s x : Operand) (ho : o.op = .call { callee := .builtin .append, args := #[s, x], argTypes := #[34, 34] })
    (qb nb : Nat) (u : Value) (hs : a.eval s = .slice (some ⟨qb, 0, none⟩) 0 1) (hx : a.eval x = .slice (some ⟨nb, 0, none⟩) 1 1) (hc : w.cell? ⟨nb, 0, none⟩ = some u) (hu : u.oneCell' = true) (hq : (w.cell? ⟨qb, 0, none⟩).isSome = true) (hf : w.frozen? ⟨qb, 0, none⟩ = false)
    (h : K (a.put o.dst (.slice (some ⟨qb, 0, none⟩) 1 1)) (w.setCell ⟨qb, 0, none⟩ u)) : if Region.wanted o (yielded ops a.tmps) = true then Oper.wp Tryz.prog o a w K Q else Z :=
  step_of hgd (wp_app1 s x ho qb nb u hs hx hc hu hq hf h)
/-- the rows that are being made: none yet, room for one -/
structure MadeAt (w : World) (mb qb : Nat) (ca : Option Addr) (ck : Nat) : Prop where
  st : w.heap[mb]? = some (.cells #[.slice ca 3 ck, .slice (some ⟨qb, 0, none⟩) 0 1] 36)
  rw_ : w.heap[qb]? = some (.cells #[.slice none 0 0] 33)
theorem MadeAt.below {w w' : World} {mb qb : Nat} {ca : Option Addr} {ck : Nat} (h : MadeAt w mb qb ca ck) (hb : Below w.heap.size w w') : MadeAt w' mb qb ca ck :=
  ⟨(hb.block _ (Array.getElem?_eq_some_iff.1 h.st).1).trans h.st, (hb.block _ (Array.getElem?_eq_some_iff.1 h.rw_).1).trans h.rw_⟩
theorem two_its {w : World} {b o k : Nat} {x y : It} (h : TwoAt w b o x y) (h2 : 2 ≤ k) (hm : k ≤ maxLen) : ItsIs w (.slice (some ⟨b, o, none⟩) 2 k) 2 (fun i => if i = 0 then x else y) :=
  ⟨_, k, rfl, h2, hm, (fun h => nomatch h), fun _ => ⟨b, o, rfl, h.lt, fun i hi => by
    obtain rfl | rfl : i = 0 ∨ i = 1 := by omega
    · exact ⟨h.x0, h.x1, h.x2⟩
    · exact ⟨h.y0, h.y1, h.y2⟩⟩⟩
theorem one_its (w : World) (r : It) (g : Nat) (hg : w.heap.size = g) : ItsIs (w.alloc (.cells #[.int .i64 r.kind, .int .i64 r.n, .string r.s] 24)) (.slice (some ⟨g, 0, none⟩) 1 1) 1 (fun _ => r) := by
  subst hg
  refine ⟨_, 1, rfl, Nat.le_refl _, by unfold maxLen; omega, (fun h => nomatch h), fun _ => ⟨w.heap.size, 0, rfl, by simp, fun i hi => ?_⟩⟩
  obtain rfl : i = 0 := by omega
  exact ⟨by simp, by simp, by simp⟩
set_option maxHeartbeats 6400000 in
theorem apply1_bad (F : FuncId) (caps : Array Value) (fp : Value) (vb fb mb ib rb ro rk : Nat) (r : It) (ok : Bool) (w : World) (hrun : ∀ (args : Array Value) (W : World), Sem.run Tryz.prog (callFunc F args) W = .ok (.enter F args) W) (hvb : w.heap[vb]? = some (.cells #[.func (.func F) #[] caps] 82)) (hfb : w.heap[fb]? = some (.cells #[fp] 77)) (hrs : r.s.size ≤ maxLen) (hT : ∀ W, Below w.heap.size w W → Tabs W)
    (hval : Calls Tryz.prog F (#[fp, .slice (some ⟨ib, 0, none⟩) 2 2] ++ caps) w fun e w' => e = .returned (.tuple #[.agg #[.int .i64 r.kind, .int .i64 r.n, .string r.s], .bool ok]) ∧ Below w.heap.size w w') (hbad : ok = false ∨ mayI r = false) :
    Calls Tryz.prog 124 #[.slice (some ⟨rb, ro, none⟩) 2 rk, .slice (some ⟨ib, 0, none⟩) 2 2, .pointer (some ⟨vb, 0, none⟩), .pointer (some ⟨fb, 0, none⟩), .pointer (some ⟨mb, 0, none⟩)] w fun e w' => e = .returned (.int .i64 12) ∧ Below w.heap.size w w' := by
  obtain ⟨v0, _, v1⟩ := blk1 hvb
  obtain ⟨f0, _, f1⟩ := blk1 hfb
  have CV : Hid (Calls Tryz.prog F (#[fp, .slice (some ⟨ib, 0, none⟩) 2 2] ++ caps) w fun e w' => e = .returned (.tuple #[.agg #[.int .i64 r.kind, .int .i64 r.n, .string r.s], .bool ok]) ∧ Below w.heap.size w w') := hval
  have CK : Hid (∀ W, Below w.heap.size w W → Calls Tryz.prog 125 #[.agg #[.int .i64 r.kind, .int .i64 r.n, .string r.s]] W fun e w' => e = .returned (.int .i64 (itemF r)) ∧ Below W.heap.size W w') := fun W hW => checkItem_any r.kind r.n r.s W hrs (hT W hW)
  clear hvb hfb hval hT
  cases ok with
  | false =>
    go_enter Tryz.func124, Tryz.ntmps124
    go_wp2_with fail
    refine CV.out.mono ?_
    rintro e w1 ⟨rfl, hb1⟩
    have HB1 : Hid (Below w.heap.size w w1) := hb1
    have hz1 := hb1.size
    clear hb1
    go_wp2
    go_ret
    refine ⟨rfl, ?_⟩
    (focus (repeat (first | exact Below.refl _ _ | exact Hid.out (by assumption) | refine Below.setCell ?_ (by first | omega | (simp <;> omega)) _ | refine Below.alloc ?_ (by first | omega | (simp <;> omega)) _)))
  | true =>
    have hm : mayI r = false := by simpa using hbad
    have hi : (itemF r == 0) = false := by unfold itemF; rw [hm]; rfl
    generalize itemF r = R at *
    go_enter Tryz.func124, Tryz.ntmps124
    go_wp2_with fail
    refine CV.out.mono ?_
    rintro e w1 ⟨rfl, hb1⟩
    have HB1 : Hid (Below w.heap.size w w1) := hb1
    have hz1 := hb1.size
    clear hb1
    go_wp2_with (go_at_call 125; refine (CK.out _ ?_).mono ?_; (· (focus (repeat (first | exact Below.refl _ _ | exact Hid.out (by assumption) | refine Below.setCell ?_ (by first | omega | (simp <;> omega)) _ | refine Below.alloc ?_ (by first | omega | (simp <;> omega)) _)))); rintro e w2 ⟨rfl, hb2⟩; have HB2 : Hid (Below w.heap.size w w2) := Below.trans (by (focus (repeat (first | exact Below.refl _ _ | exact Hid.out (by assumption) | refine Below.setCell ?_ (by first | omega | (simp <;> omega)) _ | refine Below.alloc ?_ (by first | omega | (simp <;> omega)) _)))) (hb2.mono (by first | omega | (simp <;> omega))); clear hb2)
    go_ret
    exact ⟨rfl, HB2.out⟩
end Go.Proofs.YtmoeipdchapodaaGreatDoor
