/-
  CONTRACTS of package axes: the best context node of each group.
-/
import Derived.Test.YtnfljohddpadhaaDoorStSets
import Derived.Deep.QuietTactic
import Derived.BigQuiet
import Derived.WalkLawsBesides
import Derived.Outline
import Derived.Deep.RegionHeld3
import Derived.Deep.RegionLaw
import Derived.Laws.EntriesVeiled
set_option linter.unusedVariables false
namespace Go.Proofs.YtnfljohddpadhaaDoor
set_option maxRecDepth 100000
open Go.RowKit Go.WideShapes

/-- what a map of places to places holds -/
def ofV (B : Int → Option Nat) : Int → Option Value := fun x => (B x).map fun n => .int .i64 (n : Int)
/-- the best of each group, with one more context node -/
def bestB (bt : Nat → Nat → Bool) (B : Int → Option Nat) (g : Int) (c : Nat) : Int → Option Nat :=
  if g < 0 then B else fun x => if x = g then (match B g with | none => some c | some b => if bt c b = true then some c else some b) else B x
def bst (bt : Nat → Nat → Bool) (G : Nat → Int) (C : Nat → Nat) : Nat → Int → Option Nat
  | 0 => fun _ => none
  | k + 1 => bestB bt (bst bt G C k) (G (C k)) (C k)
theorem bestB_neg {bt : Nat → Nat → Bool} {B : Int → Option Nat} {g : Int} {c : Nat} (h : g < 0) : bestB bt B g c = B := by unfold bestB; rw [if_pos h]
theorem bestB_put {bt : Nat → Nat → Bool} {B : Int → Option Nat} {g : Int} {c : Nat} (h : ¬ g < 0) (hb : B g = none ∨ ∃ b, B g = some b ∧ bt c b = true) : ofV (bestB bt B g c) = putI (ofV B) g (.int .i64 (c : Int)) := by
  funext x
  unfold bestB putI ofV
  rw [if_neg h]
  by_cases e : x = g
  · subst e
    simp only [if_pos]
    rcases hb with hb | ⟨b, hb, hbt⟩
    · rw [hb]; rfl
    · rw [hb]; simp only; rw [if_pos hbt]; rfl
  · simp only [if_neg e]
theorem bestB_stay {bt : Nat → Nat → Bool} {B : Int → Option Nat} {g : Int} {c b : Nat} (hb : B g = some b) (hbt : bt c b = false) : bestB bt B g c = B := by
  unfold bestB
  split
  · rfl
  · funext x
    split
    · rename_i e; subst e; rw [hb]; simp [hbt]
    · rfl
theorem bst_neg (bt : Nat → Nat → Bool) (G : Nat → Int) (C : Nat → Nat) {g : Int} (h : g < 0) : ∀ k, bst bt G C k g = none
  | 0 => rfl
  | k + 1 => by
    show bestB bt (bst bt G C k) (G (C k)) (C k) g = none
    unfold bestB
    split
    · exact bst_neg bt G C h k
    · rename_i hk
      simp only
      rw [if_neg (by omega)]
      exact bst_neg bt G C h k
theorem bst_is (ky : Nat → Int) (bt : Nat → Nat → Bool) (G : Nat → Int) (C : Nat → Nat) (hbt : ∀ a b, bt a b = decide (ky a < ky b)) {g : Int} (h : 0 ≤ g) :
    ∀ k, (bst bt G C k g = none ∧ ∀ j, j < k → G (C j) ≠ g) ∨ ∃ j, j < k ∧ bst bt G C k g = some (C j) ∧ G (C j) = g ∧ ∀ l, l < k → G (C l) = g → ky (C j) ≤ ky (C l)
  | 0 => .inl ⟨rfl, fun j hj => by omega⟩
  | k + 1 => by
    have ih := bst_is ky bt G C hbt h k
    have hs : bst bt G C (k + 1) g = bestB bt (bst bt G C k) (G (C k)) (C k) g := rfl
    by_cases e : G (C k) = g
    · have hs2 : bst bt G C (k + 1) g = (match bst bt G C k g with | none => some (C k) | some b => if bt (C k) b = true then some (C k) else some b) := by
        rw [hs]
        unfold bestB
        rw [e, if_neg (by omega)]
        simp only [if_pos]
      rcases ih with ⟨i1, i2⟩ | ⟨j, i1, i2, i3, i4⟩
      · right
        refine ⟨k, by omega, by rw [hs2, i1], e, fun l hl hg => ?_⟩
        by_cases el : l = k
        · subst el; omega
        · exact absurd hg (i2 l (by omega))
      · right
        by_cases hb : ky (C k) < ky (C j)
        · refine ⟨k, by omega, by rw [hs2, i2]; simp [hbt, hb], e, fun l hl hg => ?_⟩
          by_cases el : l = k
          · subst el; omega
          · have := i4 l (by omega) hg
            omega
        · refine ⟨j, by omega, by rw [hs2, i2]; simp [hbt, hb], i3, fun l hl hg => ?_⟩
          by_cases el : l = k
          · subst el; omega
          · exact i4 l (by omega) hg
    · have hs2 : bst bt G C (k + 1) g = bst bt G C k g := by
        rw [hs]
        unfold bestB
        split
        · rfl
        · simp only; rw [if_neg (fun x => e x.symm)]
      rw [hs2]
      rcases ih with ⟨i1, i2⟩ | ⟨j, i1, i2, i3, i4⟩
      · left
        refine ⟨i1, fun j hj => ?_⟩
        by_cases el : j = k
        · subst el; exact e
        · exact i2 j (by omega)
      · right
        refine ⟨j, by omega, i2, i3, fun l hl hg => ?_⟩
        by_cases el : l = k
        · subst el; exact absurd hg e
        · exact i4 l (by omega) hg
theorem zero3 (w : World) : (zeroValue 3).run Tryd.prog w = .ok (.int .i64 0) w := by kernel_rfl
set_option maxHeartbeats 3200000 in
theorem best1_is (g h : FuncId) (gb gc hb hc : Array Value) (bt : Nat → Nat → Bool) (B : Int → Option Nat) (gv : Int) (x1 x2 x3 O c : Nat) (IG : World → Prop) (X : Nat → Prop) (w : World)
    (hrg : ∀ (args : Array Value) (W : World), Sem.run Tryd.prog (callFunc g args) W = .ok (.enter g args) W) (hrh : ∀ (args : Array Value) (W : World), Sem.run Tryd.prog (callFunc h args) W = .ok (.enter h args) W)
    (h1 : w.heap[x1]? = some (.cells #[.func (.func g) gb gc] 51)) (h2 : w.heap[x2]? = some (.cells #[.map (some O)] 63)) (h3 : w.heap[x3]? = some (.cells #[.func (.func h) hb hc] 62)) (hB : IMap w O (ofV B)) (hBN : ∀ x b, B x = some b → b ≤ 100000) (hcN : c ≤ 100000)
    (hX1 : ¬ X x1) (hX2 : ¬ X x2) (hX3 : ¬ X x3) (hXO : ¬ X O) (hgv : fit64 gv)
    (hg : Calls Tryd.prog g (gb ++ #[.int .i64 (c : Int)] ++ gc) w fun e w' => e = .returned (.int .i64 gv) ∧ IG w' ∧ Kept X w w')
    (hh : ∀ (W : World) (b : Nat), IG W → B gv = some b → Calls Tryd.prog h (hb ++ #[.int .i64 (c : Int), .int .i64 (b : Int)] ++ hc) W fun e w' => e = .returned (.bool (bt c b)) ∧ Below W.heap.size W w')
    (hI : ∀ W W', IG W → Kept (fun b => b = O) W W' → IG W') :
    Calls Tryd.prog 75 #[.int .i64 (c : Int), .pointer (some ⟨x1, 0, none⟩), .pointer (some ⟨x2, 0, none⟩), .pointer (some ⟨x3, 0, none⟩)] w fun e w' => e = .returned (.tuple #[]) ∧ IMap w' O (ofV (bestB bt B gv c)) ∧ IG w' ∧ Kept (fun b => X b ∨ b = O) w w' := by
  obtain ⟨c1, _, l1⟩ := bk1 h1
  have H1 := hidS h1
  have H2 := hidS h2
  have H3 := hidS h3
  have HB := hidS hB
  have HG := hidS hg
  have HH := hidS hh
  have HI := hidS hI
  have HBN := hidS hBN
  clear h1 h2 h3 hB hg hh hI hBN
  go_enter Tryd.func75, Tryd.ntmps75
  go_wp2_with fail
  refine HG.out.mono ?_
  rintro e w1 ⟨rfl, hi1, hk1⟩
  have HI1 := hidS hi1
  have HK1 := hidS hk1
  obtain ⟨c1', _, _⟩ := bk1 ((hk1.block x1 l1 hX1).trans H1.out)
  have k2 := (hk1.block x2 (Array.getElem?_eq_some_iff.1 H2.out).1 hX2).trans H2.out
  have k3 := (hk1.block x3 (Array.getElem?_eq_some_iff.1 H3.out).1 hX3).trans H3.out
  have HM1 : Hid (IMap w1 O (ofV B)) := HB.out.keep (hk1.block O HB.out.lt hXO)
  obtain ⟨c2, _, l2⟩ := bk1 k2
  obtain ⟨c3, _, l3⟩ := bk1 k3
  have HK3 := hidS k3
  have HK2 := hidS k2
  clear hi1 hk1 k2 k3 HG HB
  by_cases hneg : gv < 0
  · have HE := hidS (bestB_neg (bt := bt) (B := B) (c := c) hneg)
    go_wp2_with fail
    first | go_end0 | refine bodyPost_ret (results_none rfl _ _ _) rfl ?_
    exact ⟨rfl, by rw [HE.out]; exact HM1.out, HI1.out, HK1.out.mono (fun _ _ h => .inl h)⟩
  · have hlk := (IMap.look (t := 63) HM1.out (x := gv) hgv Tryd.underlying63 (zero3 w1)).2
    have hpu : ∀ W, IMap W O (ofV B) → ∃ w', (Instr.mapUpdate 63 (.map (some O)) (.int .i64 gv) (.int .i64 (c : Int))).run Tryd.prog W = .ok () w' ∧ IMap w' O (putI (ofV B) gv (.int .i64 (c : Int))) ∧ TurnedM W w' O := fun W hW => IMap.put hW hgv _ Tryd.underlying63
    have HPU := hidS hpu
    clear hpu
    cases hbg : B gv with
    | none =>
      have HE := hidS (bestB_put (bt := bt) (c := c) hneg (.inl hbg))
      have e0 : ofV B gv = none := by unfold ofV; rw [hbg]; rfl
      rw [e0] at hlk
      simp only [Option.getD_none, Option.isSome_none] at hlk
      obtain ⟨w5, hu5, hm5, ht5⟩ := HPU.out w1 HM1.out
      have HM5 := hidS hm5
      have HT5 := hidS ht5
      clear e0 hm5 ht5 HH
      go_wp2_with fail
      first | go_end0 | refine bodyPost_ret (results_none rfl _ _ _) rfl ?_
      exact ⟨rfl, by rw [HE.out]; exact HM5.out, HI.out _ _ HI1.out (Kept.of_turned HT5.out rfl), (HK1.out.mono (fun _ _ h => .inl h)).trans (Kept.of_turned HT5.out (.inr rfl))⟩
    | some b =>
      have e0 : ofV B gv = some (.int .i64 (b : Int)) := by unfold ofV; rw [hbg]; rfl
      rw [e0] at hlk
      simp only [Option.getD_some, Option.isSome_some] at hlk
      have CH := hidS (HH.out w1 b HI1.out hbg)
      have HBG := hidS hbg
      clear e0 HH hbg
      cases hbt : bt c b
      · rw [hbt, Array.append_assoc] at CH
        have HE := hidS (bestB_stay (bt := bt) HBG.out hbt)
        go_wp2_with fail
        refine CH.out.mono ?_
        rintro e w6 ⟨rfl, hb6⟩
        have HB6 := hidS hb6
        clear hb6
        go_wp2_with fail
        first | go_end0 | refine bodyPost_ret (results_none rfl _ _ _) rfl ?_
        exact ⟨rfl, by rw [HE.out]; exact HM1.out.keep (HB6.out.block O HM1.out.lt), HI.out _ _ HI1.out (Kept.of_below HB6.out), (HK1.out.mono (fun _ _ h => .inl h)).trans (Kept.of_below HB6.out)⟩
      · rw [hbt, Array.append_assoc] at CH
        have HE := hidS (bestB_put (bt := bt) (c := c) hneg (.inr ⟨b, HBG.out, hbt⟩))
        go_wp2_with fail
        refine CH.out.mono ?_
        rintro e w6 ⟨rfl, hb6⟩
        have HB6 := hidS hb6
        obtain ⟨c6, _, _⟩ := bk1 ((hb6.block x2 l2).trans HK2.out)
        obtain ⟨w5, hu5, hm5, ht5⟩ := HPU.out w6 (HM1.out.keep (hb6.block O HM1.out.lt))
        have HM5 := hidS hm5
        have HT5 := hidS ht5
        clear hb6 hm5 ht5
        go_wp2_with fail
        first | go_end0 | refine bodyPost_ret (results_none rfl _ _ _) rfl ?_
        exact ⟨rfl, by rw [HE.out]; exact HM5.out, HI.out _ _ HI1.out ((Kept.of_below HB6.out).trans (Kept.of_turned HT5.out rfl)), ((HK1.out.mono (fun _ _ h => .inl h)).trans (Kept.of_below HB6.out)).trans (Kept.of_turned HT5.out (.inr rfl))⟩
end Go.Proofs.YtnfljohddpadhaaDoor
