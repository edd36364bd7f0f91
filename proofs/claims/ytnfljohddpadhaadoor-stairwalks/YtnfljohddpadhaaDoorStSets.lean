/-
  CONTRACTS of package axes: what all context nodes add to what is seen.
-/
import Derived.Test.YtnfljohddpadhaaDoorStAxes2
import Derived.Deep.QuietTactic
import Derived.BigQuiet
import Derived.WalkLawsBesides
import Derived.Outline
set_option linter.unusedVariables false
namespace Go.Proofs.YtnfljohddpadhaaDoor
set_option maxRecDepth 100000
open Go.RowKit Go.WideShapes

/-- the context nodes, where they lie -/
def CxAt (w : World) (ca : Option Addr) (cb co K : Nat) (C : Nat → Nat) : Prop := (0 < K → ca = some ⟨cb, co, none⟩ ∧ cb < w.heap.size) ∧ ∀ j, j < K → w.cell? ⟨cb, co + j, none⟩ = some (.int .i64 (C j : Int))
theorem CxAt.ctx {w : World} {ca : Option Addr} {cb co K : Nat} {C : Nat → Nat} (h : CxAt w ca cb co K C) : CtxAt w ca K C := fun h0 => ⟨cb, co, (h.1 h0).1, (h.1 h0).2, h.2⟩
theorem CxAt.keep {w w' : World} {ca : Option Addr} {cb co K : Nat} {C : Nat → Nat} {X : Nat → Prop} (h : CxAt w ca cb co K C) (hk : Kept X w w') (hX : ¬ X cb) : CxAt w' ca cb co K C :=
  ⟨fun h0 => ⟨(h.1 h0).1, Nat.lt_of_lt_of_le (h.1 h0).2 hk.size⟩, fun j hj => (cell_blk (hk.block cb (h.1 (by omega)).2 hX)).trans (h.2 j hj)⟩
theorem each_set (f : FuncId) (bound caps : Array Value) (Q : Nat → Nat → Prop) (P : (Nat → Prop) → Prop) (Z : World → Prop) (la : Option Addr) (lb lo N lcap : Nat) (E : Nat → Nd) (ca : Option Addr) (K ccap M : Nat) (cb co : Nat) (C : Nat → Nat) (S : Nat → Prop) (w : World) (t : Tr E N) (hcap : K ≤ ccap) (hK : ccap ≤ maxLen) (hw : Wk w la lb lo N lcap E) (hM : lb ≠ M) (hC : CxAt w ca cb co K C) (hcM : cb ≠ M) (hCN : ∀ j, j < K → C j < N)
    (hrun : ∀ (args : Array Value) (W : World), Sem.run Tryd.prog (callFunc f args) W = .ok (.enter f args) W)
    (hZ0 : Z w) (hZ : ∀ W W', Z W → Kept (fun b => b = M) W W' → Z W') (hS : Seen w M S) (hP0 : P S) (hP : ∀ S c, c < N → P S → P (fun i => S i ∨ Q c i))
    (hcall : ∀ (W : World) (S : Nat → Prop) (c : Nat), c < N → Wk W la lb lo N lcap E → Z W → Seen W M S → P S → Calls Tryd.prog f (bound ++ #[.int .i64 (c : Int)] ++ caps) W fun e w' => e = .returned (.tuple #[]) ∧ Seen w' M (fun i => S i ∨ Q c i) ∧ Kept (fun b => b = M) W w') :
    Calls Tryd.prog 26 #[.agg #[.slice la N lcap, .slice ca K ccap, .map (some M)], .func (.func f) bound caps] w fun e w' => e = .returned (.tuple #[]) ∧ Seen w' M (fun i => S i ∨ ∃ j, j < K ∧ Q (C j) i) ∧ Kept (fun b => b = M) w w' := by
  refine (each_gen f bound caps (fun k W => Wk W la lb lo N lcap E ∧ CxAt W ca cb co K C ∧ Z W ∧ (∃ S', Seen W M S' ∧ P S' ∧ ∀ i, S' i ↔ (S i ∨ ∃ j, j < k ∧ Q (C j) i)) ∧ Kept (fun b => b = M) w W) la lb lo N lcap E ca K ccap M C w hcap hK hrun ?_ ?_ ?_ ?_).mono ?_
  · rintro k W W' ⟨h1, h2, h3, ⟨S', h4, h5, h6⟩, h7⟩ hb
    have hk : Kept (fun b => b = M) W W' := Kept.of_below hb
    exact ⟨h1.keep hk hM, h2.keep hk hcM, hZ W W' h3 hk, ⟨S', Seen.keep h4 (hb.block M h4.lt), h5, h6⟩, h7.trans hk⟩
  · exact fun k W h => h.2.1.ctx
  · rintro k W hk ⟨h1, h2, h3, ⟨S', h4, h5, h6⟩, h7⟩
    refine (hcall W S' (C k) (hCN k hk) h1 h3 h4 h5).mono ?_
    rintro e w' ⟨rfl, g1, g2⟩
    refine ⟨rfl, h1.keep g2 hM, h2.keep g2 hcM, hZ W w' h3 g2, ⟨_, g1, hP _ _ (hCN k hk) h5, fun i => ?_⟩, h7.trans g2⟩
    rw [h6]
    constructor
    · rintro ((h | ⟨j, hj, h⟩) | h)
      · exact .inl h
      · exact .inr ⟨j, by omega, h⟩
      · exact .inr ⟨k, by omega, h⟩
    · rintro (h | ⟨j, hj, h⟩)
      · exact .inl (.inl h)
      · by_cases e : j = k
        · subst e; exact .inr h
        · exact .inl (.inr ⟨j, by omega, h⟩)
  · exact ⟨hw, hC, hZ0, ⟨S, hS, hP0, fun i => ⟨.inl, fun h => h.elim id (fun ⟨j, hj, _⟩ => by omega)⟩⟩, Kept.refl _ _⟩
  · rintro e w' ⟨rfl, h1, h2, h3, ⟨S', h4, h5, h6⟩, h7⟩
    exact ⟨rfl, Seen.congr h4 h6, h7⟩
theorem each_within (la : Option Addr) (lb lo N lcap : Nat) (E : Nat → Nd) (ca : Option Addr) (K ccap M : Nat) (cb co : Nat) (C : Nat → Nat) (S : Nat → Prop) (w : World) (t : Tr E N) (hcap : K ≤ ccap) (hK : ccap ≤ maxLen) (hw : Wk w la lb lo N lcap E) (hM : lb ≠ M) (hC : CxAt w ca cb co K C) (hcM : cb ≠ M) (hCN : ∀ j, j < K → C j < N) (xb nb : Nat) (hx : BoxAt w xb la N lcap ca K ccap M) (hxM : xb ≠ M) (hnb : w.heap[nb]? = some (.cells #[.int .i64 0] 3)) (hnM : nb ≠ M) (hnx : nb ≠ xb) (hnl : nb ≠ lb) (hnc : nb ≠ cb) (hasc : ∀ j k, j < k → k < K → C j ≤ C k) (hS : Seen w M S) :
    Calls Tryd.prog 26 #[.agg #[.slice la N lcap, .slice ca K ccap, .map (some M)], .func (.func 52) #[] #[.pointer (some ⟨nb, 0, none⟩), .pointer (some ⟨xb, 0, none⟩)]] w fun e w' => e = .returned (.tuple #[]) ∧ Seen w' M (fun i => S i ∨ ∃ j, j < K ∧ ((C j < i ∧ i ≤ C j + zN E (C j)) ∧ (E i).kind ≠ 2)) ∧ Kept (fun b => b = M ∨ b = nb) w w' := by
  refine (each_gen 52 #[] #[.pointer (some ⟨nb, 0, none⟩), .pointer (some ⟨xb, 0, none⟩)] (fun k W => Wk W la lb lo N lcap E ∧ CxAt W ca cb co K C ∧ BoxAt W xb la N lcap ca K ccap M ∧ (∃ nx : Nat, nx ≤ N ∧ W.heap[nb]? = some (.cells #[.int .i64 (nx : Int)] 3) ∧ (nx = 0 ∨ ∃ j, j < k ∧ nx = C j + zN E (C j) + 1)) ∧ Seen W M (fun i => S i ∨ ∃ j, j < k ∧ ((C j < i ∧ i ≤ C j + zN E (C j)) ∧ (E i).kind ≠ 2)) ∧ Kept (fun b => b = M ∨ b = nb) w W) la lb lo N lcap E ca K ccap M C w hcap hK (fun args V => by kernel_rfl) ?_ ?_ ?_ ?_).mono ?_
  · rintro k W W' ⟨h1, h2, h3, ⟨nx, h4, h5, h6⟩, h7, h8⟩ hb
    have hk : Kept (fun b => b = M) W W' := Kept.of_below hb
    exact ⟨h1.keep hk hM, h2.keep hk hcM, h3.keep hk hxM, ⟨nx, h4, (hb.block nb (Array.getElem?_eq_some_iff.1 h5).1).trans h5, h6⟩, Seen.keep h7 (hb.block M h7.lt), h8.trans (Kept.of_below hb)⟩
  · exact fun k W h => h.2.1.ctx
  · rintro k W hk ⟨h1, h2, h3, ⟨nx, h4, h5, h6⟩, h7, h8⟩
    have hz := (t.sz (C k) (hCN k hk)).2
    refine (within1_is la lb lo N lcap E ca K ccap M xb nb (C k) nx _ W t h1 hM h3 hxM h5 hnM hnx hnl h4 (hCN k hk) h7).mono ?_
    rintro e w' ⟨rfl, g1, g2, g3⟩
    have hX : ¬ (lb = M ∨ lb = nb) := fun h => h.elim hM (fun e => hnl e.symm)
    refine ⟨rfl, h1.keep g3 hX, h2.keep g3 (fun h => h.elim hcM (fun e => hnc e.symm)), h3.keep g3 (fun h => h.elim hxM (fun e => hnx e.symm)), ⟨_, by omega, g2, ?_⟩, Seen.congr g1 (fun i => ?_), h8.trans g3⟩
    · right
      by_cases e : nx ≤ C k + zN E (C k) + 1
      · exact ⟨k, by omega, by omega⟩
      · rcases h6 with h6 | ⟨j, hj, h6⟩
        · omega
        · exact ⟨j, by omega, by omega⟩
    · constructor
      · rintro ((h | ⟨j, hj, h⟩) | h)
        · exact .inl h
        · exact .inr ⟨j, by omega, h⟩
        · exact .inr ⟨k, by omega, ⟨by omega, h.1.2⟩, h.2⟩
      · rintro (h | ⟨j, hj, h⟩)
        · exact .inl (.inl h)
        · by_cases e : j = k
          · subst e
            by_cases e2 : nx ≤ i
            · exact .inr ⟨⟨by omega, h.1.2⟩, h.2⟩
            · rcases h6 with h6 | ⟨l, hl, h6⟩
              · omega
              · have := hasc l j hl hk
                exact .inl (.inr ⟨l, hl, ⟨by omega, by omega⟩, h.2⟩)
          · exact .inl (.inr ⟨j, by omega, h⟩)
  · exact ⟨hw, hC, hx, ⟨0, Nat.zero_le _, hnb, .inl rfl⟩, Seen.congr hS (fun i => ⟨.inl, fun h => h.elim id (fun ⟨j, hj, _⟩ => by omega)⟩), Kept.refl _ _⟩
  · rintro e w' ⟨rfl, h1, h2, h3, h4, h7, h8⟩
    exact ⟨rfl, h7, h8⟩
end Go.Proofs.YtnfljohddpadhaaDoor
