/-
  CONTRACTS of package axes: what is done for each context node, or for each node of a row, whatever it is.
-/
import Derived.Test.YtnfljohddpadhaaDoorStClimb
import Derived.Deep.QuietTactic
import Derived.BigQuiet
import Derived.WalkLawsBesides
import Derived.Outline
set_option linter.unusedVariables false
namespace Go.Proofs.YtnfljohddpadhaaDoor
set_option maxRecDepth 100000
open Go.RowKit Go.WideShapes

/-- the context nodes of a walk, one by one -/
def CtxAt (w : World) (ca : Option Addr) (K : Nat) (C : Nat → Nat) : Prop := 0 < K → ∃ cb co, ca = some ⟨cb, co, none⟩ ∧ cb < w.heap.size ∧ ∀ j, j < K → w.cell? ⟨cb, co + j, none⟩ = some (.int .i64 (C j : Int))
set_option maxHeartbeats 1600000 in
theorem each_gen (f : FuncId) (bound caps : Array Value) (Inv : Nat → World → Prop) (la : Option Addr) (lb lo N lcap : Nat) (E : Nat → Nd) (ca : Option Addr) (K ccap M : Nat) (C : Nat → Nat) (w : World) (hcap : K ≤ ccap) (hK : ccap ≤ maxLen)
    (hrun : ∀ (args : Array Value) (W : World), Sem.run Tryd.prog (callFunc f args) W = .ok (.enter f args) W)
    (hI : ∀ k W W', Inv k W → Below W.heap.size W W' → Inv k W') (hC : ∀ k W, Inv k W → CtxAt W ca K C)
    (hcall : ∀ k W, k < K → Inv k W → Calls Tryd.prog f (bound ++ #[.int .i64 (C k : Int)] ++ caps) W fun e w' => e = .returned (.tuple #[]) ∧ Inv (k + 1) w') (hinv : Inv 0 w) :
    Calls Tryd.prog 26 #[.agg #[.slice la N lcap, .slice ca K ccap, .map (some M)], .func (.func f) bound caps] w fun e w' => e = .returned (.tuple #[]) ∧ Inv K w' := by
  have HI0 := hidS (hI 0 w (w.alloc (.cells #[.slice la N lcap, .slice ca K ccap, .map (some M)] 39)) hinv ((Below.refl _ _).alloc (Nat.le_refl _) _))
  have HC := hidS hC
  have HCALL := hidS hcall
  unfold maxLen at hK
  clear hI hC hcall hinv
  go_enter Tryd.func26, Tryd.ntmps26
  go_wp2
  go_loopw [9] (fun v wr => ∃ k : Nat, k ≤ K ∧ v = .int .i64 k ∧ Inv k wr) (fun v _ => K - (intOf v).toNat)
  case atStart => exact ⟨0, Nat.zero_le _, rfl, HI0.out⟩
  case round =>
    obtain ⟨k, hk, rfl, hin⟩ := hrel
    have HIN := hidS hin
    clear hin
    by_cases hkK : k < K
    · have hki : (k : Int) < (K : Int) := by omega
      obtain ⟨cb, co, e1, e2, e3⟩ := HC.out k wr HIN.out (by omega)
      subst e1
      have e4 := e3 k hkK
      have CJ := hidS (HCALL.out k wr hkK HIN.out)
      clear e3
      go_wp2_with fail
      refine CJ.out.mono ?_
      rintro e w6 ⟨rfl, hi6⟩
      have HI6 := hidS hi6
      clear hi6
      go_wp2_with fail
      go_roundw
      case rel => exact ⟨k + 1, by omega, by go_num, HI6.out⟩
      case measure => simp [intOf] <;> omega
    · have hki : ¬ (k : Int) < (K : Int) := by omega
      obtain rfl : k = K := by omega
      go_wp2_with fail
      first | go_end0 | refine bodyPost_ret (results_none rfl _ _ _) rfl ?_
      exact ⟨rfl, HIN.out⟩
set_option maxHeartbeats 3200000 in
theorem row_gen (f : FuncId) (q : Nat → Prop) (la : Option Addr) (lb lo N lcap : Nat) (E : Nat → Nd) (ca : Option Addr) (K ccap M : Nat) (p fr to_ : Nat) (S : Nat → Prop) (w : World) (t : Tr E N) (hw : Wk w la lb lo N lcap E) (hM : lb ≠ M) (hS : Seen w M S) (hp : p < N) (hfr : Row1 E p fr) (hto : to_ ≤ p + zN E p)
    (hrun : ∀ (args : Array Value) (W : World), Sem.run Tryd.prog (callFunc f args) W = .ok (.enter f args) W)
    (hcall : ∀ (W : World) (S' : Nat → Prop) (n : Nat), n < N → Wk W la lb lo N lcap E → Seen W M S' → Calls Tryd.prog f #[.agg #[.slice la N lcap, .slice ca K ccap, .map (some M)], .int .i64 (n : Int)] W fun e w' => e = .returned (.tuple #[]) ∧ Seen w' M (fun i => S' i ∨ (i = n ∧ q i)) ∧ Kept (fun c => c = M) W w') :
    Calls Tryd.prog 28 #[.agg #[.slice la N lcap, .slice ca K ccap, .map (some M)], .int .i64 (fr : Int), .int .i64 (to_ : Int), .func (.func f) #[.agg #[.slice la N lcap, .slice ca K ccap, .map (some M)]] #[]] w fun e w' => e = .returned (.tuple #[]) ∧ Seen w' M (fun i => S i ∨ ((fr ≤ i ∧ i ≤ to_) ∧ (E i).parent = (p : Int) ∧ q i)) ∧ Kept (fun c => c = M) w w' := by
  have hlt := hS.lt
  have hz := (t.sz p hp).2
  have HS1 : Hid (Seen (w.alloc (.cells #[.slice la N lcap, .slice ca K ccap, .map (some M)] 39)) M S) := IMap.alloc hS _
  have HW1 : Hid (Wk (w.alloc (.cells #[.slice la N lcap, .slice ca K ccap, .map (some M)] 39)) la lb lo N lcap E) := hw.below ((Below.refl _ _).alloc (Nat.le_refl _) _)
  have CL : Hid (∀ (W : World) (n : Nat), n < N → Wk W la lb lo N lcap E → Calls Tryd.prog 29 #[.agg #[.slice la N lcap, .slice ca K ccap, .map (some M)], .int .i64 (n : Int)] W fun e w' => e = .returned (.int .i64 ((n + zN E n : Nat) : Int)) ∧ Below W.heap.size W w') := fun W n hn hW => last_is la lb lo N lcap E ca K ccap M n W t hW hn
  have HCALL := hidS hcall
  have HT := hidS t
  have HFR := hidS hfr
  have q2 := hw.n
  clear hS hw hcall t hfr
  go_enter Tryd.func28, Tryd.ntmps28
  go_wp2
  go_loopw [8] (fun v wr => ∃ m : Nat, v = .int .i64 (m : Int) ∧ fr ≤ m ∧ Row1 E p m ∧ (∀ i, fr ≤ i → i < m → (E i).parent = (p : Int) → i ≤ to_) ∧ Seen wr M (fun i => S i ∨ ((fr ≤ i ∧ i < m) ∧ (E i).parent = (p : Int) ∧ q i)) ∧ Kept (fun c => c = M) (w.alloc (.cells #[.slice la N lcap, .slice ca K ccap, .map (some M)] 39)) wr) (fun v _ => p + zN E p + 2 - (intOf v).toNat)
  case atStart => exact ⟨fr, rfl, Nat.le_refl _, HFR.out, fun i h1 h2 => by omega, Seen.congr HS1.out (fun i => ⟨.inl, fun h => h.elim id (fun k => by omega)⟩), Kept.refl _ _⟩
  case round =>
    obtain ⟨m, rfl, hm1, hm2, hm3, hsn, hkp⟩ := hrel
    have HM2 := hidS hm2
    have HM3 := hidS hm3
    have HSN := hidS hsn
    have HKP := hidS hkp
    clear hm2 hm3 hsn hkp
    by_cases hmt : m ≤ to_
    · have hmi : (m : Int) ≤ (to_ : Int) := by omega
      obtain ⟨g1, g2⟩ := HM2.out.step HT.out hp (by omega)
      have HG1 := hidS g1
      have HG2 := hidS g2
      have hpm : p < m := HM2.out.1
      have hmN : m < N := by omega
      have hmz := (HT.out.sz m hmN).2
      have CJ := hidS (HCALL.out wr _ m hmN (HW1.out.keep HKP.out hM) HSN.out)
      clear g1 g2
      go_wp2_with fail
      refine CJ.out.mono ?_
      rintro e w6 ⟨rfl, hs6, hk6⟩
      have HS6 := hidS hs6
      have HK6 : Hid (Kept (fun c => c = M) (w.alloc (.cells #[.slice la N lcap, .slice ca K ccap, .map (some M)] 39)) w6) := HKP.out.trans hk6
      obtain ⟨x0, x1, x2, x3⟩ := bk3 ((HK6.out.block w.heap.size (by simp) (by omega)).trans (heap_alloc_new _ _))
      have CL6 := hidS (CL.out w6 m hmN (HW1.out.keep HK6.out hM))
      clear hs6 hk6 CJ
      go_wp2_with (go_at_call 29; refine CL6.out.mono ?_; rintro e w7 ⟨rfl, hb7⟩; have HS7 := hidS (Seen.keep HS6.out (hb7.block M HS6.out.lt)); have HK7 : Hid (Kept (fun c => c = M) (w.alloc (.cells #[.slice la N lcap, .slice ca K ccap, .map (some M)] 39)) w7) := HK6.out.trans (Kept.of_below hb7); clear hb7)
      go_roundw
      case rel => exact ⟨m + zN E m + 1, by go_num, by omega, HG2.out, fun i h1 h2 h3 => by
        by_cases e : i < m
        · exact HM3.out i h1 e h3
        · by_cases e2 : i = m
          · omega
          · exact absurd h3 (row_between HT.out hmN hpm (by omega) (by omega)), Seen.congr HS7.out (fun i => ⟨fun h => by
            rcases h with (h | h) | h
            · exact .inl h
            · exact .inr ⟨⟨h.1.1, by omega⟩, h.2⟩
            · obtain ⟨rfl, h⟩ := h
              exact .inr ⟨⟨hm1, by omega⟩, HG1.out, h⟩, fun h => by
            rcases h with h | ⟨⟨h1, h2⟩, h3, h4⟩
            · exact .inl (.inl h)
            · by_cases e : i < m
              · exact .inl (.inr ⟨⟨h1, e⟩, h3, h4⟩)
              · by_cases e2 : i = m
                · exact .inr ⟨e2, h4⟩
                · exact absurd h3 (row_between HT.out hmN hpm (by omega) (by omega))⟩), HK7.out⟩
      case measure => simp [intOf] <;> omega
    · have hmi : ¬ (m : Int) ≤ (to_ : Int) := by omega
      go_wp2_with fail
      first | go_end0 | refine bodyPost_ret (results_none rfl _ _ _) rfl ?_
      exact ⟨rfl, Seen.congr HSN.out (fun i => ⟨fun h => h.elim .inl (fun k => .inr ⟨⟨k.1.1, HM3.out i k.1.1 k.1.2 k.2.1⟩, k.2⟩), fun h => h.elim .inl (fun k => .inr ⟨⟨k.1.1, by omega⟩, k.2⟩)⟩), (Kept.alloc (Kept.refl _ _) _).trans HKP.out⟩
end Go.Proofs.YtnfljohddpadhaaDoor
